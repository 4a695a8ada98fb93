/- Parts of the proof, packed: TaHop, FwO, FwP. -/
import Derived.Test.YtpogblengagpaaaGreatDoorPa14
import Derived.Test.YtpogblengagpaaaGreatDoorPa12
import Derived.Test.YtpogblengagpaaaGreatDoorPa13
import Derived.Test.YtpogblengagpaaaGreatDoorPa4
import Derived.Deep.AppendLies
import Derived.Test.YtpogblengagpaaaGreatDoorPa7
import Derived.Test.YtpogblengagpaaaGreatDoorPa8
import Derived.Test.YtpogblengagpaaaGreatDoorPa3
import Derived.Test.YtpogblengagpaaaGreatDoorPa9
/- tables, the reference's functions: Hops. -/
namespace Go.Proofs.YtpogblengagpaaaGreatDoor
set_option maxRecDepth 100000
open Go.RowKit Bs
theorem nodup_leH : ∀ (l V : List Int), l.Nodup → (∀ x ∈ l, x ∈ V) → l.length ≤ V.length
 | [], _, _, _ => Nat.zero_le _
 | a :: t, V, hn, hs => by
  have h1 := List.nodup_cons.1 hn
  have ha := hs a (by simp)
  have h2 := nodup_leH t (V.erase a) h1.2 (fun x hx => (List.mem_erase_of_ne (fun e => h1.1 (by rw [← e]; exact hx))).2 (hs x (by simp [hx])))
  rw [List.length_erase_of_mem ha] at h2
  have := List.length_pos_of_mem ha
  rw [List.length_cons]
  omega
theorem stV_mem {R : List Rt} {L : List Lk} {D : Int → Int} {r x : Int} (h : x ∈ stV R L D r) : x ∈ ids R := by
 unfold stV at h
 split at h
 ·cases h
 ·have h2 := (List.mem_filter.1 h).1
  unfold nearR at h2
  obtain ⟨y, hy, rfl⟩ := List.mem_map.1 h2
  exact List.mem_map.2 ⟨y, (List.mem_filter.1 hy).1, rfl⟩
theorem stV_len (R : List Rt) (L : List Lk) (D : Int → Int) (r : Int) : (stV R L D r).length ≤ R.length := by
 unfold stV
 split
 ·exact Nat.zero_le _
 ·refine Nat.le_trans (List.length_filter_le _ _) ?_
  unfold nearR
  rw [List.length_map]
  exact List.length_filter_le _ _
def RdX (lo : Nat) (w : World) (v : Value) (p : Option Addr) (c : Nat) (X : List Int) : Prop := Rd w (fun b => lo ≤ b ∧ b < w.heap.size ∧ some b ≠ v.ownBlock) (.slice p X.length c) (X.map tv) ∧ (p = none → c = 0) ∧ (X.length ≤ c ∧ c ≤ 9223372036854775807)
theorem RdX.keep {lo : Nat} {w w1 : World} {v : Value} {p : Option Addr} {c : Nat} {X : List Int} (h : RdX lo w v p c X) (g : w.grownBy w1 none) : RdX lo w1 v p c X :=
 ⟨(h.1.keep g).mono (fun b hb => ⟨hb.1, Nat.lt_of_lt_of_le hb.2.1 g.size, hb.2.2⟩), h.2⟩
theorem RdX.put {lo : Nat} {w w1 : World} {v v' : Value} {p : Option Addr} {c : Nat} {X : List Int} (h : RdX lo w v p c X) (g : w.grownBy w1 v.ownBlock) (hv : v'.ownBlock = v.ownBlock ∨ ∀ b, some b = v'.ownBlock → w.heap.size ≤ b) : RdX lo w1 v' p c X :=
 ⟨(h.1.grown g (fun b hb => hb.2.2)).mono (fun b hb => ⟨hb.1, Nat.lt_of_lt_of_le hb.2.1 g.size, fun e => by
  rcases hv with hv | hv
  ·rw [hv] at e; exact hb.2.2 e
  ·have := hv b e; have := hb.2.1; omega⟩), h.2⟩
theorem rd_and {w : World} {q : Nat → Prop} {v : Value} {xs : List Value} (h : Rd w q v xs) : Rd w (fun b => q b ∧ b < w.heap.size) v xs := by
 obtain ⟨p, c, hv, hc⟩ := h
 refine ⟨p, c, hv, fun hne => ?_⟩
 obtain ⟨b, off, hp, hb, hx⟩ := hc hne
 obtain ⟨x, hx0⟩ : ∃ x, xs[0]? = some x := by
  cases xs with
  | nil => exact absurd rfl hne
  | cons a t => exact ⟨a, rfl⟩
 exact ⟨b, off, hp, ⟨hb, World.block_lt_of_cell? w ⟨b, off + 0, none⟩ (hx 0 x hx0)⟩, hx⟩
theorem tvT_atH {w : World} {q : Nat → Prop} {p : Option Addr} {n c i : Nat} {x : Int} {X : List Int} (h : Rd w q (.slice p n c) (X.map tv)) (hi : X[i]? = some x) :
  n = X.length ∧ ∃ b off, p = some ⟨b, off, none⟩ ∧ q b ∧ ∀ j y, X[j]? = some y → w.cell? ⟨b, off + j, none⟩ = some (.int .i64 y) := by
 obtain ⟨p1, c1, e1, hx⟩ := h
 injection e1 with a1 a2 a3
 subst a1
 have hne : X.map tv ≠ [] := by
  intro e
  have := List.map_eq_nil_iff.1 e
  subst this
  simp at hi
 obtain ⟨b, off, hp, hq, hc⟩ := hx hne
 exact ⟨by rw [a2, List.length_map], b, off, hp, hq, fun j y hj => hc j (tv y) (by rw [List.getElem?_map, hj]; rfl)⟩
structure HP (W : World) (C : Nat) (T : Tg) (pd : Option Addr) (cd : Nat) (A : List Int) (v : Value) (S : List Int) (w : World) : Prop where
 bx : w.heap[W.heap.size]? = some (.cells #[.slice T.pR T.R.length T.cR, .slice T.pL T.L.length T.cL] 68 (0, 0))
 t : TgOk w (· < C) T
 d : Rd w (· < C) (.slice pd A.length cd) (A.map tv)
 own : w.ownsRow C 3 1 v S.length (S.map tv)
 gr : W.grownBy w none
 lo : W.heap.size < C ∧ C ≤ w.heap.size
theorem HP.keep {W : World} {C : Nat} {T : Tg} {pd : Option Addr} {cd : Nat} {A : List Int} {v : Value} {S : List Int} {w w1 : World} (h : HP W C T pd cd A v S w) (g : w.grownBy w1 none) : HP W C T pd cd A v S w1 :=
 ⟨kept_row h.bx g (by simp), h.t.keep g, h.d.keep g, h.own.kept g (by cases v.ownBlock <;> simp), grown_trans h.gr g, h.lo.1, Nat.le_trans h.lo.2 g.size⟩
theorem HP.put {W : World} {C : Nat} {T : Tg} {pd : Option Addr} {cd : Nat} {A : List Int} {v v' : Value} {S S2 : List Int} {w w1 : World} (h : HP W C T pd cd A v S w) (hown : w1.ownsRow C 3 1 v' S2.length (S2.map tv)) (g : w.grownBy w1 v.ownBlock) : HP W C T pd cd A v' S2 w1 := by
 have hlo := h.lo
 have hne : ∀ b, b < C → some b ≠ v.ownBlock := fun b hb e => by have := (h.own.lt b e.symm).1; omega
 exact ⟨kept_row h.bx g (hne _ hlo.1), h.t.grown g hne, h.d.grown g hne, hown, grown_any h.gr g (fun b hb => hne b (by omega)), h.lo.1, Nat.le_trans h.lo.2 g.size⟩
theorem HP.lt {W : World} {C : Nat} {T : Tg} {pd : Option Addr} {cd : Nat} {A : List Int} {v : Value} {S : List Int} {w : World} (h : HP W C T pd cd A v S w) : ∀ b, v.ownBlock = some b → b < w.heap.size := fun b e => (h.own.lt b e).2
theorem HP.new {W : World} {C : Nat} {T : Tg} {pd : Option Addr} {cd : Nat} {A : List Int} {v : Value} {S : List Int} {w w1 : World} (h : HP W C T pd cd A v S w) {p : Option Addr} {c : Nat} {X : List Int} (g : w.grownBy w1 none) (hR : Rd w1 (w.heap.size ≤ ·) (.slice p X.length c) (X.map tv)) (hc : X.length ≤ c ∧ c ≤ 9223372036854775807) (hn : p = none → c = 0) : RdX W.heap.size w1 v p c X :=
 ⟨(rd_and hR).mono (fun b hb => ⟨Nat.le_trans h.gr.size hb.1, hb.2, fun e => by have := h.lt b e.symm; have := hb.1; omega⟩), hn, hc⟩
def HopC (R : List Rt) (L : List Lk) (D : Int → Int) (x s : Int) : Prop := ∀ P : Int → Prop, P x → (∀ a b, P a → b ∈ stV R L D a → capV R L b = false → P b) → P s
def HopM (R : List Rt) (L : List Lk) (D : Int → Int) (x y : Int) : Prop := ∃ s, HopC R L D x s ∧ y ∈ stV R L D s ∧ capV R L y = true
def HopsIs (R : List Rt) (L : List Lk) (x z : Int) (M : List Int) : Prop := if hasV R L x = true ∧ hasV R L z = true ∧ x ≠ z then ∀ y, y ∈ M ↔ HopM R L (toK L z R.length) x y else M = []
structure HI (R : List Rt) (L : List Lk) (D : Int → Int) (x : Int) (i : Nat) (S M : List Int) : Prop where
 c : ∀ s ∈ S, HopC R L D x s
 m : ∀ y ∈ M, HopM R L D x y
 x0 : x ∈ S
 d : ∀ (j : Nat) (s : Int), j < i → S[j]? = some s → ∀ y ∈ stV R L D s, (capV R L y = true → y ∈ M) ∧ (capV R L y = false → y ∈ S)
structure HJ (R : List Rt) (L : List Lk) (D : Int → Int) (x : Int) (i : Nat) (y0 : Int) (N : List Int) (k : Nat) (S M : List Int) : Prop where
 h : HI R L D x i S M
 s0 : S[i]? = some y0
 e : ∀ (j : Nat) (y : Int), j < k → N[j]? = some y → (capV R L y = true → y ∈ M) ∧ (capV R L y = false → y ∈ S)
section
variable {R : List Rt} {L : List Lk} {D : Int → Int} {x : Int} {i k : Nat} {y0 y : Int} {N S M : List Int}
theorem HI.start : HI R L D x 0 [x] [] := ⟨fun s hs => by rw [List.mem_singleton.1 hs]; exact fun P h _ => h, fun y hy => (by cases hy), List.mem_singleton.2 rfl, fun j s hj => absurd hj (Nat.not_lt_zero _)⟩
theorem HI.toJ (h : HI R L D x i S M) (hs : S[i]? = some y0) : HJ R L D x i y0 N 0 S M := ⟨h, hs, fun j y hj => absurd hj (Nat.not_lt_zero _)⟩
theorem HJ.cap (h : HJ R L D x i y0 N k S M) (hN : stV R L D y0 = N) (hy : N[k]? = some y) (hc : capV R L y = true) {M2 : List Int} (hM : ∀ z, z ∈ M2 ↔ z = y ∨ z ∈ M) : HJ R L D x i y0 N (k + 1) S M2 := by
 refine ⟨⟨h.h.c, fun z hz => ?_, h.h.x0, fun j s hj hs z hz => ⟨fun hc => (hM z).2 (Or.inr ((h.h.d j s hj hs z hz).1 hc)), (h.h.d j s hj hs z hz).2⟩⟩, h.s0, fun j z hj hz => ?_⟩
 ·rcases (hM z).1 hz with rfl | hz
  ·exact ⟨y0, h.h.c y0 (List.mem_of_getElem? h.s0), by rw [hN]; exact List.mem_of_getElem? hy, hc⟩
  ·exact h.h.m z hz
 ·rcases Nat.lt_or_ge j k with hlt | hge
  ·exact ⟨fun hc => (hM z).2 (Or.inr ((h.e j z hlt hz).1 hc)), (h.e j z hlt hz).2⟩
  ·obtain rfl : j = k := by omega
   obtain rfl : y = z := Option.some.inj (hy.symm.trans hz)
   exact ⟨fun _ => (hM y).2 (Or.inl rfl), fun h => (by rw [hc] at h; cases h)⟩
theorem HJ.has (h : HJ R L D x i y0 N k S M) (hy : N[k]? = some y) (hc : capV R L y = false) (hs : y ∈ S) : HJ R L D x i y0 N (k + 1) S M := by
 refine ⟨h.h, h.s0, fun j z hj hz => ?_⟩
 rcases Nat.lt_or_ge j k with hlt | hge
 ·exact h.e j z hlt hz
 ·obtain rfl : j = k := by omega
  obtain rfl : y = z := Option.some.inj (hy.symm.trans hz)
  exact ⟨fun h => (by rw [hc] at h; cases h), fun _ => hs⟩
theorem HJ.push (h : HJ R L D x i y0 N k S M) (hN : stV R L D y0 = N) (hy : N[k]? = some y) (hc : capV R L y = false) (hi : i < S.length) : HJ R L D x i y0 N (k + 1) (S ++ [y]) M := by
 have hil : ∀ j, j ≤ i → (S ++ [y])[j]? = S[j]? := fun j hj => List.getElem?_append_left (by omega)
 refine HJ.has ⟨⟨fun s hs => ?_, h.h.m, List.mem_append_left _ h.h.x0, fun j s hj hs z hz => ?_⟩, by rw [hil i (Nat.le_refl _)]; exact h.s0, fun j z hj hz => ⟨(h.e j z hj hz).1, fun hc => List.mem_append_left _ ((h.e j z hj hz).2 hc)⟩⟩ hy hc (by simp)
 ·rcases List.mem_append.1 hs with hs | hs
  ·exact h.h.c s hs
  ·rw [List.mem_singleton.1 hs]
   exact fun P h0 h1 => h1 y0 y (h.h.c y0 (List.mem_of_getElem? h.s0) P h0 h1) (by rw [hN]; exact List.mem_of_getElem? hy) hc
 ·rw [hil j (by omega)] at hs
  exact ⟨(h.h.d j s hj hs z hz).1, fun hc => List.mem_append_left _ ((h.h.d j s hj hs z hz).2 hc)⟩
theorem HJ.fin (h : HJ R L D x i y0 N k S M) (hN : stV R L D y0 = N) (hk : k = N.length) : HI R L D x (i + 1) S M := by
 refine ⟨h.h.c, h.h.m, h.h.x0, fun j s hj hs z hz => ?_⟩
 rcases Nat.lt_or_ge j i with hlt | hge
 ·exact h.h.d j s hlt hs z hz
 ·obtain rfl : j = i := by omega
  obtain rfl : y0 = s := Option.some.inj (h.s0.symm.trans hs)
  rw [hN] at hz
  obtain ⟨q, hq, hz⟩ := List.getElem_of_mem hz
  exact h.e q z (by omega) (by rw [List.getElem?_eq_getElem hq, hz])
theorem HI.fin (h : HI R L D x i S M) (hi : i = S.length) : ∀ y, y ∈ M ↔ HopM R L D x y := by
 refine fun y => ⟨h.m y, fun ⟨s, hc, hs, hy⟩ => ?_⟩
 have hd : ∀ s ∈ S, ∀ y ∈ stV R L D s, (capV R L y = true → y ∈ M) ∧ (capV R L y = false → y ∈ S) := fun s hs => by
  obtain ⟨q, hq, hz⟩ := List.getElem_of_mem hs
  exact h.d q s (by omega) (by rw [List.getElem?_eq_getElem hq, hz])
 exact ((hd s (hc (· ∈ S) h.x0 (fun a b ha hb hcb => (hd a ha b hb).2 hcb))) y hs).1 hy
end
def HopsPost (R : List Rt) (L : List Lk) (x z : Int) (w : World) (e : Ending) (w' : World) : Prop :=
 ∃ (M : List Int) (p : Option Addr) (c : Nat), e = .returned (.slice p M.length c) ∧ Rd w' (w.heap.size ≤ ·) (.slice p M.length c) (M.map tv) ∧ (p = none → c = 0) ∧ (M.length ≤ c ∧ c ≤ 9223372036854775807) ∧ M.Pairwise (· < ·) ∧ (∀ y ∈ M, y ∈ ids R) ∧ HopsIs R L x z M ∧ w.grownBy w' none
theorem iv_rowH (w : World) (x : Int) (t : TypeId) : ∀ j u, [Value.int .i64 x][j]? = some u → (w.alloc (.cells #[.int .i64 x] t)).cell? ((⟨w.heap.size, 0, none⟩ : Addr).add j) = some u := by
 intro j u hu
 rw [add_plain]
 have hb := heap_alloc_new w (.cells #[.int .i64 x] t)
 rcases j with _ | j
 ·cases hu; exact cell_of_row _ _ _ _ _ _ hb
 ·simp at hu
theorem own_shapeH {w : World} {base : Nat} {S : List Int} {ps : Option Addr} {cs i : Nat} {y : Int} (h : w.ownsRow base 3 1 (.slice ps S.length cs) S.length (S.map tv)) (hy : S[i]? = some y) : ∃ b off, ps = some ⟨b, off, none⟩ ∧ w.cell? ⟨b, off + i, none⟩ = some (.int .i64 y) := by
 obtain ⟨-, b, off, hp, -, hc⟩ := tvT_atH (rd_of_own h) hy
 exact ⟨b, off, hp, hc i y hy⟩
set_option maxHeartbeats 12800000 in
theorem rhops_any (T : Tg) (x z : Int) (q : Nat → Prop) (w : World) (hT : TgOk w q T) :
  Calls Tryz.prog 91 #[.agg #[.slice T.pR T.R.length T.cR, .slice T.pL T.L.length T.cL], .int .i64 x, .int .i64 z] w fun e w' => HopsPost T.R T.L x z w e w' := by
 obtain ⟨ii, hii, hi0, hi1, hi2⟩ := info_parts info_int
 obtain ⟨R, L, pR, cR, pL, cL⟩ := T
 simp only
 obtain ⟨k1, k2⟩ := tone_box w #[.slice pR R.length cR, .slice pL L.length cL] 68
 have H0 := Lib.hid (And.intro k1 (And.intro k2 (hT.old.keep k2)))
 have HLZ : Hid (w.heap.size < (w.alloc (.cells #[.slice pR R.length cR, .slice pL L.length cL] 68)).heap.size) := Lib.hid (by simp)
 clear k1 k2 hT
 go_enter Tryz.func91, Tryz.ntmps91
 go_upto_region 1 with fail
 generalize w.alloc _ = w1 at *
 have hnil : ∀ w', ¬ (hasV R L x = true ∧ hasV R L z = true ∧ x ≠ z) → w.grownBy w' none → HopsPost R L x z w (.returned (.slice none 0 0)) w' := fun w' hno g => ⟨[], none, 0, rfl, ⟨none, 0, rfl, fun h => absurd rfl h⟩, fun _ => rfl, ⟨Nat.le_refl _, by show (0 : Nat) ≤ _; omega⟩, List.Pairwise.nil, fun y hy => (by cases hy), by unfold HopsIs; rw [if_neg hno], g⟩
 have HNIL := Lib.hid hnil
 clear hnil
 obtain ⟨c0, c1⟩ := row_cells H0.out.1
 go_wp2_with fail
 refine (rhasV_any ⟨R, L, pR, cR, pL, cL⟩ x _ w1 H0.out.2.2).mono ?_
 rintro e w2 ⟨rfl, hg⟩
 have H2 := Lib.hid (And.intro (kept_row H0.out.1 hg (by simp)) (And.intro (grown_trans H0.out.2.1 hg) (And.intro (H0.out.2.2.keep hg) (Nat.lt_of_lt_of_le HLZ.out hg.size))))
 clear hg H0 HLZ c0 c1
 simp only
 cases hx : hasV R L x
 case false =>
  have HF := Lib.hid hx
  clear hx
  go_wp2_with fail
  go_ret
  exact HNIL.out _ (fun h => by rw [HF.out] at h; cases h.1) H2.out.2.1
 have HX := Lib.hid hx
 clear hx
 obtain ⟨c0, c1⟩ := row_cells H2.out.1
 go_wp2_with fail
 refine (rhasV_any ⟨R, L, pR, cR, pL, cL⟩ z _ w2 H2.out.2.2.1).mono ?_
 rintro e w3 ⟨rfl, hg⟩
 have H3 := Lib.hid (And.intro (kept_row H2.out.1 hg (by simp)) (And.intro (grown_trans H2.out.2.1 hg) (And.intro (H2.out.2.2.1.keep hg) (Nat.lt_of_lt_of_le H2.out.2.2.2 hg.size))))
 clear hg H2 c0 c1
 simp only
 cases hz : hasV R L z
 case false =>
  have HF := Lib.hid hz
  clear hz
  go_wp2_with fail
  go_ret
  exact HNIL.out _ (fun h => by rw [HF.out] at h; cases h.2.1) H3.out.2.1
 have HZ := Lib.hid hz
 clear hz
 by_cases hxz : x = z
 case pos =>
  have hxz' : (x == z) = true := by simpa using hxz
  have HF := Lib.hid hxz
  clear hxz
  go_wp2_with fail
  go_ret
  exact HNIL.out _ (fun h => h.2.2 HF.out) H3.out.2.1
 have hxz' : (x == z) = false := by simpa using hxz
 have HNE := Lib.hid hxz
 clear hxz
 obtain ⟨c0, c1⟩ := row_cells H3.out.1
 go_wp2_with fail
 refine (rto_any ⟨R, L, pR, cR, pL, cL⟩ z _ w3 H3.out.2.2.1 HZ.out).mono ?_
 rintro e w4 ⟨pd, cd, rfl, hd, hcd, hnd, hg⟩
 simp only at hd hcd ⊢
 obtain ⟨hok, hxi⟩ := hasV_iff.1 HX.out
 have HBD : Hid (∀ v, 0 ≤ toK L z R.length v ∧ toK L z R.length v ≤ farN) := Lib.hid (fun v => toJ_bd hok z R.length 0 v)
 obtain ⟨D, hD⟩ : ∃ D, toK L z R.length = D := ⟨_, rfl⟩
 rw [hD] at hd hcd HBD ⊢
 obtain ⟨A, hA⟩ : ∃ A, (ids R).map D = A := ⟨_, rfl⟩
 rw [hA] at hd hcd ⊢
 have HA := Lib.hid hA.symm
 have HOK := Lib.hid (And.intro hok hxi)
 have HDD := Lib.hid hD
 have HYES := Lib.hid (And.intro HX.out (And.intro HZ.out HNE.out))
 have hl24 := (okT_len hok).1
 have H4 := Lib.hid (And.intro (kept_row H3.out.1 hg (by simp)) (And.intro (grown_trans H3.out.2.1 hg) (And.intro (H3.out.2.2.1.keep hg) (And.intro ((rd_and hd).mono (q' := fun b => b < w4.heap.size) (fun b hb => hb.2)) (Nat.lt_of_lt_of_le H3.out.2.2.2 hg.size)))))
 have g4 := World.grownBy_alloc w4 (.cells #[.int .i64 x] 3) none
 have hlit : (w4.alloc (.cells #[.int .i64 x] 3)).ownsRow w4.heap.size 3 1 (.slice (some ⟨w4.heap.size, 0, none⟩) 1 1) ([x] : List Int).length (([x] : List Int).map tv) := World.ownsRow_lit w4 #[.int .i64 x] 1 (Nat.le_refl _) (by decide) rfl
 have HP0 : Hid (HP w w4.heap.size ⟨R, L, pR, cR, pL, cL⟩ pd cd A (.slice (some ⟨w4.heap.size, 0, none⟩) 1 1) [x] (w4.alloc (.cells #[.int .i64 x] 3))) := Lib.hid ⟨kept_row H4.out.1 g4 (by simp), (H4.out.2.2.1.keep g4).mono (fun b (hb : b < w.heap.size) => by have := H4.out.2.2.2.2; show b < w4.heap.size; omega), H4.out.2.2.2.1.keep g4, hlit, grown_trans H4.out.2.1 g4, H4.out.2.2.2.2, g4.size⟩
 clear hd hcd hnd hg hD hA hok hxi g4 hlit H3 H4 c0 c1 HZ HX
 go_upto_region 5 with fail
 generalize w4.alloc _ = w5 at *
 generalize w4.heap.size = C at *
 go_wp2_with fail
 go_loopw [8, 9, 10] (fun sv ov a wr => ∃ (i : Nat) (S M : List Int) (ps : Option Addr) (cs : Nat) (po : Option Addr) (co : Nat), a = .int .i64 (i : Int) ∧ sv = .slice ps S.length cs ∧ ov = .slice po M.length co ∧ i ≤ S.length ∧ Hid (S.Nodup ∧ ∀ y ∈ S, y ∈ ids R) ∧ Hid (M.Pairwise (· < ·) ∧ ∀ y ∈ M, y ∈ ids R) ∧ Hid (HI R L D x i S M) ∧ Hid (HP w C ⟨R, L, pR, cR, pL, cL⟩ pd cd A (.slice ps S.length cs) S wr ∧ RdX w.heap.size wr (.slice ps S.length cs) po co M)) (fun _ _ a _ => 25 - (RowKit.intOf a).toNat)
 case atStart => exact ⟨0, [x], [], _, 1, none, 0, rfl, rfl, rfl, Nat.zero_le _, Lib.hid ⟨by simp, fun y hy => by rw [List.mem_singleton.1 hy]; exact HOK.out.2⟩, Lib.hid ⟨List.Pairwise.nil, fun y hy => by cases hy⟩, Lib.hid HI.start, Lib.hid ⟨HP0.out, ⟨none, 0, rfl, fun h => absurd rfl h⟩, fun _ => rfl, Nat.le_refl _, by show (0 : Nat) ≤ _; omega⟩⟩
 case round =>
 clear HP0
 obtain ⟨i, S, M, ps, cs, po, co, rfl, rfl, rfl, hi, HS, HM, HH, K⟩ := hrel
 obtain ⟨w6, hw6⟩ : ∃ w6, w6 = wr := ⟨_, rfl⟩
 rw [← hw6] at K ⊢
 clear hw6
 have hSl : S.length ≤ 24 := Nat.le_trans (nodup_leH S (ids R) HS.out.1 HS.out.2) (by rw [ids_len]; exact hl24)
 by_cases hlt : i < S.length
 case neg =>
  obtain rfl : i = S.length := by omega
  have hnl : ¬ (S.length : Int) < (S.length : Int) := by omega
  go_wp2_with fail
  go_ret
  exact ⟨M, po, co, rfl, K.out.2.1.mono (fun b hb => hb.1), K.out.2.2.1, K.out.2.2.2, HM.out.1, HM.out.2, by unfold HopsIs; rw [if_pos HYES.out, HDD.out]; exact HH.out.fin rfl, K.out.1.gr⟩
 have hlt' : (i : Int) < (S.length : Int) := by omega
 have hin0 : (0 : Int) ≤ (i : Int) := by omega
 obtain ⟨y, hy⟩ : ∃ y, S[i]? = some y := ⟨_, List.getElem?_eq_getElem hlt⟩
 obtain ⟨b, off, rfl, hsc⟩ := own_shapeH K.out.1.own hy
 have HSC : Hid (∀ u, HP w C ⟨R, L, pR, cR, pL, cL⟩ pd cd A (.slice (some ⟨b, off, none⟩) S.length cs) S u → u.cell? ⟨b, off + i, none⟩ = some (.int .i64 y)) := Lib.hid (fun u hu => by
  obtain ⟨b', off', hpe, hc'⟩ := own_shapeH hu.own hy
  injection hpe with hpe
  injection hpe with e1 e2
  subst e1
  subst e2
  exact hc')
 obtain ⟨c0, c1⟩ := row_cells K.out.1.bx
 have HY0 := Lib.hid hy
 clear hsc hy
 go_upto_region 9 with fail
 refine wp_region_held_drew (S := fun w' => Hid (HP w C ⟨R, L, pR, cR, pL, cL⟩ pd cd A (.slice (some ⟨b, off, none⟩) S.length cs) S w' ∧ RdX w.heap.size w' (.slice (some ⟨b, off, none⟩) S.length cs) po co M)) (by kernel_rfl) (Lib.hid ⟨K.out.1.keep (grown_drew (grown_refl _ none)), K.out.2.keep (grown_drew (grown_refl _ none))⟩) (fun hHeld => ?_)
 refine zT (i := 0) (v := ?_) rfl ?_ hHeld ?_
 rotate_left 1
 ·intro u hSu
  obtain ⟨c0u, c1u⟩ := row_cells hSu.out.1.bx
  have s0u := HSC.out _ hSu.out.1
  go_simp
  first | done | with_reducible rfl
 try simp only [Act.put, zA, zB, zC]
 refine zT (i := 1) (v := ?_) rfl ?_ hHeld ?_
 rotate_left 1
 ·intro u hSu
  go_simp
  first | done | with_reducible rfl
 try simp only [Act.put, zA, zB, zC]
 refine zT (i := 2) (v := ?_) rfl ?_ hHeld ?_
 rotate_left 1
 ·intro u hSu
  go_simp
  first | done | with_reducible rfl
 try simp only [Act.put, zA, zB, zC]
 refine zT (i := 3) (v := ?_) rfl ?_ hHeld ?_
 rotate_left 1
 ·intro u hSu
  go_simp
  first | done | with_reducible rfl
 try simp only [Act.put, zA, zB, zC]
 refine zT (i := 4) (v := ?_) rfl ?_ hHeld ?_
 rotate_left 1
 ·intro u hSu
  go_simp
  first | done | with_reducible rfl
 try simp only [Act.put, zA, zB, zC]
 refine zT (i := 5) (v := ?_) rfl ?_ hHeld ?_
 rotate_left 1
 ·intro u hSu
  obtain ⟨c0u, c1u⟩ := row_cells hSu.out.1.bx
  have s0u := HSC.out _ hSu.out.1
  go_simp
  first | done | with_reducible rfl
 try simp only [Act.put, zA, zB, zC]
 refine wpAnyH_ready (rs := [6]) (by kernel_rfl) (by simp) ?_
 refine AllReadyH.cons (o := ⟨_, _, _, _, _, _⟩) rfl (fun Kz hK => ?_) AllReadyH.nil
 go_simp
 go_at_call 114
 refine (rsteps_any ⟨R, L, pR, cR, pL, cL⟩ D y A pd cd _ _ _ hHeld.out.1.t HOK.out.1 HA.out hHeld.out.1.d HBD.out).mono ?_
 rintro e w7 ⟨pn, cn, rfl, hn, hcn, hnn, hg⟩
 have HX9 := Lib.hid (hHeld.out.1.new hg hn hcn hnn)
 have HN9 := Lib.hid (And.intro (hHeld.out.1.keep hg) (hHeld.out.2.keep hg))
 clear hn hcn hnn hg
 refine hK.out _ _ (HN9) (fun hH2 => ?_)
 clear hK Kz hHeld
 have hHeld := hH2
 clear hH2
 try simp only [Act.put, zA, zB, zC]
 refine zT (i := 7) (v := ?_) rfl ?_ hHeld ?_
 rotate_left 1
 ·intro u hSu
  go_simp
  first | done | with_reducible rfl
 try simp only [Act.put, zA, zB, zC]
 refine wpAnyH_done (by kernel_rfl) ?_ _
 have HN := Lib.hid (And.intro (stV_len R L D y) (fun v (hv : v ∈ stV R L D y) => stV_mem hv))
 obtain ⟨N, hN⟩ : ∃ N, stV R L D y = N := ⟨_, rfl⟩
 rw [hN] at HN HX9 ⊢
 have HNN := Lib.hid hN
 have HJ0 : Hid (HJ R L D x i y N 0 S M) := Lib.hid (HH.out.toJ HY0.out)
 clear hN HSC c0 c1 K HY0 HH
 have hNl : N.length ≤ 24 := Nat.le_trans HN.out.1 hl24
 have HK9 := Lib.hid (And.intro hHeld.out HX9.out)
 clear hHeld HX9
 go_wp2_with fail
 have HK0 := Lib.hid (And.intro HK9.out.1.1 (And.intro HK9.out.1.2 HK9.out.2))
 clear HK9
 go_loopw [8, 9, 12] (fun sv ov a wr => ∃ (k : Nat) (S M : List Int) (ps : Option Addr) (cs : Nat) (po : Option Addr) (co : Nat), a = .int .i64 (k : Int) ∧ sv = .slice ps S.length cs ∧ ov = .slice po M.length co ∧ k ≤ N.length ∧ i < S.length ∧ Hid (S.Nodup ∧ ∀ y ∈ S, y ∈ ids R) ∧ Hid (M.Pairwise (· < ·) ∧ ∀ y ∈ M, y ∈ ids R) ∧ Hid (HJ R L D x i y N k S M) ∧ Hid (HP w C ⟨R, L, pR, cR, pL, cL⟩ pd cd A (.slice ps S.length cs) S wr ∧ RdX w.heap.size wr (.slice ps S.length cs) po co M ∧ RdX w.heap.size wr (.slice ps S.length cs) pn cn N)) (fun _ _ a _ => N.length - (RowKit.intOf a).toNat)
 case atStart => exact ⟨0, S, M, _, cs, po, co, rfl, rfl, rfl, Nat.zero_le _, hlt, HS, HM, HJ0, HK0⟩
 case round =>
 clear HK0 HS HM HJ0 hlt hlt' hSl hi
 obtain ⟨k, S, M, ps, cs, po, co, rfl, rfl, rfl, hk, hiS, HS, HM, HH, K⟩ := hrel
 obtain ⟨w8, hw8⟩ : ∃ w8, w8 = wr := ⟨_, rfl⟩
 rw [← hw8] at K ⊢
 clear hw8
 have hSl : S.length ≤ 24 := Nat.le_trans (nodup_leH S (ids R) HS.out.1 HS.out.2) (by rw [ids_len]; exact hl24)
 have hMl : M.length ≤ 24 := Nat.le_trans (nodup_leH M (ids R) (HM.out.1.imp (fun h => by omega)) HM.out.2) (by rw [ids_len]; exact hl24)
 by_cases hkn : k < N.length
 case neg =>
  obtain rfl : k = N.length := by omega
  have hnl : ¬ (N.length : Int) < (N.length : Int) := by omega
  have K2 := Lib.hid (And.intro K.out.1 K.out.2.1)
  have HH2 := Lib.hid (HH.out.fin HNN.out rfl)
  clear K HH
  go_wp2_with fail
  exact ⟨⟨i + 1, S, M, ps, cs, po, co, congrArg _ (by omega), rfl, rfl, by omega, HS, HM, HH2, K2⟩, by simp only [RowKit.intOf]; omega⟩
 have hkn' : (k : Int) < (N.length : Int) := by omega
 have hkn0 : (0 : Int) ≤ (k : Int) := by omega
 obtain ⟨y2, hy2⟩ : ∃ y2, N[k]? = some y2 := ⟨_, List.getElem?_eq_getElem hkn⟩
 have HY2 := Lib.hid (HN.out.2 y2 (List.mem_of_getElem? hy2))
 obtain ⟨-, bn, on, rfl, -, -⟩ := tvT_atH K.out.2.2.1 hy2
 have NSC : Hid (∀ u v, RdX w.heap.size u v (some ⟨bn, on, none⟩) cn N → u.cell? ⟨bn, on + k, none⟩ = some (.int .i64 y2)) := Lib.hid (fun u v hu => by
  obtain ⟨-, b', off', hpe, -, hc'⟩ := tvT_atH hu.1 hy2
  injection hpe with hpe
  injection hpe with e1 e2
  subst e1
  subst e2
  exact hc' k y2 hy2)
 obtain ⟨c0, c1⟩ := row_cells K.out.1.bx
 have HY3 := Lib.hid hy2
 clear hy2
 go_upto_region 13 with fail
 refine wp_region_held_drew (S := fun w' => Hid (HP w C ⟨R, L, pR, cR, pL, cL⟩ pd cd A (.slice ps S.length cs) S w' ∧ RdX w.heap.size w' (.slice ps S.length cs) po co M ∧ RdX w.heap.size w' (.slice ps S.length cs) (some ⟨bn, on, none⟩) cn N)) (by kernel_rfl) (Lib.hid ⟨K.out.1.keep (grown_drew (grown_refl _ none)), K.out.2.1.keep (grown_drew (grown_refl _ none)), K.out.2.2.keep (grown_drew (grown_refl _ none))⟩) (fun hHeld => ?_)
 refine zT (i := 0) (v := ?_) rfl ?_ hHeld ?_
 rotate_left 1
 ·intro u hSu
  obtain ⟨c0u, c1u⟩ := row_cells hSu.out.1.bx
  have n0u := NSC.out _ _ hSu.out.2.2
  go_simp
  first | done | with_reducible rfl
 try simp only [Act.put, zA, zB, zC]
 refine zT (i := 1) (v := ?_) rfl ?_ hHeld ?_
 rotate_left 1
 ·intro u hSu
  go_simp
  first | done | with_reducible rfl
 try simp only [Act.put, zA, zB, zC]
 refine zT (i := 2) (v := ?_) rfl ?_ hHeld ?_
 rotate_left 1
 ·intro u hSu
  go_simp
  first | done | with_reducible rfl
 try simp only [Act.put, zA, zB, zC]
 refine zT (i := 3) (v := ?_) rfl ?_ hHeld ?_
 rotate_left 1
 ·intro u hSu
  go_simp
  first | done | with_reducible rfl
 try simp only [Act.put, zA, zB, zC]
 refine zT (i := 4) (v := ?_) rfl ?_ hHeld ?_
 rotate_left 1
 ·intro u hSu
  obtain ⟨c0u, c1u⟩ := row_cells hSu.out.1.bx
  have n0u := NSC.out _ _ hSu.out.2.2
  go_simp
  first | done | with_reducible rfl
 try simp only [Act.put, zA, zB, zC]
 refine wpAnyH_ready (rs := [5]) (by kernel_rfl) (by simp) ?_
 refine AllReadyH.cons (o := ⟨_, _, _, _, _, _⟩) rfl (fun Kz hK => ?_) AllReadyH.nil
 go_simp
 go_at_call 90
 refine (rcap_any ⟨R, L, pR, cR, pL, cL⟩ y2 _ _ hHeld.out.1.t).mono ?_
 rintro e w9 ⟨rfl, hg⟩
 have HN13 := Lib.hid (And.intro (hHeld.out.1.keep hg) (And.intro (hHeld.out.2.1.keep hg) (hHeld.out.2.2.keep hg)))
 clear hg
 simp only
 refine hK.out _ _ (HN13) (fun hH2 => ?_)
 clear hK Kz hHeld
 have hHeld := hH2
 clear hH2
 try simp only [Act.put, zA, zB, zC]
 refine wpAnyH_done (by kernel_rfl) ?_ _
 clear c0 c1 K
 cases hcp : capV R L y2
 case true =>
  have n0 := NSC.out _ _ hHeld.out.2.2
  have HH2 := Lib.hid (HH.out.cap HNN.out HY3.out hcp (insU_spec y2 M HM.out.1).2)
  clear hcp HH
  go_wp2_with fail
  refine (rins_any M y2 po co _ w9 hHeld.out.2.1.1 hHeld.out.2.1.2.1 hHeld.out.2.1.2.2.1 hHeld.out.2.1.2.2.2 (by omega)).mono ?_
  rintro e w10 ⟨p2, c2, rfl, hr2, hn2, hc2, hg⟩
  have K2 := Lib.hid (And.intro (hHeld.out.1.keep hg) (And.intro (show RdX w.heap.size w10 (.slice ps S.length cs) p2 c2 (insU M y2) from ⟨(rd_and hr2).mono (fun b hb => by
   refine ⟨?_, hb.2, ?_⟩
   ·rcases hb.1 with h | h
    ·exact h.1
    ·exact Nat.le_trans hHeld.out.1.gr.size h
   ·rcases hb.1 with h | h
    ·exact h.2.2
    ·intro e; have := hHeld.out.1.lt b e.symm; omega), hn2, hc2⟩) (hHeld.out.2.2.keep hg)))
  have HM2 : Hid ((insU M y2).Pairwise (· < ·) ∧ ∀ y ∈ insU M y2, y ∈ ids R) := Lib.hid ⟨(insU_spec y2 M HM.out.1).1, fun y hy => by
   rcases ((insU_spec y2 M HM.out.1).2 y).1 hy with rfl | h
   ·exact HY2.out
   ·exact HM.out.2 y h⟩
  clear hr2 hn2 hc2 hg hHeld n0 HM
  go_wp2_with fail
  exact ⟨⟨k + 1, S, insU M y2, ps, cs, p2, c2, congrArg _ (by omega), rfl, rfl, by omega, hiS, HS, HM2, HH2, K2⟩, by simp only [RowKit.intOf]; omega⟩
 have n0 := NSC.out _ _ hHeld.out.2.2
 have HCP := Lib.hid hcp
 clear hcp
 go_wp2_with fail
 refine (rhas4_any S y2 ps cs _ w9 (rd_of_own hHeld.out.1.own) (by omega)).mono ?_
 rintro e w10 ⟨rfl, rfl⟩
 cases hh : hasI S y2
 case true =>
  have HH2 := Lib.hid (HH.out.has HY3.out HCP.out (by
   unfold hasI at hh
   obtain ⟨z, hz, he⟩ := List.any_eq_true.1 hh
   have := of_decide_eq_true he
   rwa [this] at hz))
  clear hh n0 HH
  go_wp2_with fail
  exact ⟨⟨k + 1, S, M, ps, cs, po, co, congrArg _ (by omega), rfl, rfl, by omega, hiS, HS, HM, HH2, hHeld⟩, by simp only [RowKit.intOf]; omega⟩
 have HS2 : Hid ((S ++ [y2]).Nodup ∧ ∀ y ∈ S ++ [y2], y ∈ ids R) := Lib.hid ⟨by
  rw [List.nodup_append]
  refine ⟨HS.out.1, by simp, fun a ha b hb => ?_⟩
  rw [List.mem_singleton] at hb
  subst hb
  intro e
  subst e
  unfold hasI at hh
  have := List.any_eq_false.1 hh a ha
  simp at this, fun y hy => by
  rcases List.mem_append.1 hy with h | h
  ·exact HS.out.2 y h
  ·rw [List.mem_singleton.1 h]; exact HY2.out⟩
 have HO2 := Lib.hid hHeld.out.1.own
 have hsz : C ≤ w9.heap.size := hHeld.out.1.lo.2
 obtain ⟨S2, hS2⟩ : ∃ S2, S ++ [y2] = S2 := ⟨_, rfl⟩
 have HE := Lib.hid hS2
 have HL : Hid (S.length + 1 = S2.length) := Lib.hid (by rw [← hS2, List.length_append]; rfl)
 rw [hS2] at HS2
 have HH2 := Lib.hid (HH.out.push HNN.out HY3.out HCP.out hiS)
 rw [hS2] at HH2
 clear hh hS2 HS
 go_wp2_with (at_builtin; refine hold_on ?_)
 refine Lib.hid ?_
 refine wpList_append_lies _ rfl _ _ 22 rfl C 3 ii (.int .i64 0) 1 8 Tryz.underlying22 hii hi0 hi1 hi2 rfl (by decide) (.slice ps S.length cs) S.length (S.map tv) rfl (HO2.out.alloc _) ⟨w9.heap.size, 0, none⟩ 1 1 [.int .i64 y2] rfl rfl (iv_rowH w9 y2 _) (fun u hu => by rw [List.mem_singleton.1 hu]; rfl) (by decide) (by unfold maxLen; omega) (by omega) (by simp; omega) _ rfl ?_
 intro g cap w11 hown hgrow hat hlt8
 have ga := World.grownBy_alloc w9 (.cells #[.int .i64 y2] 3) none
 have hv : (Value.slice (some ⟨g, 0, none⟩) (S.length + 1) cap).ownBlock = (Value.slice ps S.length cs).ownBlock ∨ ∀ b, some b = (Value.slice (some ⟨g, 0, none⟩) (S.length + 1) cap).ownBlock → (w9.alloc (.cells #[.int .i64 y2] 3)).heap.size ≤ b := by
  rcases hat with h | h
  ·exact Or.inl h.symm
  ·refine Or.inr fun b e => ?_
   have e2 : some b = some g := e
   have := Option.some.inj e2
   rw [this, h]
   exact Nat.le_refl _
 have K2 := Lib.hid (And.intro ((hHeld.out.1.keep ga).put (S2 := S ++ [y2]) (v' := .slice (some ⟨g, 0, none⟩) (S.length + 1) cap) (by rw [List.length_append, List.map_append]; simpa [tv] using hown) hgrow) (And.intro ((hHeld.out.2.1.keep ga).put hgrow hv) ((hHeld.out.2.2.keep ga).put hgrow hv)))
 rw [HE.out, HL.out] at K2
 rw [HL.out]
 have hiS2 : i < S2.length := by have := HL.out; omega
 clear hown hgrow hat hlt8 HO2 hHeld hsz HE n0 ga hv hiS
 go_wp2_with fail
 exact ⟨⟨k + 1, S2, M, _, cap, po, co, congrArg _ (by omega), rfl, rfl, by omega, hiS2, HS2, HM, HH2, K2⟩, by simp only [RowKit.intOf]; omega⟩
end Go.Proofs.YtpogblengagpaaaGreatDoor

/- forward: copies in memory; what Packet returns. -/
namespace Go.Proofs.YtpogblengagpaaaGreatDoor
set_option maxRecDepth 100000
open Go.RowKit Go.Maps Bs
def cyP (P : Pk) (b : Nat) : Pk := { P with bits := b, ttl := P.ttl - 1 }
def cyC (P : Pk) (y : Int × Nat) : List Value := [.int .i64 y.1, .slice none 0 0, .int .i64 P.mode, .int .i64 P.sub, .int .i64 P.set, .int .i64 P.len, .int .i64 (P.ttl - 1), .int .i64 P.ent, .int .i64 P.ing, .int .i64 P.pro, .int .u64 (y.2 : Int), .string P.pay]
theorem cy_one (P : Pk) (y : Int × Nat) : ∀ u ∈ cyC P y, u.oneCell' = true := by
 intro u hu
 simp [cyC] at hu
 rcases hu with rfl | rfl | rfl | rfl | rfl | rfl | rfl | rfl | rfl | rfl | rfl | rfl <;> rfl
theorem info_cy : (Tryz.prog.info? 58).map (fun i => (i.zero, i.size, i.bytes)) = some (some (.agg #[.int .i64 0, .slice none 0 0, .int .i64 0, .int .i64 0, .int .i64 0, .int .i64 0, .int .i64 0, .int .i64 0, .int .i64 0, .int .i64 0, .int .u64 0, .string ⟨#[]⟩]), 12, 120) := by kernel_rfl
def fwE (r s n : Int) (L : List Rw) (P : Pk) : Int := if ckT r s n L ≠ 0 ∨ vpk P = false then 1 else if P.mode = 2 then 7 else if P.sub ≠ s ∨ P.len ≠ n then 8 else 0
theorem fwE_ok {r s n : Int} {L : List Rw} {P : Pk} (h : fwE r s n L P = 0) : ckT r s n L = 0 ∧ vpk P = true ∧ P.mode ≠ 2 ∧ P.sub = s ∧ P.len = n := by
 unfold fwE at h
 split at h
 ·omega
 split at h
 ·omega
 split at h
 ·omega
 rename_i h1 h2 h3
 refine ⟨?_, ?_, h2, ?_, ?_⟩
 ·exact Classical.not_not.1 fun e => h1 (Or.inl e)
 ·cases e : vpk P with
  | true => rfl
  | false => exact absurd (Or.inr e) h1
 ·exact Classical.not_not.1 fun e => h3 (Or.inl e)
 ·exact Classical.not_not.1 fun e => h3 (Or.inr e)
def fwM (n : Int) (L : List Rw) (P : Pk) : Int → Nat := fun u => (colL n P.set (planeV P).toNat L u).getD 0
def fwH (n : Int) (L : List Rw) (P : Pk) : Nat → Int := hpF n P.set (planeV P).toNat L
theorem fw_ms {r s n : Int} {L : List Rw} {P : Pk} (h : fwE r s n L P = 0) : Ms (fwM n L P) (fwH n L P) := by
 obtain ⟨h1, h2, -, -, h5⟩ := fwE_ok h
 obtain ⟨h6, -⟩ := vpk_len h2
 exact ms_fw h1 (N := P.len.toNat) (by omega) _ _
abbrev FwW (n : Int) (r : Int) (L : List Rw) (P : Pk) (left loc lost : Nat) (cs : List (Int × Nat)) : Prop := FwI (fwM n L P) (fwH n L P) r (decide (P.ttl = 0)) P.bits left loc lost cs
structure FwR (r s n : Int) (L : List Rw) (P : Pk) (e : Int) (loc lost : Nat) (cs : List (Int × Nat)) : Prop where
 he : e = fwE r s n L P
 ok : e = 0 → FwD (fwM n L P) (fwH n L P) r (decide (P.ttl = 0)) P.bits loc lost cs
 no : e ≠ 0 → loc = 0 ∧ lost = 0 ∧ cs = []
 hu : U64 loc ∧ U64 lost
theorem FwR.uniq {r s n : Int} {L : List Rw} {P : Pk} {e e2 : Int} {loc lost loc2 lost2 : Nat} {cs cs2 : List (Int × Nat)} (h : FwR r s n L P e loc lost cs) (k : FwR r s n L P e2 loc2 lost2 cs2) : e = e2 ∧ loc = loc2 ∧ lost = lost2 ∧ cs = cs2 := by
 have he : e = e2 := h.he.trans k.he.symm
 refine ⟨he, ?_⟩
 by_cases h0 : e = 0
 ·have D := h.ok h0
  have E := k.ok (he ▸ h0)
  exact ⟨Nat.eq_of_testBit_eq fun j => (D.hloc j).trans (E.hloc j).symm, Nat.eq_of_testBit_eq fun j => (D.hlost j).trans (E.hlost j).symm, D.hcs.trans E.hcs.symm⟩
 ·obtain ⟨a1, a2, a3⟩ := h.no h0
  obtain ⟨b1, b2, b3⟩ := k.no (fun e0 => h0 (he.trans e0))
  exact ⟨a1.trans b1.symm, a2.trans b2.symm, a3.trans b3.symm⟩
def FwPost (r s n : Int) (L : List Rw) (P : Pk) (w : World) (e : Ending) (w' : World) : Prop :=
 ∃ (x : Int) (loc lost : Nat) (cs : List (Int × Nat)) (p : Option Addr) (c : Nat), e = .returned (.tuple #[.agg #[.int .u64 (loc : Int), .int .u64 (lost : Int), .slice p cs.length c], .int .i64 x]) ∧ FwR r s n L P x loc lost cs ∧ w'.ownsRow w.heap.size 58 12 (.slice p cs.length c) cs.length (cs.flatMap (cyC P)) ∧ w.grownBy w' none
theorem cpB_len64 {M : Int → Nat} {h : Nat → Int} (hM : Ms M h) {x : Nat} (hx : U64 x) (hz : ∀ j, x.testBit j = true → h j ≠ 0) : (cpB M h x).length ≤ 64 := by
 have h1 : ((cpB M h x).map (·.1)).Nodup := by
  unfold List.Nodup
  rw [List.pairwise_map]
  exact cpB_once hM x hx hz
 have h2 := nodup_leH _ ((List.range 64).map h) h1 (fun y hy => by
  obtain ⟨z, hz1, rfl⟩ := List.mem_map.1 hy
  obtain ⟨-, j, hj, e⟩ := cpB_mem hM x hx hz z hz1
  exact List.mem_map.2 ⟨j, List.mem_range.2 (u64_bit hx hj), e⟩)
 simpa using h2
theorem FwI.len {M : Int → Nat} {h : Nat → Int} {r : Int} {t : Bool} {P left loc lost : Nat} {cs : List (Int × Nat)} (I : FwI M h r t P left loc lost cs) (hM : Ms M h) (hP : U64 P) : cs.length ≤ 64 := by
 have h1 := cpB_len64 hM (fltB_u (czB h r t) hP) (FwD.zs hP)
 have h2 := congrArg List.length I.hcs
 rw [List.length_append] at h2
 omega
theorem FwD.len {M : Int → Nat} {h : Nat → Int} {r : Int} {t : Bool} {P loc lost : Nat} {cs : List (Int × Nat)} (D : FwD M h r t P loc lost cs) (hM : Ms M h) (hP : U64 P) : cs.length ≤ 64 := by
 rw [D.hcs]
 exact cpB_len64 hM (fltB_u (czB h r t) hP) (FwD.zs hP)
end Go.Proofs.YtpogblengagpaaaGreatDoor

/- forward: mistake. -/
namespace Go.Proofs.YtpogblengagpaaaGreatDoor
set_option maxRecDepth 100000
open Go.RowKit Go.Maps Bs
structure FB (W : World) (B : Nat) (r s n : Int) (p : Option Addr) (c : Nat) (L : List Rw) (P : Pk) (w : World) : Prop where
 bx : w.heap[B]? = some (.cells #[.int .i64 r, .int .i64 s, .int .i64 n, .slice p L.length c] 25 (0, 0))
 pb : w.heap[B + 1]? = some (.cells (pcells P) 28 (0, 0))
 rd : RdW w (· < W.heap.size) p c L
 gr : W.grownBy w none
 le : W.heap.size ≤ B
theorem FB.keep {W w w1 : World} {B : Nat} {r s n : Int} {p : Option Addr} {c : Nat} {L : List Rw} {P : Pk} (h : FB W B r s n p c L P w) (g : w.grownBy w1 none) : FB W B r s n p c L P w1 :=
 ⟨kept_row h.bx g (by simp), kept_row h.pb g (by simp), h.rd.keep g, grown_trans h.gr g, h.le⟩
theorem FB.all {W w : World} {B : Nat} {r s n : Int} {p : Option Addr} {c : Nat} {L : List Rw} {P : Pk} (h : FB W B r s n p c L P w) : RdW w (· < w.heap.size) p c L := h.rd.mono fun _ hb => Nat.lt_of_lt_of_le hb h.gr.size
theorem fb_start {w : World} {r s n : Int} {p : Option Addr} {c : Nat} {L : List Rw} {P : Pk} (hR : RdW w (· < w.heap.size) p c L) : FB w w.heap.size r s n p c L P ((w.alloc (.cells #[.int .i64 r, .int .i64 s, .int .i64 n, .slice p L.length c] 25)).alloc (.cells (pcells P) 28)) := by
 obtain ⟨k1, k2, k3, -⟩ := two_boxes w #[.int .i64 r, .int .i64 s, .int .i64 n, .slice p L.length c] (pcells P) 25 28
 exact ⟨k1, k2, hR.keep k3, k3, Nat.le_refl _⟩
theorem fwE_1 {r s n : Int} {L : List Rw} {P : Pk} (h : ckT r s n L ≠ 0) : fwE r s n L P = 1 := by unfold fwE; rw [if_pos (Or.inl h)]
theorem fwE_2 {r s n : Int} {L : List Rw} {P : Pk} (h : vpk P = false) : fwE r s n L P = 1 := by unfold fwE; rw [if_pos (Or.inr h)]
theorem fwE_7 {r s n : Int} {L : List Rw} {P : Pk} (h1 : ckT r s n L = 0) (h2 : vpk P = true) (h3 : P.mode = 2) : fwE r s n L P = 7 := by unfold fwE; rw [if_neg (by simp [h1, h2]), if_pos h3]
theorem fwE_8 {r s n : Int} {L : List Rw} {P : Pk} (h1 : ckT r s n L = 0) (h2 : vpk P = true) (h3 : P.mode ≠ 2) (h4 : P.sub ≠ s ∨ P.len ≠ n) : fwE r s n L P = 8 := by unfold fwE; rw [if_neg (by simp [h1, h2]), if_neg h3, if_pos h4]
theorem fwE_0 {r s n : Int} {L : List Rw} {P : Pk} (h1 : ckT r s n L = 0) (h2 : vpk P = true) (h3 : P.mode ≠ 2) (h4 : P.sub = s) (h5 : P.len = n) : fwE r s n L P = 0 := by unfold fwE; rw [if_neg (by simp [h1, h2]), if_neg h3, if_neg (by simp [h4, h5])]
set_option maxHeartbeats 3200000 in
theorem fwmis_any (r s n : Int) (p : Option Addr) (c : Nat) (L : List Rw) (P : Pk) (hP : P.Wf) (w : World) (hR : RdW w (· < w.heap.size) p c L) (hm : L.length ≤ 9223372036854775807) :
  Calls Tryz.prog 37 #[.agg #[.int .i64 r, .int .i64 s, .int .i64 n, .slice p L.length c], P.val] w fun e w' => e = .returned (.int .i64 (fwE r s n L P)) ∧ w.grownBy w' none := by
 have hval : P.val = .agg #[.int .i64 P.mode, .int .i64 P.sub, .int .i64 P.set, .int .i64 P.len, .int .i64 P.ttl, .int .i64 P.ent, .int .i64 P.ing, .int .i64 P.pro, .int .u64 (P.bits : Int), .string P.pay] := rfl
 rw [hval]
 have H0 := Lib.hid (fb_start (r := r) (s := s) (n := n) (P := P) hR)
 unfold pcells at H0
 clear hR
 go_enter Tryz.func37, Tryz.ntmps37
 go_upto_region 1 with fail
 generalize (w.alloc _).alloc _ = wa at *
 obtain ⟨d0, d1, d2, d3⟩ := row4T H0.out.bx
 go_wp2_with fail
 refine (tcheckT_any r s n p c L (· < wa.heap.size) wa H0.out.all hm).mono ?_
 rintro e w1 ⟨rfl, hg⟩
 have K := Lib.hid (H0.out.keep hg)
 clear hg H0 d0 d1 d2 d3
 by_cases hck : ckT r s n L = 0
 case neg =>
  have hck' : (ckT r s n L != 0) = true := by simpa using hck
  have HZ : Hid (fwE r s n L P = 1) := Lib.hid (fwE_1 hck)
  clear hck hval
  go_wp2_with fail
  go_ret
  exact ⟨by rw [HZ.out]; rfl, K.out.gr⟩
 have HCK := Lib.hid hck
 have hck' : (ckT r s n L != 0) = false := by simpa using hck
 clear hck
 obtain ⟨a0, a1, a2, a3, a4, a5, a6, a7, a8, a9⟩ := p_facts K.out.pb
 go_wp2_with fail
 rw [← hval]
 refine (pvalid_any P hP _).mono ?_
 rintro e w2 ⟨rfl, hg⟩
 have K2 := Lib.hid (K.out.keep hg)
 clear hg K a0 a1 a2 a3 a4 a5 a6 a7 a8 a9 hck' hval
 cases hv : vpk P with
 | false =>
  have HZ : Hid (fwE r s n L P = 1) := Lib.hid (fwE_2 hv)
  clear hv
  go_wp2_with fail
  go_ret
  exact ⟨by rw [HZ.out]; rfl, K2.out.gr⟩
 | true =>
 have HV := Lib.hid hv
 clear hv
 obtain ⟨a0, a1, a2, a3, a4, a5, a6, a7, a8, a9⟩ := p_facts K2.out.pb
 obtain ⟨d0, d1, d2, d3⟩ := row4T K2.out.bx
 by_cases h7 : P.mode = 2
 ·have HZ : Hid (fwE r s n L P = 7) := Lib.hid (fwE_7 HCK.out HV.out h7)
  have h7' : (P.mode == 2) = true := by simpa using h7
  clear h7
  go_wp2_with fail
  go_ret
  exact ⟨by rw [HZ.out]; rfl, K2.out.gr⟩
 have H7 := Lib.hid h7
 have h7' : (P.mode == 2) = false := by simpa using h7
 clear h7
 by_cases h8 : P.sub = s
 case neg =>
  have HZ : Hid (fwE r s n L P = 8) := Lib.hid (fwE_8 HCK.out HV.out H7.out (Or.inl h8))
  have h8' : (P.sub != s) = true := by simpa using h8
  clear h8
  go_wp2_with fail
  go_ret
  exact ⟨by rw [HZ.out]; rfl, K2.out.gr⟩
 have H8 := Lib.hid h8
 have h8' : (P.sub != s) = false := by simpa using h8
 clear h8
 by_cases h9 : P.len = n
 case neg =>
  have HZ : Hid (fwE r s n L P = 8) := Lib.hid (fwE_8 HCK.out HV.out H7.out (Or.inr h9))
  have h9' : (P.len != n) = true := by simpa using h9
  clear h9
  go_wp2_with fail
  go_ret
  exact ⟨by rw [HZ.out]; rfl, K2.out.gr⟩
 have HZ : Hid (fwE r s n L P = 0) := Lib.hid (fwE_0 HCK.out HV.out H7.out H8.out h9)
 have h9' : (P.len != n) = false := by simpa using h9
 clear h9
 go_wp2_with fail
 go_ret
 exact ⟨by rw [HZ.out]; rfl, K2.out.gr⟩
end Go.Proofs.YtpogblengagpaaaGreatDoor

/- Parts of the proof, packed: ToRap, ToUnt2. -/
import Derived.Test.YtiencdgmnkphjaaApl16
import Derived.Test.YtiencdgmnkphjaaApl13
import Derived.Test.YtiencdgmnkphjaaApl17
import Derived.Test.YtiencdgmnkphjaaApl18
import Derived.Test.YtiencdgmnkphjaaApl19
import Derived.Test.YtiencdgmnkphjaaApl9
/- The reference's Apply. -/
namespace Go.Proofs.Ytiencdgmnkphjaa
open Go.RowKit Bs
theorem AP.other {w wr w' : World} {T : Tg} {c : Ch} {g : Nat} (h : AP w T c wr) (k : wr.grownBy w' (some g)) (hg : w.heap.size + 3 ≤ g) : AP w T c w' :=
  ⟨kept_row h.tb k (fun e => by have := Option.some.inj e; omega), kept_row h.cb k (fun e => by have := Option.some.inj e; omega), kept_row h.rb k (fun e => by have := Option.some.inj e; omega), h.t.grown k (fun b hb e => by have := Option.some.inj e; omega), grown_new h.gr k (by omega), Nat.le_trans h.sz k.size⟩
theorem AP.any {w wr w' : World} {T : Tg} {c : Ch} {r : Option Nat} {B : Nat} (h : AP w T c wr) (k : wr.grownBy w' r) (hr : ∀ g, r = some g → B ≤ g) (hg : w.heap.size + 3 ≤ B) : AP w T c w' := by
  have hn : ∀ b, b < w.heap.size + 3 → some b ≠ r := fun b hb e => by have := hr b e.symm; omega
  exact ⟨kept_row h.tb k (hn _ (by omega)), kept_row h.cb k (hn _ (by omega)), kept_row h.rb k (hn _ (by omega)), h.t.grown k (fun b hb => hn b (by omega)), grown_any h.gr k (fun b hb => hn b (by omega)), Nat.le_trans h.sz k.size⟩
/-- A failure of one hop, in a box of its own. -/
theorem fl_one' (w : World) (a b : Int) : FlOk (w.alloc (.cells #[.int .i64 a, .int .i64 b] 70)) (fun _ => True) ⟨[⟨a, b⟩], [], some ⟨w.heap.size, 0, none⟩, 1, none, 0⟩ := by
  have h0 : (w.alloc (.cells #[.int .i64 a, .int .i64 b] 70)).heap[w.heap.size]? = some (.cells #[.int .i64 a, .int .i64 b] 70 (0, 0)) := heap_alloc_new w _
  obtain ⟨c0, c1⟩ := row_cells h0
  refine ⟨⟨some ⟨w.heap.size, 0, none⟩, 1, rfl, fun _ => ⟨w.heap.size, 0, rfl, trivial, fun i x hi => ?_⟩⟩, ⟨none, 0, rfl, fun h => absurd rfl h⟩, ⟨Nat.le_refl _, by show 1 ≤ _; omega⟩, ⟨Nat.le_refl _, by show 0 ≤ _; omega⟩⟩
  match i, hi with
  | 0, hi =>
    obtain rfl : Value.int .i64 a = x := by simpa [hpC] using hi
    exact c0
  | 1, hi =>
    obtain rfl : Value.int .i64 b = x := by simpa [hpC] using hi
    exact c1
theorem rwithout_ok {R : List Rt} {L : List Lk} (hv : okT R L = true) (c : Ch) (pR pL : Option Addr) (cR cL g : Nat) (q q2 : Nat → Prop) (w : World) (hT : TgOk w q ⟨R, L, pR, cR, pL, cL⟩) (hF : FlOk w q2 ⟨[⟨c.a, c.b⟩], [], some ⟨g, 0, none⟩, 1, none, 0⟩) (hab : c.a ≠ c.b) :
    Calls Try.prog 33 #[.agg #[.slice pR R.length cR, .slice pL L.length cL], .agg #[.slice (some ⟨g, 0, none⟩) 1 1, .slice none 0 0]] w fun e w' => TWPost R (L.filter (fun l => !sameE (lkOf c) l)) w e w' := by
  have h := rwithout_any ⟨R, L, pR, cR, pL, cL⟩ _ q q2 w hT hF
  simp only [hv, if_true] at h
  rw [gone_woL (okT_all hv) c hab, gone_woR] at h
  exact h
/-- While the links are gathered. -/
structure AQ (w : World) (T : Tg) (c : Ch) (x : Lk) (gx go B : Nat) (s : List Lk × Bool × Int) (vL : Value) (wr : World) : Prop where
  p : AP w T c wr
  xb : wr.heap[gx]? = some (.cells #[.int .i64 x.a, .int .i64 x.b, .int .i64 x.ca, .int .i64 x.cb, .int .i64 s.2.2] 68 (0, 0))
  ob : wr.heap[go]? = some (.cells #[.slice T.pR T.R.length T.cR, vL] 26 (0, 0))
  oL : wr.ownsRow B 68 5 vL s.1.length (s.1.flatMap lkC)
  lt : w.heap.size + 3 ≤ gx ∧ gx < go ∧ go < B ∧ B ≤ wr.heap.size
theorem AQ.keep {w wr w' : World} {T : Tg} {c : Ch} {x : Lk} {gx go B : Nat} {s : List Lk × Bool × Int} {vL : Value} (h : AQ w T c x gx go B s vL wr) (g : wr.grownBy w' none) : AQ w T c x gx go B s vL w' :=
  ⟨h.p.keep g, kept_row h.xb g (by simp), kept_row h.ob g (by simp), h.oL.kept g (by cases hv : vL.ownBlock <;> simp), h.lt.1, h.lt.2.1, h.lt.2.2.1, Nat.le_trans h.lt.2.2.2 g.size⟩
theorem bx_facts {w : World} {b : Nat} {v0 v1 v2 v3 v4 : Value} {t : TypeId} (h : w.heap[b]? = some (.cells #[v0, v1, v2, v3, v4] t (0, 0))) :
    w.cell? ⟨b, 0, none⟩ = some v0 ∧ w.cell? ⟨b, 1, none⟩ = some v1 ∧ w.cell? ⟨b, 2, none⟩ = some v2 ∧ w.cell? ⟨b, 3, none⟩ = some v3 ∧ w.cell? ⟨b, 4, none⟩ = some v4 := by
  refine ⟨?_, ?_, ?_, ?_, ?_⟩ <;> (rw [cell_of_row _ _ _ _ _ _ h]; rfl)
theorem AQ.cap {w wr : World} {T : Tg} {c : Ch} {x : Lk} {gx go B : Nat} {O : List Lk} {d d' : Bool} {cp : Int} {vL : Value} (h : AQ w T c x gx go B (O, d, cp) vL wr) (n : Int) : AQ w T c x gx go B (O, d', n) vL (wr.setCell ⟨gx, 4, none⟩ (.int .i64 n)) := by
  have hl := h.lt
  have k := grown_setCell wr ⟨gx, 4, none⟩ (.int .i64 n)
  refine ⟨h.p.other k hl.1, (show TRow wr gx 68 [.int .i64 x.a, .int .i64 x.b, .int .i64 x.ca, .int .i64 x.cb, .int .i64 cp] from h.xb).set 4 _, kept_row h.ob k (fun e => by have h9 : go = gx := Option.some.inj e; omega), h.oL.kept k (.inr (fun e => by have := (h.oL.lt _ e).1; have h9 : B ≤ gx := this; omega)), hl.1, hl.2.1, hl.2.2.1, Nat.le_trans hl.2.2.2 k.size⟩
theorem AQ.app {w wr w1 : World} {T : Tg} {c : Ch} {x y : Lk} {gx go B : Nat} {O : List Lk} {d d' : Bool} {cp : Int} {vL : Value} {o : Obj} {g n cap : Nat} (h : AQ w T c x gx go B (O, d, cp) vL wr)
    (hown : w1.ownsRow B 68 5 (.slice (some ⟨g, 0, none⟩) n cap) (O.length + 1) (O.flatMap lkC ++ lkC y)) (hg : (wr.alloc o).grownBy w1 vL.ownBlock) :
    w1.heap[go]? = some (.cells #[.slice T.pR T.R.length T.cR, vL] 26 (0, 0)) ∧ AQ w T c x gx go B (O ++ [y], d', cp) (.slice (some ⟨g, 0, none⟩) n cap) (w1.setCell ⟨go, 1, none⟩ (.slice (some ⟨g, 0, none⟩) n cap)) := by
  have hl := h.lt
  have k0 := World.grownBy_alloc wr o none
  have hr : ∀ b, vL.ownBlock = some b → B ≤ b := fun b hb => (h.oL.lt b hb).1
  have hn : ∀ b, b < B → some b ≠ vL.ownBlock := fun b hb e => by have := hr b e.symm; omega
  have hb := kept_row (kept_row h.ob k0 (by simp)) hg (hn _ hl.2.2.1)
  have k9 : w1.grownBy (w1.setCell ⟨go, 1, none⟩ (.slice (some ⟨g, 0, none⟩) n cap)) (some go) := grown_setCell w1 ⟨go, 1, none⟩ _
  have hgB := (hown.lt g rfl).1
  refine ⟨hb, ((h.p.keep k0).any hg hr (by omega)).other k9 (by omega), kept_row (kept_row (kept_row h.xb k0 (by simp)) hg (hn _ (by omega))) k9 (fun e => by have := Option.some.inj e; omega), (show TRow w1 go 26 [.slice T.pR T.R.length T.cR, vL] from hb).set 1 _, ?_, hl.1, hl.2.1, hl.2.2.1, Nat.le_trans hl.2.2.2 (Nat.le_trans k0.size (Nat.le_trans hg.size k9.size))⟩
  refine World.ownsRow.kept ?_ k9 (.inr (fun e => by have h9 : g = go := Option.some.inj e; omega))
  rw [List.length_append, List.flatMap_append, List.flatMap_singleton]
  exact hown
theorem AQ.ret {q : Nat → Prop} {w wr : World} {T : Tg} {c : Ch} {x : Lk} {gx go B : Nat} {s : List Lk × Bool × Int} {vL : Value} (h : AQ w T c x gx go B s vL wr) (hT0 : TgOk w q T) :
    TAPost (fun b => q b ∨ w.heap.size ≤ b) T.R s.1 0 w (.returned (.tuple #[.agg #[.slice T.pR T.R.length T.cR, vL], .int .i64 0])) ((wr.setCell ⟨w.heap.size + 2, 0, none⟩ (.slice T.pR T.R.length T.cR)).setCell ⟨w.heap.size + 2, 1, none⟩ vL) := by
  have hl := h.lt
  have g9 := grown_store2 wr (w.heap.size + 2) (.slice T.pR T.R.length T.cR) vL
  have hgr := (h.p.out (uR := .slice T.pR T.R.length T.cR) (uL := vL)).2
  have hT := hT0.keep hgr
  have ho := (rdf_of_own h.oL).grown g9 (fun b hb e => by have h1 := Option.some.inj e; omega)
  obtain ⟨p, c', rfl, h1, h2⟩ := own_shape h.oL
  exact ⟨_, _, p, c', rfl, ⟨hT.r.mono (fun _ hb => .inl hb), ho.mono (fun b hb => .inr (by have h3 : _ ≤ b := hb; omega)), hT.cr, ⟨h1, h2⟩⟩, hgr⟩
set_option maxRecDepth 100000 in
set_option maxHeartbeats 12800000 in
theorem rapply_any (T : Tg) (c : Ch) (q : Nat → Prop) (w : World) (hT : TgOk w q T) :
    Calls Try.prog 36 #[.agg #[.slice T.pR T.R.length T.cR, .slice T.pL T.L.length T.cL], .agg #[.int .i64 c.a, .int .i64 c.b, .int .i64 c.ca, .int .i64 c.cb]] w fun e w' => TAPost (fun b => q b ∨ w.heap.size ≤ b) (if errV T.R T.L c = 0 then T.R else []) (if errV T.R T.L c = 0 then linksV T.L c else []) (errV T.R T.L c) w e w' := by
  obtain ⟨il, hil, hl0, hl1, hl2⟩ := info_parts info_lk2
  obtain ⟨R, L, pR, cR, pL, cL⟩ := T
  have hm1 := Nat.le_trans hT.cr.1 hT.cr.2
  have hm2 := Nat.le_trans hT.cl.1 hT.cl.2
  simp only at hm1 hm2 ⊢
  obtain ⟨wb, hwb, b1, b2, b3, b4, b5⟩ := boxes3 w #[.slice pR R.length cR, .slice pL L.length cL] #[.int .i64 c.a, .int .i64 c.b, .int .i64 c.ca, .int .i64 c.cb] #[.slice none 0 0, .slice none 0 0] 26 54 26
  have HT0 := Lib.hid hT
  have A0 : Hid (AP w ⟨R, L, pR, cR, pL, cL⟩ c wb) := Lib.hid ⟨b1, b2, b3, hT.old.keep b4, b4, by omega⟩
  obtain ⟨E, hE⟩ : ∃ E, errV R L c = E := ⟨_, rfl⟩
  rw [hE]
  have HE := Lib.hid hE
  have HWB := Lib.hid hwb
  clear b1 b2 b3 b4 b5 hT hE hwb
  go_enter Try.func36, Try.ntmps36
  go_upto_region 1 with fail
  rw [← HWB.out]
  have s1 : w.heap.size + 1 + 1 = w.heap.size + 2 := rfl
  try rw [s1]
  clear s1
  obtain ⟨c0, c1⟩ := row_cells A0.out.tb
  go_wp2_with fail
  refine (rcheck_any ⟨R, L, pR, cR, pL, cL⟩ _ wb A0.out.t).mono ?_
  rintro e w1 ⟨rfl, hg⟩
  simp only
  obtain ⟨X, hX⟩ : ∃ X, chk R L = X := ⟨_, rfl⟩
  rw [hX]
  have HX0 : Hid (okT R L = (X == 0)) := Lib.hid (by unfold okT; rw [hX])
  clear hX
  have A1 := Lib.hid (A0.out.keep hg)
  clear hg A0 c0 c1 HWB
  by_cases hx0 : X = 0
  rotate_left 1
  · have hv : okT R L = false := by rw [HX0.out]; simpa using hx0
    have hx1 : (X == 0) = false := by simpa using hx0
    obtain rfl : E = 1 := by have := HE.out; unfold errV at this; rw [hv] at this; exact this.symm
    obtain ⟨z0, z1⟩ := row_cells A1.out.rb
    have y0 := frozen_of_row _ _ 0 _ _ A1.out.rb
    have y1 := frozen_of_row _ _ 1 _ _ A1.out.rb
    clear hv
    go_wp2_with fail
    refine bodyPost_ret (res_topo_err rfl _ _ (w.heap.size + 2) _ _ rfl A1.out.out.1) rfl ?_
    exact A1.out.err
  have hv : okT R L = true := by rw [HX0.out, hx0]; rfl
  subst hx0
  have HV := Lib.hid hv
  obtain ⟨h24, h60⟩ := okT_len hv
  have HO := Lib.hid (okT_all hv)
  clear hv HX0
  obtain ⟨ha, hha⟩ : ∃ z, hasR R c.a = z := ⟨_, rfl⟩
  obtain ⟨hb, hhb⟩ : ∃ z, hasR R c.b = z := ⟨_, rfl⟩
  have HHA := Lib.hid (And.intro hha hhb)
  clear hha hhb
  obtain ⟨c0, c1⟩ := row_cells A1.out.tb
  obtain ⟨d0, d1, d2, d3⟩ := ch_facts A1.out.cb
  go_upto_region 3 with fail
  go_cut [29] from 14 to 29 (fun v wx => v = .bool (!(ha && hb)) ∧ Hid (AP w ⟨R, L, pR, cR, pL, cL⟩ c wx))
  case first =>
    cases ha
    · go_wp2_with fail
      refine (rhas_any ⟨R, L, pR, cR, pL, cL⟩ c.a _ _ A1.out.t).mono ?_
      simp only
      rw [HHA.out.1]
      rintro e w5 ⟨rfl, hg⟩
      have L5 := Lib.hid (A1.out.keep hg)
      clear hg
      go_wp2_with fail
      go_meet
      exact ⟨rfl, L5⟩
    · go_wp2_with fail
      refine (rhas_any ⟨R, L, pR, cR, pL, cL⟩ c.a _ _ A1.out.t).mono ?_
      simp only
      rw [HHA.out.1]
      rintro e w5 ⟨rfl, hg⟩
      have L5 := Lib.hid (A1.out.keep hg)
      clear hg c0 c1 d0 d1 d2 d3
      obtain ⟨c0, c1⟩ := row_cells L5.out.tb
      obtain ⟨d0, d1, d2, d3⟩ := ch_facts L5.out.cb
      go_wp2_with fail
      refine (rhas_any ⟨R, L, pR, cR, pL, cL⟩ c.b _ _ L5.out.t).mono ?_
      simp only
      rw [HHA.out.2]
      rintro e w6 ⟨rfl, hg⟩
      have L6 := Lib.hid (L5.out.keep hg)
      clear hg
      go_wp2_with fail
      go_meet
      exact ⟨by first | rfl | (cases hb <;> rfl), L6⟩
  case rest =>
  obtain ⟨rfl, L6⟩ := hcut
  clear A1 c0 c1 d0 d1 d2 d3
  go_upto_if 29 with fail
  obtain ⟨hab, hhab⟩ : ∃ z, (ha && hb) = z := ⟨_, rfl⟩
  rw [hhab]
  have HAB := Lib.hid hhab
  clear hhab
  obtain ⟨z0, z1⟩ := row_cells L6.out.rb
  have y0 := frozen_of_row _ _ 0 _ _ L6.out.rb
  have y1 := frozen_of_row _ _ 1 _ _ L6.out.rb
  cases hab
  · obtain rfl : E = 4 := by have := HE.out; unfold errV at this; rw [HV.out, HHA.out.1, HHA.out.2, HAB.out] at this; exact this.symm
    go_wp2_with fail
    refine bodyPost_ret (res_topo_err rfl _ _ (w.heap.size + 2) _ _ rfl L6.out.out.1) rfl ?_
    exact L6.out.err
  obtain ⟨d0, d1, d2, d3⟩ := ch_facts L6.out.cb
  by_cases hab : c.a = c.b
  · have hbq : (c.a == c.b) = true := by simpa using hab
    obtain rfl : E = 8 := by
      have h8 := HE.out
      unfold errV at h8
      rw [HV.out, HHA.out.1, HHA.out.2, HAB.out, if_pos hab] at h8
      exact h8.symm
    clear hab
    go_wp2_with fail
    refine bodyPost_ret (res_topo_err rfl _ _ (w.heap.size + 2) _ _ rfl L6.out.out.1) rfl ?_
    exact L6.out.err
  have hbq : (c.a == c.b) = false := by simpa using hab
  have HNE : Hid (c.a ≠ c.b) := Lib.hid hab
  obtain ⟨x, hx⟩ : ∃ x, lkOf c = x := ⟨_, rfl⟩
  have HX := Lib.hid hx
  obtain ⟨G, hG⟩ : ∃ G, goneC c = G := ⟨_, rfl⟩
  have HG := Lib.hid hG
  obtain ⟨b, hb9⟩ : ∃ b, fndL L x = b := ⟨_, rfl⟩
  have HF := Lib.hid hb9
  obtain ⟨k1, hk1⟩ : ∃ k, coK c.ca = k := ⟨_, rfl⟩
  obtain ⟨k2, hk2⟩ : ∃ k, coK c.cb = k := ⟨_, rfl⟩
  have HCK := Lib.hid (And.intro hk1 hk2)
  have HE2 : Hid ((if !G && !(k1 && k2) then (2 : Int) else if G && !b then 9 else if !b && decide (L.length = 60) then 3 else 0) = E) := Lib.hid (by
    have h8 := HE.out
    unfold errV at h8
    rw [HV.out, HHA.out.1, HHA.out.2, HAB.out, if_neg hab, wrNum_ch, hx, hb9, hG, hk1, hk2] at h8
    exact h8)
  clear hab hx hG hb9 hk1 hk2
  go_upto_region 7 with fail
  go_cut [6] from 30 to 44 (fun v wx => v = .bool G ∧ Hid (AP w ⟨R, L, pR, cR, pL, cL⟩ c wx))
  case first =>
    cases e1 : (c.ca == 0)
    · have hgv : Hid (G = false) := Lib.hid (by rw [← HG.out]; unfold goneC; rw [e1]; rfl)
      go_wp2_with fail
      go_meet
      exact ⟨by rw [hgv.out], L6⟩
    · have hgv : Hid (G = (c.cb == 0)) := Lib.hid (by rw [← HG.out]; unfold goneC; rw [e1]; rfl)
      go_wp2_with fail
      go_meet
      exact ⟨by rw [hgv.out], L6⟩
  case rest =>
  obtain ⟨rfl, L7⟩ := hcut
  clear L6 d0 d1 d2 d3 z0 z1 y0 y1 hbq
  obtain ⟨d0, d1, d2, d3⟩ := ch_facts L7.out.cb
  go_upto_region 8 with fail
  go_cut [58] from 45 to 58 (fun v wx => v = .bool (!G && !(k1 && k2)) ∧ Hid (AP w ⟨R, L, pR, cR, pL, cL⟩ c wx))
  case first =>
    cases G
    · go_wp2_with fail
      refine (rcost_any _ _).mono ?_
      rw [HCK.out.1]
      rintro e w7 ⟨rfl, rfl⟩
      cases k1
      · go_wp2_with fail
        go_meet
        exact ⟨rfl, L7⟩
      · go_wp2_with fail
        refine (rcost_any _ _).mono ?_
        rw [HCK.out.2]
        rintro e w7 ⟨rfl, rfl⟩
        go_wp2_with fail
        go_meet
        exact ⟨by first | rfl | (cases k2 <;> rfl), L7⟩
    · go_wp2_with fail
      go_meet
      exact ⟨rfl, L7⟩
  case rest =>
  obtain ⟨rfl, L8⟩ := hcut
  clear L7 d0 d1 d2 d3
  go_upto_if 58 with fail
  obtain ⟨z2, hz2⟩ : ∃ z, (!G && !(k1 && k2)) = z := ⟨_, rfl⟩
  rw [hz2] at HE2 ⊢
  clear hz2
  obtain ⟨z0, z1⟩ := row_cells L8.out.rb
  have y0 := frozen_of_row _ _ 0 _ _ L8.out.rb
  have y1 := frozen_of_row _ _ 1 _ _ L8.out.rb
  cases z2
  rotate_left 1
  · obtain rfl : E = 2 := HE2.out.symm
    go_wp2_with fail
    refine bodyPost_ret (res_topo_err rfl _ _ (w.heap.size + 2) _ _ rfl L8.out.out.1) rfl ?_
    exact L8.out.err
  obtain ⟨c0, c1⟩ := row_cells L8.out.tb
  obtain ⟨d0, d1, d2, d3⟩ := ch_facts L8.out.cb
  go_wp2_with fail
  refine (rprice_any ⟨R, L, pR, cR, pL, cL⟩ c.a c.b _ _ L8.out.t).mono ?_
  simp only
  rw [price_fnd HO.out c HNE.out, HX.out, HF.out]
  obtain ⟨pv, hpv⟩ : ∃ z, (priceV L c.a c.b).1 = z := ⟨_, rfl⟩
  rw [hpv]
  clear hpv
  rintro e w9 ⟨rfl, hg⟩
  have L9 := Lib.hid (L8.out.keep hg)
  clear hg L8 c0 c1 d0 d1 d2 d3 z0 z1 y0 y1
  go_upto_region 11 with fail
  go_cut [73] from 59 to 73 (fun v wx => v = .bool (G && !b) ∧ Hid (AP w ⟨R, L, pR, cR, pL, cL⟩ c wx))
  case first =>
    cases G
    · go_wp2_with fail
      go_meet
      exact ⟨rfl, L9⟩
    · go_wp2_with fail
      go_meet
      exact ⟨by first | rfl | (cases b <;> rfl), L9⟩
  case rest =>
  obtain ⟨rfl, LA⟩ := hcut
  clear L9
  go_upto_if 73 with fail
  obtain ⟨z2, hz2⟩ : ∃ z, (G && !b) = z := ⟨_, rfl⟩
  rw [hz2] at HE2 ⊢
  have HZ9 := Lib.hid hz2
  clear hz2
  obtain ⟨z0, z1⟩ := row_cells LA.out.rb
  have y0 := frozen_of_row _ _ 0 _ _ LA.out.rb
  have y1 := frozen_of_row _ _ 1 _ _ LA.out.rb
  cases z2
  rotate_left 1
  · obtain rfl : E = 9 := HE2.out.symm
    go_wp2_with fail
    refine bodyPost_ret (res_topo_err rfl _ _ (w.heap.size + 2) _ _ rfl LA.out.out.1) rfl ?_
    exact LA.out.err
  cases G
  rotate_left 1
  · obtain rfl : b = true := by have := HZ9.out; cases b; cases this; rfl
    obtain rfl : E = 0 := HE2.out.symm
    obtain ⟨c0, c1⟩ := row_cells LA.out.tb
    obtain ⟨d0, d1, d2, d3⟩ := ch_facts LA.out.cb
    clear z0 z1 y0 y1
    have LB := Lib.hid (LA.out.keep (World.grownBy_alloc wc (.cells #[.int .i64 c.a, .int .i64 c.b] 70) none))
    have hFL := Lib.hid (fl_one' wc c.a c.b)
    go_wp2_with fail
    refine (rwithout_ok HV.out c pR pL cR cL _ _ _ _ LB.out.t hFL.out HNE.out).mono ?_
    rintro e w8 ⟨pu, cu, pv2, cv, rfl, hTu, hg⟩
    simp only at hTu ⊢
    rw [HX.out] at hTu ⊢
    have LC := Lib.hid (LB.out.keep hg)
    have hsz := LB.out.sz
    have HTu := Lib.hid hTu
    clear hTu hg LB LA hFL c0 c1 d0 d1 d2 d3
    have HLN : Hid (linksV L c = L.filter (fun l => !sameE x l)) := Lib.hid (by
      unfold linksV
      rw [HG.out, HX.out]
      rfl)
    obtain ⟨z0, z1⟩ := row_cells LC.out.rb
    have y0 := frozen_of_row _ _ 0 _ _ LC.out.rb
    have y1 := frozen_of_row _ _ 1 _ _ LC.out.rb
    go_wp2_with fail
    refine bodyPost_ret (res_topo_err rfl _ _ (w.heap.size + 2) _ _ rfl LC.out.out.1) rfl ?_
    try rw [if_pos rfl, if_pos rfl]
    rw [HLN.out]
    exact ⟨pu, cu, pv2, cv, rfl, (HTu.out.grown (grown_store2 w8 (w.heap.size + 2) _ _) (fun b hb e => by have h1 := Option.some.inj e; have h2 : _ ≤ b := hb; omega)).mono (fun b hb => .inr (by have h2 : _ ≤ b := hb; omega)), LC.out.out.2⟩
  clear z0 z1 y0 y1
  obtain ⟨d0, d1, d2, d3⟩ := ch_facts LA.out.cb
  have gal := World.grownBy_alloc wc (.cells #[.int .i64 c.a, .int .i64 c.b, .int .i64 c.ca, .int .i64 c.cb, .int .i64 0] 68) none
  have LB : Hid (AP w ⟨R, L, pR, cR, pL, cL⟩ c (wc.alloc (.cells #[.int .i64 c.a, .int .i64 c.b, .int .i64 c.ca, .int .i64 c.cb, .int .i64 0] 68)) ∧ (wc.alloc (.cells #[.int .i64 c.a, .int .i64 c.b, .int .i64 c.ca, .int .i64 c.cb, .int .i64 0] 68)).heap[wc.heap.size]? = some (.cells #[.int .i64 c.a, .int .i64 c.b, .int .i64 c.ca, .int .i64 c.cb, .int .i64 0] 68 (0, 0))) := Lib.hid ⟨LA.out.keep gal, heap_alloc_new wc _⟩
  have hgx : w.heap.size + 3 ≤ wc.heap.size := LA.out.sz
  clear gal LA
  go_upto_region 16 with fail
  generalize wc.alloc _ = wx at *
  generalize wc.heap.size = gx at *
  clear d0 d1 d2 d3
  obtain ⟨d0, d1, d2, d3⟩ := ch_facts LB.out.1.cb
  go_upto_if 98 with fail
  go_cut [] from 74 to 107 (fun wx => Hid (AP w ⟨R, L, pR, cR, pL, cL⟩ c wx ∧ wx.heap[gx]? = some (.cells #[.int .i64 x.a, .int .i64 x.b, .int .i64 x.ca, .int .i64 x.cb, .int .i64 0] 68 (0, 0))))
  case first =>
    by_cases hgt : c.b < c.a
    · have hxe : Hid (x = ⟨c.b, c.a, c.cb, c.ca, 0⟩) := Lib.hid (by rw [← HX.out]; unfold lkOf; rw [if_pos hgt])
      obtain ⟨e0, e1, e2, e3, e4⟩ := bx_facts LB.out.2
      have f0 := frozen_of_row _ _ 0 _ _ LB.out.2
      have f1 := frozen_of_row _ _ 1 _ _ LB.out.2
      have f2 := frozen_of_row _ _ 2 _ _ LB.out.2
      have f3 := frozen_of_row _ _ 3 _ _ LB.out.2
      have f4 := frozen_of_row _ _ 4 _ _ LB.out.2
      obtain ⟨r1, r2⟩ := row5 (u0 := .int .i64 c.b) (u1 := .int .i64 c.a) (u2 := .int .i64 c.cb) (u3 := .int .i64 c.ca) (u4 := .int .i64 0) LB.out.2
      have HR := Lib.hid (And.intro (LB.out.1.other r2 hgx) r1)
      clear r1 r2
      go_wp2_with fail
      go_meet
      rw [hxe.out]
      exact HR
    · have hxe : Hid (x = ⟨c.a, c.b, c.ca, c.cb, 0⟩) := Lib.hid (by rw [← HX.out]; unfold lkOf; rw [if_neg hgt])
      go_wp2_with fail
      go_meet
      rw [hxe.out]
      exact LB
  case rest =>
  have LC := hcut
  clear hcut LB d0 d1 d2 d3
  obtain ⟨c0, c1⟩ := row_cells LC.out.1.tb
  go_upto_region 18 with fail
  obtain ⟨k60, hk60⟩ : ∃ z, decide (L.length = 60) = z := ⟨_, rfl⟩
  have hk60' : ((L.length : Int) == 60) = k60 := by rw [← hk60, Bool.eq_iff_iff, beq_iff_eq, decide_eq_true_eq]; omega
  rw [hk60] at HE2
  clear hk60
  go_cut [115] from 108 to 115 (fun v wx => v = .bool (!b && k60) ∧ Hid (AP w ⟨R, L, pR, cR, pL, cL⟩ c wx ∧ wx.heap[gx]? = some (.cells #[.int .i64 x.a, .int .i64 x.b, .int .i64 x.ca, .int .i64 x.cb, .int .i64 0] 68 (0, 0))))
  case first =>
    cases b
    · cases k60
      · go_wp2_with fail
        go_meet
        exact ⟨rfl, LC⟩
      · go_wp2_with fail
        go_meet
        exact ⟨rfl, LC⟩
    · go_wp2_with fail
      go_meet
      exact ⟨rfl, LC⟩
  case rest =>
  obtain ⟨rfl, LD⟩ := hcut
  clear LC c0 c1 hk60'
  go_upto_if 115 with fail
  obtain ⟨z2, hz2⟩ : ∃ z, (!b && k60) = z := ⟨_, rfl⟩
  rw [hz2] at HE2 ⊢
  clear hz2
  obtain ⟨z0, z1⟩ := row_cells LD.out.1.rb
  have y0 := frozen_of_row _ _ 0 _ _ LD.out.1.rb
  have y1 := frozen_of_row _ _ 1 _ _ LD.out.1.rb
  cases z2
  rotate_left 1
  · obtain rfl : E = 3 := HE2.out.symm
    go_wp2_with fail
    refine bodyPost_ret (res_topo_err rfl _ _ (w.heap.size + 2) _ _ rfl LD.out.1.out.1) rfl ?_
    exact LD.out.1.err
  obtain rfl : E = 0 := HE2.out.symm
  clear z0 z1 y0 y1 HE2
  obtain ⟨c0, c1⟩ := row_cells LD.out.1.tb
  have gal := World.grownBy_alloc wc (.cells #[.slice pR R.length cR, .slice none 0 0] 26) none
  have HLTX := Lib.hid (blk_lt LD.out.2)
  have Q0 : Hid (AQ w ⟨R, L, pR, cR, pL, cL⟩ c x gx wc.heap.size (wc.heap.size + 1) (rsA x (L.take 0)) (.slice none 0 0) (wc.alloc (.cells #[.slice pR R.length cR, .slice none 0 0] 26))) := Lib.hid ⟨LD.out.1.keep gal, by rw [show (rsA x (L.take 0)).2.2 = 0 from by show x.cp = 0; rw [← HX.out]; exact (lkOf_ends c).1]; exact kept_row LD.out.2 gal (by simp), heap_alloc_new wc _, World.ownsRow_nil _ _ _ _, by have := HLTX.out; exact ⟨hgx, this, by omega, by simp⟩⟩
  have HLN : Hid (linksV L c = finA x (rsA x L)) := Lib.hid (by
    rw [rsA_fin HO.out x]
    unfold linksV
    rw [HG.out, HX.out]
    rfl)
  clear gal HLTX LD
  go_upto_region 21 with fail
  generalize wc.alloc _ = wy at *
  generalize hB9 : wc.heap.size + 1 = B at *
  generalize wc.heap.size = go at *
  clear hB9 c0 c1
  go_wp2_with fail
  go_loopw [11, 12] (fun dn i wr => ∃ (k : Nat) (vL : Value), k ≤ L.length ∧ i = .int .i64 (k : Int) ∧ dn = .bool (rsA x (L.take k)).2.1 ∧ Hid (AQ w ⟨R, L, pR, cR, pL, cL⟩ c x gx go B (rsA x (L.take k)) vL wr)) (fun _ i _ => L.length - (intOf i).toNat)
  case atStart => exact ⟨0, _, Nat.zero_le _, rfl, rfl, Q0⟩
  case round =>
  obtain ⟨k, vL, hk, rfl, rfl, HK⟩ := hrel
  clear Q0
  have hln : (rsA x (L.take k)).1.length ≤ 120 := by have := rsA_len x (L.take k); rw [List.length_take] at this; omega
  by_cases hlt : k < L.length
  case pos =>
    obtain ⟨l, hl⟩ : ∃ l, L[k]? = some l := ⟨_, List.getElem?_eq_getElem hlt⟩
    have HS := Lib.hid (rsA_take x L k l hl)
    obtain ⟨s, hs⟩ : ∃ s, rsA x (L.take k) = s := ⟨_, rfl⟩
    rw [hs] at HK HS hln ⊢
    clear hs
    obtain ⟨O, d, cp⟩ := s
    obtain ⟨p3, c3, rfl, hp3, hp4⟩ := own_shape HK.out.oL
    simp only at hln HK ⊢
    obtain ⟨-, b4, off4, rfl, hq4, hc4⟩ := rdl_cells (L := L) HK.out.p.t.l (by omega)
    obtain ⟨a0, a1, a2, a3, a4⟩ := hc4 k l hl
    clear hc4 hl hp3 hp4
    have i0 : (0 : Int) ≤ (k : Int) := by omega
    have i1 : (k : Int) < (L.length : Int) := by omega
    obtain ⟨c0, c1⟩ := row_cells HK.out.p.tb
    have gal := World.grownBy_alloc wr (.cells #[.int .i64 l.a, .int .i64 l.b, .int .i64 l.ca, .int .i64 l.cb, .int .i64 l.cp] 68) none
    have K1 : Hid (AQ w ⟨R, L, pR, cR, some ⟨b4, off4, none⟩, cL⟩ c x gx go B (O, d, cp) (.slice p3 O.length c3) (wr.alloc (.cells #[.int .i64 l.a, .int .i64 l.b, .int .i64 l.ca, .int .i64 l.cb, .int .i64 l.cp] 68)) ∧ (wr.alloc (.cells #[.int .i64 l.a, .int .i64 l.b, .int .i64 l.ca, .int .i64 l.cb, .int .i64 l.cp] 68)).heap[wr.heap.size]? = some (.cells #[.int .i64 l.a, .int .i64 l.b, .int .i64 l.ca, .int .i64 l.cb, .int .i64 l.cp] 68 (0, 0)) ∧ B ≤ wr.heap.size ∧ (Value.slice p3 O.length c3).ownBlock ≠ some wr.heap.size) := Lib.hid ⟨HK.out.keep gal, heap_alloc_new wr _, HK.out.lt.2.2.2, fun e => by have := (HK.out.oL.lt _ e).2; omega⟩
    go_upto_region 26 with fail
    clear gal HK a0 a1 a2 a3 a4 c0 c1 i0 i1
    generalize wr.alloc _ = wn at *
    generalize wr.heap.size = gl at *
    obtain ⟨l0, l1, l2, l3, l4⟩ := bx_facts K1.out.2.1
    obtain ⟨x0, x1, x2, x3, x4⟩ := bx_facts K1.out.1.xb
    simp only at x4
    obtain ⟨eqb, heq⟩ : ∃ z, decide (l.a = x.a ∧ l.b = x.b) = z := ⟨_, rfl⟩
    have HEQ := Lib.hid heq
    clear heq
    go_cut [143] from 120 to 143 (fun v wx => v = .bool eqb ∧ wn = wx)
    case first =>
      by_cases e1 : l.a = x.a
      · by_cases e2 : l.b = x.b
        · have hz : Hid (eqb = true) := Lib.hid (by rw [← HEQ.out, decide_eq_true ⟨e1, e2⟩])
          have e1' : (l.a == x.a) = true := by simpa using e1
          have e2' : (l.b == x.b) = true := by simpa using e2
          clear e1 e2
          go_wp2_with fail
          go_meet
          exact ⟨by rw [hz.out], rfl⟩
        · have hz : Hid (eqb = false) := Lib.hid (by rw [← HEQ.out, decide_eq_false (fun h => e2 h.2)])
          have e1' : (l.a == x.a) = true := by simpa using e1
          have e2' : (l.b == x.b) = false := by simpa using e2
          clear e1 e2
          go_wp2_with fail
          go_meet
          exact ⟨by rw [hz.out], rfl⟩
      · have hz : Hid (eqb = false) := Lib.hid (by rw [← HEQ.out, decide_eq_false (fun h => e1 h.1)])
        have e1' : (l.a == x.a) = false := by simpa using e1
        clear e1
        go_wp2_with fail
        go_meet
        exact ⟨by rw [hz.out], rfl⟩
    case rest =>
    obtain ⟨rfl, rfl⟩ := hcut
    go_upto_if 143 with fail
    cases eqb
    rotate_left 1
    · have HS2 : Hid (rsA x (L.take (k + 1)) = (O ++ [⟨x.a, x.b, x.ca, x.cb, l.cp⟩], true, l.cp)) := Lib.hid (by
        rw [HS.out]
        unfold stA
        rw [if_pos (of_decide_eq_true HEQ.out)])
      have fx := frozen_of_row _ _ 4 _ _ K1.out.1.xb
      have K2 : Hid (AQ w ⟨R, L, pR, cR, some ⟨b4, off4, none⟩, cL⟩ c x gx go B (O, true, l.cp) (.slice p3 O.length c3) (wn.setCell ⟨gx, 4, none⟩ (.int .i64 l.cp))) := Lib.hid (K1.out.1.cap l.cp)
      go_upto_region 28 with fail
      clear K1 l0 l1 l2 l3 l4 x0 x1 x2 x3 x4 fx
      generalize wn.setCell _ _ = wm at *
      obtain ⟨x0, x1, x2, x3, x4⟩ := bx_facts K2.out.xb
      obtain ⟨o0, o1⟩ := row_cells K2.out.ob
      simp only at x4
      have hsz := K2.out.lt.2.2.2
      go_wp2_with (at_builtin; refine hold_on ?_)
      refine Lib.hid ?_
      refine wpList_append_lies _ rfl _ _ 24 rfl B 68 il (.agg #[.int .i64 0, .int .i64 0, .int .i64 0, .int .i64 0, .int .i64 0]) 5 40 Try.underlying24 hil hl0 hl1 hl2 rfl (by decide) (.slice p3 O.length c3) O.length (O.flatMap lkC) rfl (K2.out.oL.alloc _) ⟨wm.heap.size, 0, none⟩ 1 1 [.int .i64 x.a, .int .i64 x.b, .int .i64 x.ca, .int .i64 x.cb, .int .i64 l.cp] rfl rfl ?c1 ?c2 (by decide) ?c3 ?c4 ?c5 _ rfl ?_
      try (case c1 => exact cells5 _ _ _ _ _ _ _)
      case c2 => intro u hu; simp at hu; rcases hu with rfl | rfl | rfl | rfl | rfl <;> rfl
      case c3 => first | omega | (unfold maxLen; omega)
      case c4 => omega
      case c5 => first | omega | (simp; omega)
      intro g6 cap6 w6 hown6 hg6 hat6 hlt6
      obtain ⟨hb6, hM6⟩ := K2.out.app (y := ⟨x.a, x.b, x.ca, x.cb, l.cp⟩) (d' := true) hown6 hg6
      have K9 := Lib.hid hM6
      obtain ⟨z0, z1⟩ := row_cells hb6
      have y1 := frozen_of_row _ _ 1 _ _ hb6
      clear hown6 hg6 hat6 hlt6 hM6 hb6
      go_wp2_with fail
      exact ⟨⟨k + 1, _, by omega, congrArg _ (by omega), by rw [HS2.out], by rw [HS2.out]; exact K9⟩, by simp only [intOf]; omega⟩
    clear l0 l1 l2 l3 l4 x0 x1 x2 x3 x4
    obtain ⟨l0, l1, l2, l3, l4⟩ := bx_facts K1.out.2.1
    obtain ⟨x0, x1, x2, x3, x4⟩ := bx_facts K1.out.1.xb
    simp only at x4
    obtain ⟨inb, hin⟩ : ∃ z, decide (d = false ∧ (x.a < l.a ∨ (x.a = l.a ∧ x.b < l.b))) = z := ⟨_, rfl⟩
    have HIN := Lib.hid hin
    clear hin
    go_upto_region 30 with fail
    go_cut [175] from 144 to 175 (fun v wx => v = .bool inb ∧ wn = wx)
    case first =>
      cases d
      rotate_left 1
      · have hz : Hid (inb = false) := Lib.hid (by rw [← HIN.out, decide_eq_false (fun h => by cases h.1)])
        go_wp2_with fail
        go_meet
        exact ⟨by rw [hz.out], rfl⟩
      by_cases e1 : x.a < l.a
      · have hz : Hid (inb = true) := Lib.hid (by rw [← HIN.out, decide_eq_true ⟨rfl, Or.inl e1⟩])
        go_wp2_with fail
        go_meet
        exact ⟨by rw [hz.out], rfl⟩
      by_cases e2 : x.a = l.a
      · have e2' : (x.a == l.a) = true := by simpa using e2
        by_cases e3 : x.b < l.b
        · have hz : Hid (inb = true) := Lib.hid (by rw [← HIN.out, decide_eq_true ⟨rfl, Or.inr ⟨e2, e3⟩⟩])
          clear e2
          go_wp2_with fail
          go_meet
          exact ⟨by rw [hz.out], rfl⟩
        · have hz : Hid (inb = false) := Lib.hid (by rw [← HIN.out, decide_eq_false (fun h => by rcases h.2 with h | h; exact e1 h; exact e3 h.2)])
          clear e2
          go_wp2_with fail
          go_meet
          exact ⟨by rw [hz.out], rfl⟩
      · have e2' : (x.a == l.a) = false := by simpa using e2
        have hz : Hid (inb = false) := Lib.hid (by rw [← HIN.out, decide_eq_false (fun h => by rcases h.2 with h | h; exact e1 h; exact e2 h.1)])
        clear e2
        go_wp2_with fail
        go_meet
        exact ⟨by rw [hz.out], rfl⟩
    case rest =>
    obtain ⟨rfl, rfl⟩ := hcut
    go_upto_if 175 with fail
    have hne : ¬ (l.a = x.a ∧ l.b = x.b) := of_decide_eq_false HEQ.out
    cases inb
    · have HS2 : Hid (rsA x (L.take (k + 1)) = (O ++ [l], d, cp)) := Lib.hid (by
        rw [HS.out]
        unfold stA
        rw [if_neg hne, if_neg (of_decide_eq_false HIN.out)])
      have K2 := Lib.hid K1.out.1
      obtain ⟨o0, o1⟩ := row_cells K2.out.ob
      have hsz := K2.out.lt.2.2.2
      clear hne K1
      go_wp2_with (at_builtin; refine hold_on ?_)
      refine Lib.hid ?_
      refine wpList_append_lies _ rfl _ _ 24 rfl B 68 il (.agg #[.int .i64 0, .int .i64 0, .int .i64 0, .int .i64 0, .int .i64 0]) 5 40 Try.underlying24 hil hl0 hl1 hl2 rfl (by decide) (.slice p3 O.length c3) O.length (O.flatMap lkC) rfl (K2.out.oL.alloc _) ⟨wn.heap.size, 0, none⟩ 1 1 [.int .i64 l.a, .int .i64 l.b, .int .i64 l.ca, .int .i64 l.cb, .int .i64 l.cp] rfl rfl ?c1 ?c2 (by decide) ?c3 ?c4 ?c5 _ rfl ?_
      try (case c1 => exact cells5 _ _ _ _ _ _ _)
      case c2 => intro u hu; simp at hu; rcases hu with rfl | rfl | rfl | rfl | rfl <;> rfl
      case c3 => first | omega | (unfold maxLen; omega)
      case c4 => omega
      case c5 => first | omega | (simp; omega)
      intro g6 cap6 w6 hown6 hg6 hat6 hlt6
      obtain ⟨hb6, hM6⟩ := K2.out.app (y := l) (d' := d) hown6 hg6
      have K9 := Lib.hid hM6
      obtain ⟨z0, z1⟩ := row_cells hb6
      have y1 := frozen_of_row _ _ 1 _ _ hb6
      clear hown6 hg6 hat6 hlt6 hM6 hb6
      go_wp2_with fail
      exact ⟨⟨k + 1, _, by omega, congrArg _ (by omega), by rw [HS2.out], by rw [HS2.out]; exact K9⟩, by simp only [intOf]; omega⟩
    · have HS2 : Hid (rsA x (L.take (k + 1)) = (O ++ [⟨x.a, x.b, x.ca, x.cb, cp⟩] ++ [l], true, cp)) := Lib.hid (by
        rw [HS.out]
        unfold stA
        rw [if_neg hne, if_pos (of_decide_eq_true HIN.out)])
      have K2 := Lib.hid K1.out.1
      have HLB := Lib.hid K1.out.2
      obtain ⟨o0, o1⟩ := row_cells K2.out.ob
      have hsz := K2.out.lt.2.2.2
      clear hne K1
      go_wp2_with (at_builtin; refine hold_on ?_)
      refine Lib.hid ?_
      refine wpList_append_lies _ rfl _ _ 24 rfl B 68 il (.agg #[.int .i64 0, .int .i64 0, .int .i64 0, .int .i64 0, .int .i64 0]) 5 40 Try.underlying24 hil hl0 hl1 hl2 rfl (by decide) (.slice p3 O.length c3) O.length (O.flatMap lkC) rfl (K2.out.oL.alloc _) ⟨wn.heap.size, 0, none⟩ 1 1 [.int .i64 x.a, .int .i64 x.b, .int .i64 x.ca, .int .i64 x.cb, .int .i64 cp] rfl rfl ?c1 ?c2 (by decide) ?c3 ?c4 ?c5 _ rfl ?_
      try (case c1 => exact cells5 _ _ _ _ _ _ _)
      case c2 => intro u hu; simp at hu; rcases hu with rfl | rfl | rfl | rfl | rfl <;> rfl
      case c3 => first | omega | (unfold maxLen; omega)
      case c4 => omega
      case c5 => first | omega | (simp; omega)
      intro g6 cap6 w6 hown6 hg6 hat6 hlt6
      obtain ⟨hb6, hM6⟩ := K2.out.app (y := ⟨x.a, x.b, x.ca, x.cb, cp⟩) (d' := true) hown6 hg6
      have HLB9 := Lib.hid (kept_row (kept_row (kept_row HLB.out.1 (World.grownBy_alloc wn _ none) (by simp)) hg6 (fun e => HLB.out.2.2 e.symm)) (grown_setCell w6 ⟨go, 1, none⟩ (.slice (some ⟨g6, 0, none⟩) (O.length + 1) cap6)) (fun e => by have h9 : gl = go := Option.some.inj e; have := HLB.out.2.1; have := K2.out.lt; omega))
      have K9 := Lib.hid hM6
      obtain ⟨z0, z1⟩ := row_cells hb6
      have y1 := frozen_of_row _ _ 1 _ _ hb6
      clear hown6 hg6 hat6 hlt6 hM6 hb6
      go_upto_region 33 with fail
      clear z0 z1 y1 x0 x1 x2 x3 x4 l0 l1 l2 l3 l4 o0 o1 K2 hsz
      generalize w6.setCell _ _ = wm at *
      have HLE : Hid ((O ++ [(⟨x.a, x.b, x.ca, x.cb, cp⟩ : Lk)]).length = O.length + 1) := Lib.hid (by rw [List.length_append]; rfl)
      obtain ⟨l0, l1, l2, l3, l4⟩ := bx_facts HLB9.out
      obtain ⟨o0, o1⟩ := row_cells K9.out.ob
      have hsz := K9.out.lt.2.2.2
      have K2 := K9
      clear K9 HLB
      obtain ⟨O2, hO2⟩ : ∃ O2, O ++ [(⟨x.a, x.b, x.ca, x.cb, cp⟩ : Lk)] = O2 := ⟨_, rfl⟩
      rw [hO2] at K2 HS2 HLE
      have hln2 : O2.length ≤ 121 := by rw [HLE.out]; omega
      rw [← HLE.out] at o1 K2 ⊢
      clear hO2 HLE hln
      go_wp2_with (at_builtin; refine hold_on ?_)
      refine Lib.hid ?_
      refine wpList_append_lies _ rfl _ _ 24 rfl B 68 il (.agg #[.int .i64 0, .int .i64 0, .int .i64 0, .int .i64 0, .int .i64 0]) 5 40 Try.underlying24 hil hl0 hl1 hl2 rfl (by decide) (.slice (some ⟨g6, 0, none⟩) O2.length cap6) O2.length (O2.flatMap lkC) rfl (K2.out.oL.alloc _) ⟨wm.heap.size, 0, none⟩ 1 1 [.int .i64 l.a, .int .i64 l.b, .int .i64 l.ca, .int .i64 l.cb, .int .i64 l.cp] rfl rfl ?c1 ?c2 (by decide) ?c3 ?c4 ?c5 _ rfl ?_
      try (case c1 => exact cells5 _ _ _ _ _ _ _)
      case c2 => intro u hu; simp at hu; rcases hu with rfl | rfl | rfl | rfl | rfl <;> rfl
      case c3 => first | omega | (unfold maxLen; omega)
      case c4 => omega
      case c5 => first | omega | (simp; omega)
      intro g7 cap7 w7 hown7 hg7 hat6 hlt6
      obtain ⟨hb6, hM6⟩ := K2.out.app (y := l) (d' := true) hown7 hg7
      have K9 := Lib.hid hM6
      obtain ⟨z0, z1⟩ := row_cells hb6
      have y1 := frozen_of_row _ _ 1 _ _ hb6
      clear hown7 hg7 hat6 hlt6 hM6 hb6
      go_wp2_with fail
      exact ⟨⟨k + 1, _, by omega, congrArg _ (by omega), by rw [HS2.out], by rw [HS2.out]; exact K9⟩, by simp only [intOf]; omega⟩
  case neg =>
    have hkl : k = L.length := by omega
    have HS := Lib.hid (show rsA x (L.take k) = rsA x L by rw [hkl, List.take_length])
    rw [HS.out] at HK hln ⊢
    have hk9 : ¬ ((k : Int) < (L.length : Int)) := by omega
    clear hkl HS hlt
    obtain ⟨s, hs⟩ : ∃ s, rsA x L = s := ⟨_, rfl⟩
    rw [hs] at HK HLN hln ⊢
    clear hs
    obtain ⟨O, d, cp⟩ := s
    obtain ⟨p3, c3, rfl, hp3, hp4⟩ := own_shape HK.out.oL
    simp only at hln HK ⊢
    clear hp3 hp4
    obtain ⟨c0, c1⟩ := row_cells HK.out.p.tb
    obtain ⟨o0, o1⟩ := row_cells HK.out.ob
    simp only at o0 o1
    cases d
    rotate_left 1
    · have HF9 : Hid (linksV L c = O) := Lib.hid (by rw [HLN.out]; rfl)
      obtain ⟨z0, z1⟩ := row_cells HK.out.p.rb
      have y0 := frozen_of_row _ _ 0 _ _ HK.out.p.rb
      have y1 := frozen_of_row _ _ 1 _ _ HK.out.p.rb
      go_wp2_with fail
      refine bodyPost_ret (res_topo_err rfl _ _ (w.heap.size + 2) _ _ rfl HK.out.p.out.1) rfl ?_
      try rw [if_pos rfl, if_pos rfl]
      rw [HF9.out]
      exact HK.out.ret HT0.out
    · have HF9 : Hid (linksV L c = O ++ [⟨x.a, x.b, x.ca, x.cb, cp⟩]) := Lib.hid (by rw [HLN.out]; rfl)
      have K2 := HK
      clear HK
      obtain ⟨x0, x1, x2, x3, x4⟩ := bx_facts K2.out.xb
      simp only at x4
      have hsz := K2.out.lt.2.2.2
      go_wp2_with (at_builtin; refine hold_on ?_)
      refine Lib.hid ?_
      refine wpList_append_lies _ rfl _ _ 24 rfl B 68 il (.agg #[.int .i64 0, .int .i64 0, .int .i64 0, .int .i64 0, .int .i64 0]) 5 40 Try.underlying24 hil hl0 hl1 hl2 rfl (by decide) (.slice p3 O.length c3) O.length (O.flatMap lkC) rfl (K2.out.oL.alloc _) ⟨wr.heap.size, 0, none⟩ 1 1 [.int .i64 x.a, .int .i64 x.b, .int .i64 x.ca, .int .i64 x.cb, .int .i64 cp] rfl rfl ?c1 ?c2 (by decide) ?c3 ?c4 ?c5 _ rfl ?_
      try (case c1 => exact cells5 _ _ _ _ _ _ _)
      case c2 => intro u hu; simp at hu; rcases hu with rfl | rfl | rfl | rfl | rfl <;> rfl
      case c3 => first | omega | (unfold maxLen; omega)
      case c4 => omega
      case c5 => first | omega | (simp; omega)
      intro g6 cap6 w6 hown6 hg6 hat6 hlt6
      obtain ⟨hb6, hM6⟩ := K2.out.app (y := ⟨x.a, x.b, x.ca, x.cb, cp⟩) (d' := true) hown6 hg6
      have K9 := Lib.hid hM6
      obtain ⟨z0, z1⟩ := row_cells hb6
      have y1 := frozen_of_row _ _ 1 _ _ hb6
      clear hown6 hg6 hat6 hlt6 hM6 hb6
      go_upto_region 36 with fail
      generalize w6.setCell _ _ = wm at *
      have HLE : Hid ((O ++ [(⟨x.a, x.b, x.ca, x.cb, cp⟩ : Lk)]).length = O.length + 1) := Lib.hid (by rw [List.length_append]; rfl)
      clear z0 z1 y1 o0 o1 x0 x1 x2 x3 x4 K2
      obtain ⟨o0, o1⟩ := row_cells K9.out.ob
      simp only at o0 o1
      obtain ⟨z0, z1⟩ := row_cells K9.out.p.rb
      have y0 := frozen_of_row _ _ 0 _ _ K9.out.p.rb
      have y1 := frozen_of_row _ _ 1 _ _ K9.out.p.rb
      go_wp2_with fail
      refine bodyPost_ret (res_topo_err rfl _ _ (w.heap.size + 2) _ _ rfl K9.out.p.out.1) rfl ?_
      try rw [if_pos rfl, if_pos rfl]
      rw [HF9.out]
      exact K9.out.ret HT0.out
end Go.Proofs.Ytiencdgmnkphjaa

/- As until: what is not late keeps what holds. -/
namespace Go.Proofs.Ytiencdgmnkphjaa
open Go
section
variable {P : Program} {ops : Array Oper} {Q : Exit → Act → World → Prop} {md : Region.Mode} {S : World → Prop} {late : Nat → Bool}
/-- Any order from here on; S holds behind whatever is not late. -/
def anyV (P : Program) (md : Region.Mode) (ops : Array Oper) (Q : Exit → Act → World → Prop) (S : World → Prop) (late : Nat → Bool) : Nat → Array Bool → Act → World → Prop
  | 0, seen, a, w => Region.ready md ops seen = [] ∧ Q .normal a w
  | n + 1, seen, a, w => (Region.ready md ops seen = [] → Q .normal a w) ∧
      ∀ k, k ∈ Region.ready md ops seen → wpOp P ops Q k (fun b v => (late k = false → S w → S v) ∧ anyV P md ops Q S late n (seen.setIfInBounds k true) b v) a w
theorem anyV_any (n : Nat) : ∀ (seen : Array Bool) (a : Act) (w : World), anyV P md ops Q S late n seen a w → wpAny P md ops Q n seen a w := by
  induction n with
  | zero => intro seen a w h; exact h
  | succ n ih => intro seen a w h; exact ⟨h.1, fun k hk => wpOp_mono (fun b v hb => ih _ b v hb.2) (h.2 k hk)⟩
theorem anyV_first {i : Nat} {oi : Oper} {v : Value} (hi : ops[i]? = some oi) (hsel : ∀ (j : Nat) (o : Oper) cs b, ops[j]? = some o → o.op ≠ .select cs b)
    (hQ : ∀ c a w, Q (.panic c) (a.put oi.dst v) w → Q (.panic c) a w) (hw : waits md ops late i = true) (n : Nat) :
    ∀ (seen : Array Bool) (a : Act) (w : World),
      (∀ j oj, ops[j]? = some oj → j ≠ i → seen.getD j true = false → (∀ e ∈ oj.after, Region.binds md e = true → e.on ≠ i) → oi.apart ops oj = true) →
      Shut1 md ops seen → i ∈ Region.ready md ops seen → YieldsIf P ops S oi v a → S w → anyV P md ops Q S late n (seen.setIfInBounds i true) (a.put oi.dst v) w → anyV P md ops Q S late (n + 1) seen a w := by
  have now : ∀ (m : Nat) (seen : Array Bool) (a : Act) (w : World), YieldsIf P ops S oi v a → S w → anyV P md ops Q S late m (seen.setIfInBounds i true) (a.put oi.dst v) w →
      wpOp P ops Q i (fun b u => (late i = false → S w → S u) ∧ anyV P md ops Q S late m (seen.setIfInBounds i true) b u) a w := fun m seen a w hy hS h => hy.wpOp hi hS ⟨fun _ _ => hS, h⟩
  induction n with
  | zero =>
    intro seen a w _ _ hr hy hS h
    refine ⟨fun e => (by rw [e] at hr; cases hr), fun j hj => ?_⟩
    by_cases e : j = i
    · exact e ▸ now 0 seen a w hy hS h
    · have := ready_mono hj e
      rw [h.1] at this
      cases this
  | succ n ih =>
    intro seen a w hf hc hr hy hS h
    refine ⟨fun e => (by rw [e] at hr; cases hr), fun j hj => ?_⟩
    by_cases e : j = i
    · exact e ▸ now (n + 1) seen a w hy hS h
    obtain ⟨hun, oj, hoj, hall⟩ := mem_ready.1 hj
    have hno : ∀ e ∈ oj.after, Region.binds md e = true → e.on ≠ i := fun e he hb hei => by
      have h1 := hall e he hb
      have h0 := (mem_ready.1 hr).1
      rw [hei] at h1
      by_cases hlt : i < seen.size
      · simp [hlt] at h0 h1
        rw [h0] at h1
        cases h1
      · simp [Array.getElem?_eq_none (Nat.le_of_not_lt hlt)] at h1
    have hl : late j = false := by
      cases hl : late j with
      | false => rfl
      | true =>
        have h1 := waits_seen hw hc hj hl
        have h0 := (mem_ready.1 hr).1
        by_cases hlt : i < seen.size
        · simp [hlt] at h0 h1
          rw [h0] at h1
          cases h1
        · simp [Array.getElem?_eq_none (Nat.le_of_not_lt hlt)] at h1
    refine wpOp_mono (fun b u hb => ⟨hb.2.1, ih _ b u (fun k ok hk hki hsk hnk => hf k ok hk hki ?_ hnk) (hc.step hj) (ready_mono hr (Ne.symm e)) hb.1 (hb.2.1 hl hS) (by rw [Array.setIfInBounds_comm _ _ e]; exact hb.2.2)⟩)
      (wpOp_putIf hoj (hf j oj hoj e hun hno) (fun cs b => hsel i oi cs b hi) (fun cs b => hsel j oj cs b hoj) hQ hy (h.2 j (ready_mono hj e)))
    by_cases hjk : j = k
    · exact hjk ▸ hun
    · rwa [getD_set_ne true hjk] at hsk
theorem anyV_take {i : Nat} {oi : Oper} {v : Value} {n : Nat} {seen : Array Bool} {a : Act} {w : World} (hi : ops[i]? = some oi) (hw : waits md ops late i = true)
    (hc : shut1 md ops seen = true) (hs : Region.noSelect ops = true) (hf : Region.free md ops seen i = true) (hr : (Region.ready md ops seen).contains i = true)
    (hQ : ∀ c a w, Q (.panic c) (a.put oi.dst v) w → Q (.panic c) a w) (hy : YieldsIf P ops S oi v a) (hS : S w)
    (h : anyV P md ops Q S late n (seen.setIfInBounds i true) (a.put oi.dst v) w) : anyV P md ops Q S late (n + 1) seen a w :=
  anyV_first hi (Region.noSelect_spec hs) hQ hw n seen a w (Region.free_spec hi hf) (shut1_spec hc) (by simpa using hr) hy hS h
/-- Each of some operations comes up next. -/
def EachV (P : Program) (md : Region.Mode) (ops : Array Oper) (Q : Exit → Act → World → Prop) (S : World → Prop) (late : Nat → Bool) (n : Nat) (seen : Array Bool) (a : Act) (w : World) (rs : List Nat) : Prop :=
  ∀ k ∈ rs, wpOp P ops Q k (fun b v => (late k = false → S w → S v) ∧ anyV P md ops Q S late n (seen.setIfInBounds k true) b v) a w
theorem EachV.nil {n : Nat} {seen : Array Bool} {a : Act} {w : World} : EachV P md ops Q S late n seen a w [] := fun _ h => by cases h
theorem EachV.cons {n : Nat} {seen : Array Bool} {a : Act} {w : World} {i : Nat} {o : Oper} {rs : List Nat} (ho : ops[i]? = some o)
    (h : ∀ K : Act → World → Prop, Shut (∀ b v, (late i = false → S w → S v) → ((late i = false → S w → S v) → anyV P md ops Q S late n (seen.setIfInBounds i true) b v) → K b v) → if Region.wanted o (yielded ops a.tmps) = true then Oper.wp P o a w K Q else K (a.put o.dst undef) w)
    (hs : EachV P md ops Q S late n seen a w rs) : EachV P md ops Q S late n seen a w (i :: rs) := fun j hj => by
  rcases List.mem_cons.1 hj with rfl | hj
  · exact wpOp_step ho (fun K hK => h K (fun b v hS hW => hK b v ⟨hS, hW hS⟩))
  · exact hs j hj
theorem anyV_ready {rs : List Nat} {n : Nat} {seen : Array Bool} {a : Act} {w : World} (hr : Region.ready md ops seen = rs) (hne : rs ≠ []) (h : EachV P md ops Q S late n seen a w rs) : anyV P md ops Q S late (n + 1) seen a w :=
  ⟨fun e => absurd (hr ▸ e) hne, hr ▸ h⟩
theorem anyV_done {seen : Array Bool} {a : Act} {w : World} (hr : Region.ready md ops seen = []) (h : Q .normal a w) (n : Nat) : anyV P md ops Q S late n seen a w := by
  cases n with
  | zero => exact ⟨hr, h⟩
  | succ n => exact ⟨fun _ => h, by rw [hr]; intro k hk; cases hk⟩
theorem region_until2 {id : Nat} {a : Act} {w : World} (late : Nat → Bool) (hm : P.follows .mixedOrders = true) (hS : S w.drew) (h : S w.drew → anyV P .any ops Q S late ops.size (Array.replicate ops.size false) a w.drew) :
    (Code.region id ops true).wp P Q a w := wp_region_any hm (anyV_any _ _ _ _ (h hS))
end
end Go.Proofs.Ytiencdgmnkphjaa

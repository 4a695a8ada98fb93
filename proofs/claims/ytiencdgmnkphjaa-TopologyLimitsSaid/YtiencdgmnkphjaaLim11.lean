/- Parts of the proof, packed: ToApp, ToCompW, ToConn. -/
import Derived.Test.YtiencdgmnkphjaaLim8
import Derived.Test.YtiencdgmnkphjaaLim10
/- topology: Apply. -/
namespace Go.Proofs.Ytiencdgmnkphjaa
open Go.RowKit Bs
set_option maxRecDepth 100000 in
theorem res_topo_err {fn : Func} {p u : Tmp} (h : fn.results = #[.cell p 26, .tmp u]) (tmps : Array Value) (w : World) (g : Nat) (x y : Value) (hp : tmps.getD p undef = .pointer (some ⟨g, 0, none⟩)) (hg : w.heap[g]? = some (.cells #[x, y] 26 (0, 0))) :
    (results fn tmps).run Try.prog w = .ok (.tuple #[.agg #[x, y], tmps.getD u undef]) w := by
  have hp' : tmps[p]?.getD undef = .pointer (some ⟨g, 0, none⟩) := by simpa using hp
  rw [results_cell_tmp h]
  simp [hp', asAddr, run_loadVar_row w g _ _ _ _ _ hg Try.underlying26 rfl topo_size, Result.andThen]
theorem blk_lt {w : World} {b : Nat} {o : Obj} (h : w.heap[b]? = some o) : b < w.heap.size := by
  rcases Nat.lt_or_ge b w.heap.size with h1 | h1
  · exact h1
  · rw [Array.getElem?_eq_none h1] at h
    cases h
theorem own_caps {w : World} {base size n m cap : Nat} {e : TypeId} {p : Option Addr} {xs : List Value} (h : w.ownsRow base e size (.slice p m cap) n xs) : m ≤ cap ∧ cap ≤ 9223372036854775807 := by
  obtain ⟨p', c', e, h1, h2⟩ := own_shape h
  injection e with e1 e2 e3
  subst e2
  subst e3
  exact ⟨h1, h2⟩
/-- What returns a topology and an error. -/
def TAPost (Rr : List Rt) (Lr : List Lk) (n : Int) (w : World) (e : Ending) (w' : World) : Prop :=
  ∃ pR cR pL cL, e = .returned (.tuple #[.agg #[.slice pR Rr.length cR, .slice pL Lr.length cL], .int .i64 n]) ∧ TgOk w' (fun _ => True) ⟨Rr, Lr, pR, cR, pL, cL⟩ ∧ w.grownBy w' none
/-- The boxes of Apply: the topology, the change, the result. -/
structure AP (w : World) (T : Tg) (c : Ch) (wr : World) : Prop where
  tb : wr.heap[w.heap.size]? = some (.cells #[.slice T.pR T.R.length T.cR, .slice T.pL T.L.length T.cL] 26 (0, 0))
  cb : wr.heap[w.heap.size + 1]? = some (.cells #[.int .i64 c.a, .int .i64 c.b, .int .i64 c.ca, .int .i64 c.cb] 54 (0, 0))
  rb : wr.heap[w.heap.size + 2]? = some (.cells #[.slice none 0 0, .slice none 0 0] 26 (0, 0))
  t : TgOk wr (· < w.heap.size) T
  gr : w.grownBy wr none
  sz : w.heap.size + 3 ≤ wr.heap.size
theorem AP.keep {w wr w' : World} {T : Tg} {c : Ch} (h : AP w T c wr) (g : wr.grownBy w' none) : AP w T c w' :=
  ⟨kept_row h.tb g (by simp), kept_row h.cb g (by simp), kept_row h.rb g (by simp), h.t.keep g, grown_trans h.gr g, Nat.le_trans h.sz g.size⟩
/-- .. and the link's. -/
structure AL (w : World) (T : Tg) (c : Ch) (g : Nat) (wr : World) : Prop where
  p : AP w T c wr
  lb : wr.heap[g]? = some (.cells #[.int .i64 (lkOf c).a, .int .i64 (lkOf c).b, .int .i64 (lkOf c).ca, .int .i64 (lkOf c).cb, .int .i64 (lkOf c).cp] 68 (0, 0))
  g3 : w.heap.size + 3 ≤ g
theorem AL.keep {w wr w' : World} {T : Tg} {c : Ch} {g : Nat} (h : AL w T c g wr) (k : wr.grownBy w' none) : AL w T c g w' := ⟨h.p.keep k, kept_row h.lb k (by simp), h.g3⟩
/-- The result's box, stored. -/
theorem AP.out {w wr : World} {T : Tg} {c : Ch} {uR uL : Value} (h : AP w T c wr) :
    ((wr.setCell ⟨w.heap.size + 2, 0, none⟩ uR).setCell ⟨w.heap.size + 2, 1, none⟩ uL).heap[w.heap.size + 2]? = some (.cells #[uR, uL] 26 (0, 0)) ∧ w.grownBy ((wr.setCell ⟨w.heap.size + 2, 0, none⟩ uR).setCell ⟨w.heap.size + 2, 1, none⟩ uL) none :=
  ⟨store2 h.rb, grown_new h.gr (grown_store2 wr (w.heap.size + 2) uR uL) (by omega)⟩
theorem AP.err {w wr : World} {T : Tg} {c : Ch} {n : Int} (h : AP w T c wr) :
    TAPost [] [] n w (.returned (.tuple #[.agg #[.slice none 0 0, .slice none 0 0], .int .i64 n])) ((wr.setCell ⟨w.heap.size + 2, 0, none⟩ (.slice none 0 0)).setCell ⟨w.heap.size + 2, 1, none⟩ (.slice none 0 0)) :=
  ⟨none, 0, none, 0, rfl, ⟨rdf_nil _ _ _ _, rdf_nil _ _ _ _, ⟨Nat.le_refl _, by show 0 ≤ _; omega⟩, ⟨Nat.le_refl _, by show 0 ≤ _; omega⟩⟩, h.out.2⟩
set_option maxRecDepth 100000 in
set_option maxHeartbeats 6400000 in
theorem tapplyL_any (T : Tg) (c : Ch) (q : Nat → Prop) (w : World) (hT : TgOk w q T) (hpR : T.pR = none → T.cR = 0) (hpL : T.pL = none → T.cL = 0) (hlim : goneC c = false ∧ (fndL T.L (lkOf c) = true ∨ errV T.R T.L c ≠ 0)) :
    Calls Try.prog 35 #[.agg #[.slice T.pR T.R.length T.cR, .slice T.pL T.L.length T.cL], .agg #[.int .i64 c.a, .int .i64 c.b, .int .i64 c.ca, .int .i64 c.cb]] w fun e w' => TAPost (if errV T.R T.L c = 0 then T.R else []) (if errV T.R T.L c = 0 then linksV T.L c else []) (errV T.R T.L c) w e w' := by
  obtain ⟨R, L, pR, cR, pL, cL⟩ := T
  have hm1 := Nat.le_trans hT.cr.1 hT.cr.2
  have hm2 := Nat.le_trans hT.cl.1 hT.cl.2
  simp only at hm1 hm2 hpR hpL hlim ⊢
  obtain ⟨wb, hwb, b1, b2, b3, b4, b5⟩ := boxes3 w #[.slice pR R.length cR, .slice pL L.length cL] #[.int .i64 c.a, .int .i64 c.b, .int .i64 c.ca, .int .i64 c.cb] #[.slice none 0 0, .slice none 0 0] 26 54 26
  have A0 : Hid (AP w ⟨R, L, pR, cR, pL, cL⟩ c wb) := Lib.hid ⟨b1, b2, b3, hT.old.keep b4, b4, by omega⟩
  have HPN := Lib.hid (And.intro hpR hpL)
  obtain ⟨E, hE⟩ : ∃ E, errV R L c = E := ⟨_, rfl⟩
  rw [hE]
  have HE := Lib.hid hE
  have HWB := Lib.hid hwb
  clear b1 b2 b3 b4 b5 hT hpR hpL hE hwb
  go_enter Try.func35, Try.ntmps35
  go_upto_region 1 with fail
  rw [← HWB.out]
  have s1 : w.heap.size + 1 + 1 = w.heap.size + 2 := rfl
  try rw [s1]
  clear s1
  obtain ⟨c0, c1⟩ := row_cells A0.out.tb
  go_wp2_with fail
  refine (tvalid_any ⟨R, L, pR, cR, pL, cL⟩ _ wb A0.out.t).mono ?_
  rintro e w1 ⟨rfl, hg⟩
  simp only
  have A1 := Lib.hid (A0.out.keep hg)
  clear hg A0 c0 c1 HWB
  cases hv : okT R L
  · obtain rfl : E = 1 := by have := HE.out; unfold errV at this; rw [hv] at this; exact this.symm
    obtain ⟨z0, z1⟩ := row_cells A1.out.rb
    have y0 := frozen_of_row _ _ 0 _ _ A1.out.rb
    have y1 := frozen_of_row _ _ 1 _ _ A1.out.rb
    clear hv
    go_wp2_with fail
    refine bodyPost_ret (res_topo_err rfl _ _ (w.heap.size + 2) _ _ rfl A1.out.out.1) rfl ?_
    exact A1.out.err
  have HV := Lib.hid hv
  obtain ⟨h24, h60⟩ := okT_len hv
  have HO := Lib.hid (okT_all hv)
  clear hv
  obtain ⟨d0, d1, d2, d3⟩ := ch_facts A1.out.cb
  go_wp2_with fail
  refine (tlinkOf_any c w1).mono ?_
  rintro e w2 ⟨rfl, hg⟩
  unfold lkA
  have A2 := Lib.hid (A1.out.keep hg)
  have gal := World.grownBy_alloc w2 (.cells #[.int .i64 (lkOf c).a, .int .i64 (lkOf c).b, .int .i64 (lkOf c).ca, .int .i64 (lkOf c).cb, .int .i64 (lkOf c).cp] 68) none
  have L3 : Hid (AL w ⟨R, L, pR, cR, pL, cL⟩ c w2.heap.size (w2.alloc (.cells #[.int .i64 (lkOf c).a, .int .i64 (lkOf c).b, .int .i64 (lkOf c).ca, .int .i64 (lkOf c).cb, .int .i64 (lkOf c).cp] 68))) := Lib.hid ⟨A2.out.keep gal, heap_alloc_new w2 _, A2.out.sz⟩
  clear hg A1 A2 gal d0 d1 d2 d3
  go_upto_region 4 with fail
  generalize w2.alloc _ = w3 at *
  obtain ⟨g, hg⟩ : ∃ g, w2.heap.size = g := ⟨_, rfl⟩
  rw [hg] at L3 ⊢
  clear hg
  obtain ⟨x, hx⟩ : ∃ x, lkOf c = x := ⟨_, rfl⟩
  have HX := Lib.hid hx
  obtain ⟨l0, l1, l2, l3, l4⟩ := lk_facts L3.out.lb
  rw [hx] at l0 l1 l2 l3 l4
  clear hx
  obtain ⟨c0, c1⟩ := row_cells L3.out.p.tb
  go_wp2_with fail
  refine (tlat_any ⟨R, L, pR, cR, pL, cL⟩ x.a x.b _ w3 L3.out.p.t (by show L.length ≤ 1000000; omega)).mono ?_
  rintro e w4 ⟨i, b, rfl, hb, hg⟩
  have L4 := Lib.hid (L3.out.keep hg)
  have HF : Hid (fndL L x = b) := Lib.hid (bs_fnd HO.out hb.out)
  have HBS := hb
  clear hg L3 l0 l1 l2 l3 l4 c0 c1 hb
  obtain ⟨d0, d1, d2, d3⟩ := ch_facts L4.out.p.cb
  go_upto_region 5 with fail
  obtain ⟨G, hG⟩ : ∃ G, goneC c = G := ⟨_, rfl⟩
  have HG := Lib.hid hG
  clear hG
  go_cut [9] from 26 to 33 (fun v wx => v = .bool G ∧ w4 = wx)
  case first =>
    cases e1 : (c.ca == 0)
    · have hgv : Hid (G = false) := Lib.hid (by rw [← HG.out]; unfold goneC; rw [e1]; rfl)
      go_wp2_with fail
      go_meet
      exact ⟨by rw [hgv.out], rfl⟩
    · have hgv : Hid (G = (c.cb == 0)) := Lib.hid (by rw [← HG.out]; unfold goneC; rw [e1]; rfl)
      go_wp2_with fail
      go_meet
      exact ⟨by rw [hgv.out], rfl⟩
  case rest =>
  obtain ⟨rfl, rfl⟩ := hcut
  go_upto_region 6 with fail
  obtain ⟨ha, hha⟩ : ∃ z, hasR R c.a = z := ⟨_, rfl⟩
  obtain ⟨hb, hhb⟩ : ∃ z, hasR R c.b = z := ⟨_, rfl⟩
  have HH : Hid (hasV R L c.a = ha ∧ hasV R L c.b = hb) := Lib.hid (by unfold hasV; rw [HV.out, hha, hhb]; exact ⟨rfl, rfl⟩)
  have HHA := Lib.hid (And.intro hha hhb)
  clear hha hhb d0 d1 d2 d3
  obtain ⟨c0, c1⟩ := row_cells L4.out.p.tb
  obtain ⟨d0, d1, d2, d3⟩ := ch_facts L4.out.p.cb
  go_cut [34] from 35 to 46 (fun v wx => v = .bool (!(ha && hb)) ∧ Hid (AL w ⟨R, L, pR, cR, pL, cL⟩ c g wx))
  case first =>
    cases ha
    · go_wp2_with fail
      refine (thas_any ⟨R, L, pR, cR, pL, cL⟩ c.a _ _ L4.out.p.t (by show R.length ≤ 1000000; omega)).mono ?_
      simp only
      rw [HH.out.1]
      rintro e w5 ⟨rfl, hg⟩
      have L5 := Lib.hid (L4.out.keep hg)
      clear hg
      go_wp2_with fail
      go_meet
      exact ⟨rfl, L5⟩
    · go_wp2_with fail
      refine (thas_any ⟨R, L, pR, cR, pL, cL⟩ c.a _ _ L4.out.p.t (by show R.length ≤ 1000000; omega)).mono ?_
      simp only
      rw [HH.out.1]
      rintro e w5 ⟨rfl, hg⟩
      have L5 := Lib.hid (L4.out.keep hg)
      clear hg c0 c1 d0 d1 d2 d3
      obtain ⟨c0, c1⟩ := row_cells L5.out.p.tb
      obtain ⟨d0, d1, d2, d3⟩ := ch_facts L5.out.p.cb
      go_wp2_with fail
      refine (thas_any ⟨R, L, pR, cR, pL, cL⟩ c.b _ _ L5.out.p.t (by show R.length ≤ 1000000; omega)).mono ?_
      simp only
      rw [HH.out.2]
      rintro e w6 ⟨rfl, hg⟩
      have L6 := Lib.hid (L5.out.keep hg)
      clear hg
      go_wp2_with fail
      go_meet
      exact ⟨by first | rfl | (cases hb <;> rfl), L6⟩
  case rest =>
  obtain ⟨rfl, L6⟩ := hcut
  clear L4 c0 c1 d0 d1 d2 d3
  go_upto_if 34 with fail
  obtain ⟨hab, hhab⟩ : ∃ z, (ha && hb) = z := ⟨_, rfl⟩
  rw [hhab]
  have HAB := Lib.hid hhab
  clear hhab
  cases hab
  · obtain rfl : E = 4 := by have := HE.out; unfold errV at this; rw [HV.out, HHA.out.1, HHA.out.2, HAB.out] at this; exact this.symm
    obtain ⟨z0, z1⟩ := row_cells L6.out.p.rb
    have y0 := frozen_of_row _ _ 0 _ _ L6.out.p.rb
    have y1 := frozen_of_row _ _ 1 _ _ L6.out.p.rb
    go_wp2_with fail
    refine bodyPost_ret (res_topo_err rfl _ _ (w.heap.size + 2) _ _ rfl L6.out.p.out.1) rfl ?_
    exact L6.out.p.err
  obtain ⟨l0, l1, l2, l3, l4⟩ := lk_facts L6.out.lb
  rw [HX.out] at l0 l1 l2 l3 l4
  by_cases hab : x.a = x.b
  · have hbq : (x.a == x.b) = true := by simpa using hab
    obtain rfl : E = 8 := by
      have h8 := HE.out
      have hk := lkOf_ends c
      rw [HX.out] at hk
      unfold errV at h8
      rw [HV.out, HHA.out.1, HHA.out.2, HAB.out, if_pos (show c.a = c.b by omega)] at h8
      exact h8.symm
    obtain ⟨z0, z1⟩ := row_cells L6.out.p.rb
    have y0 := frozen_of_row _ _ 0 _ _ L6.out.p.rb
    have y1 := frozen_of_row _ _ 1 _ _ L6.out.p.rb
    clear hab
    go_wp2_with fail
    refine bodyPost_ret (res_topo_err rfl _ _ (w.heap.size + 2) _ _ rfl L6.out.p.out.1) rfl ?_
    exact L6.out.p.err
  have hbq : (x.a == x.b) = false := by simpa using hab
  have HE2 : Hid ((if !G && wrNum x then (2 : Int) else if G && !b then 9 else if !b && decide (L.length = 60) then 3 else 0) = E) := Lib.hid (by
    have h8 := HE.out
    have hk := lkOf_ends c
    rw [HX.out] at hk
    unfold errV at h8
    rw [HV.out, HHA.out.1, HHA.out.2, HAB.out, if_neg (show ¬ c.a = c.b by omega), HX.out, HF.out, HG.out] at h8
    exact h8)
  clear hab
  go_upto_region 10 with fail
  obtain ⟨wn, hwn⟩ : ∃ z, wrNum x = z := ⟨_, rfl⟩
  have HWN := Lib.hid hwn
  rw [hwn] at HE2
  clear hwn hbq l0 l1 l2 l3 l4
  obtain ⟨l0, l1, l2, l3, l4⟩ := lk_facts L6.out.lb
  rw [HX.out] at l0 l1 l2 l3 l4
  go_cut [55] from 56 to 61 (fun v wx => v = .bool (!G && wn) ∧ Hid (AL w ⟨R, L, pR, cR, pL, cL⟩ c g wx))
  case first =>
    cases G
    · go_wp2_with fail
      refine (twrnum_any x _).mono ?_
      rw [HWN.out]
      rintro e w7 ⟨rfl, hg⟩
      have L7 := Lib.hid (L6.out.keep hg)
      clear hg
      go_wp2_with fail
      go_meet
      exact ⟨by first | rfl | (cases wn <;> rfl), L7⟩
    · go_wp2_with fail
      go_meet
      exact ⟨rfl, L6⟩
  case rest =>
  obtain ⟨rfl, L7⟩ := hcut
  clear L6 l0 l1 l2 l3 l4
  go_upto_if 55 with fail
  obtain ⟨z2, hz2⟩ : ∃ z, (!G && wn) = z := ⟨_, rfl⟩
  rw [hz2] at HE2 ⊢
  clear hz2
  obtain ⟨z0, z1⟩ := row_cells L7.out.p.rb
  have y0 := frozen_of_row _ _ 0 _ _ L7.out.p.rb
  have y1 := frozen_of_row _ _ 1 _ _ L7.out.p.rb
  cases z2
  rotate_left 1
  · obtain rfl : E = 2 := HE2.out.symm
    go_wp2_with fail
    refine bodyPost_ret (res_topo_err rfl _ _ (w.heap.size + 2) _ _ rfl L7.out.p.out.1) rfl ?_
    exact L7.out.p.err
  go_upto_region 12 with fail
  go_cut [63] from 64 to 68 (fun v wx => v = .bool (G && !b) ∧ Hid (AL w ⟨R, L, pR, cR, pL, cL⟩ c g wx))
  case first =>
    cases G
    · go_wp2_with fail
      go_meet
      exact ⟨rfl, L7⟩
    · go_wp2_with fail
      go_meet
      exact ⟨by first | rfl | (cases b <;> rfl), L7⟩
  case rest =>
  obtain ⟨rfl, L8⟩ := hcut
  clear L7 z0 z1 y0 y1
  go_upto_if 63 with fail
  obtain ⟨z2, hz2⟩ : ∃ z, (G && !b) = z := ⟨_, rfl⟩
  rw [hz2] at HE2 ⊢
  have HZ9 := Lib.hid hz2
  clear hz2
  obtain ⟨z0, z1⟩ := row_cells L8.out.p.rb
  have y0 := frozen_of_row _ _ 0 _ _ L8.out.p.rb
  have y1 := frozen_of_row _ _ 1 _ _ L8.out.p.rb
  cases z2
  rotate_left 1
  · obtain rfl : E = 9 := HE2.out.symm
    go_wp2_with fail
    refine bodyPost_ret (res_topo_err rfl _ _ (w.heap.size + 2) _ _ rfl L8.out.p.out.1) rfl ?_
    exact L8.out.p.err
  obtain ⟨c0, c1⟩ := row_cells L8.out.p.tb
  go_upto_region 14 with fail
  obtain ⟨k60, hk60⟩ : ∃ z, decide (L.length = 60) = z := ⟨_, rfl⟩
  have hk60' : ((L.length : Int) == 60) = k60 := by rw [← hk60, Bool.eq_iff_iff, beq_iff_eq, decide_eq_true_eq]; omega
  rw [hk60] at HE2
  clear hk60
  go_cut [70] from 71 to 78 (fun v wx => v = .bool (!b && k60) ∧ Hid (AL w ⟨R, L, pR, cR, pL, cL⟩ c g wx))
  case first =>
    cases b
    · cases k60
      · go_wp2_with fail
        go_meet
        exact ⟨rfl, L8⟩
      · go_wp2_with fail
        go_meet
        exact ⟨rfl, L8⟩
    · go_wp2_with fail
      go_meet
      exact ⟨rfl, L8⟩
  case rest =>
  obtain ⟨rfl, L9⟩ := hcut
  clear L8 z0 z1 y0 y1 c0 c1 hk60'
  go_upto_if 70 with fail
  obtain ⟨z2, hz2⟩ : ∃ z, (!b && k60) = z := ⟨_, rfl⟩
  rw [hz2] at HE2 ⊢
  clear hz2
  obtain ⟨z0, z1⟩ := row_cells L9.out.p.rb
  have y0 := frozen_of_row _ _ 0 _ _ L9.out.p.rb
  have y1 := frozen_of_row _ _ 1 _ _ L9.out.p.rb
  cases z2
  rotate_left 1
  · obtain rfl : E = 3 := HE2.out.symm
    go_wp2_with fail
    refine bodyPost_ret (res_topo_err rfl _ _ (w.heap.size + 2) _ _ rfl L9.out.p.out.1) rfl ?_
    exact L9.out.p.err
  obtain rfl : E = 0 := HE2.out.symm
  clear z0 z1 y0 y1
  obtain ⟨c0, c1⟩ := row_cells L9.out.p.tb
  go_wp2_with fail
  refine (tcloneL_any L pL cL _ _ L9.out.p.t.l HPN.out.2 L9.out.p.t.cl (by omega)).mono ?_
  rintro e w10 ⟨vL, rfl, hown, hg⟩
  have LA := Lib.hid (And.intro (L9.out.keep hg) (And.intro hown (blk_lt L9.out.lb)))
  have hwc := L9.out.p.sz
  clear hown hg L9 c0 c1
  cases G
  rotate_left 1
  · obtain rfl : b = true := by have := HZ9.out; cases b; cases this; rfl
    exact absurd HG.out (by rw [hlim.1]; simp)
  cases b
  · rcases hlim.2 with h | h
    · rw [HX.out, HF.out] at h; cases h
    · exact absurd HE.out h
  · obtain ⟨l, hl, e1, e2⟩ := (bs_link HO.out HBS.out).1 rfl
    have HLK := Lib.hid (And.intro hl (And.intro e1 e2))
    have hil := (List.getElem?_eq_some_iff.1 hl).1
    obtain ⟨gl, cap, rfl, hgl, hcap⟩ := LA.out.2.1.form (by omega)
    have hgl2 := (LA.out.2.1.lt gl rfl).2
    have HLN : Hid (linksV L c = L.set i ⟨l.a, l.b, x.ca, x.cb, l.cp⟩) := Lib.hid (by
      unfold linksV
      rw [HG.out, HX.out, HF.out]
      exact set_links HO.out hl e1 e2)
    have i0 : (0 : Int) ≤ (i : Int) := by omega
    have i1 : (i : Int) < (L.length : Int) := by omega
    have HS : Hid (∀ u : World, Hid (w10.grownBy u (some gl)) → u.heap[g]? = some (.cells #[.int .i64 (lkOf c).a, .int .i64 (lkOf c).b, .int .i64 (lkOf c).ca, .int .i64 (lkOf c).cb, .int .i64 (lkOf c).cp] 68 (0, 0))) := Lib.hid (fun u hu => kept_row LA.out.1.lb hu.out (fun e => by
      have : g = gl := Option.some.inj e
      have h1 := LA.out.2.1.lt gl rfl
      have h3 := LA.out.2.2
      omega))
    clear hl e1 e2
    go_upto_region 21 with fail
    refine wp_region_held_drew (S := fun w' => Hid (w10.grownBy w' (some gl))) (by kernel_rfl) (Lib.hid (grown_drew (grown_refl _ _))) (fun hHeld => ?_)
    refine wpAnyH_take (i := 0) (oi := { dst := some 97, op := Op.move (Operand.tmp 10), type := 24, pos := "topology.go:113", after := #[], guard := none }) (v := ?_) rfl (by kernel_rfl) (by kernel_rfl) (by kernel_rfl) (fun _ _ _ h => h) (Or.inl ⟨by rfl, ?_⟩) hHeld ?_
    rotate_left 1
    · intro u hSu
      obtain ⟨l0, l1, l2, l3, l4⟩ := lk_facts (HS.out _ hSu)
      rw [HX.out] at l0 l1 l2 l3 l4
      go_simp
      first | done | with_reducible rfl
    (try simp only [Act.put, List.setIfInBounds_toArray, List.set_cons_zero, List.set_cons_succ])
    refine wpAnyH_take (i := 1) (oi := { dst := some 98, op := Op.move (Operand.tmp 7), type := 3, pos := "topology.go:113", after := #[], guard := none }) (v := ?_) rfl (by kernel_rfl) (by kernel_rfl) (by kernel_rfl) (fun _ _ _ h => h) (Or.inl ⟨by rfl, ?_⟩) hHeld ?_
    rotate_left 1
    · intro u hSu
      obtain ⟨l0, l1, l2, l3, l4⟩ := lk_facts (HS.out _ hSu)
      rw [HX.out] at l0 l1 l2 l3 l4
      go_simp
      first | done | with_reducible rfl
    (try simp only [Act.put, List.setIfInBounds_toArray, List.set_cons_zero, List.set_cons_succ])
    refine wpAnyH_take (i := 2) (oi := { dst := some 99, op := Op.move (Operand.tmp 10), type := 24, pos := "topology.go:113", after := #[{ on := 10, ground := Ground.gcOnly Departure.lateStores }], guard := none }) (v := ?_) rfl (by kernel_rfl) (by kernel_rfl) (by kernel_rfl) (fun _ _ _ h => h) (Or.inl ⟨by rfl, ?_⟩) hHeld ?_
    rotate_left 1
    · intro u hSu
      obtain ⟨l0, l1, l2, l3, l4⟩ := lk_facts (HS.out _ hSu)
      rw [HX.out] at l0 l1 l2 l3 l4
      go_simp
      first | done | with_reducible rfl
    (try simp only [Act.put, List.setIfInBounds_toArray, List.set_cons_zero, List.set_cons_succ])
    refine wpAnyH_take (i := 3) (oi := { dst := some 100, op := Op.move (Operand.tmp 7), type := 3, pos := "topology.go:113", after := #[{ on := 10, ground := Ground.gcOnly Departure.lateStores }], guard := none }) (v := ?_) rfl (by kernel_rfl) (by kernel_rfl) (by kernel_rfl) (fun _ _ _ h => h) (Or.inl ⟨by rfl, ?_⟩) hHeld ?_
    rotate_left 1
    · intro u hSu
      obtain ⟨l0, l1, l2, l3, l4⟩ := lk_facts (HS.out _ hSu)
      rw [HX.out] at l0 l1 l2 l3 l4
      go_simp
      first | done | with_reducible rfl
    (try simp only [Act.put, List.setIfInBounds_toArray, List.set_cons_zero, List.set_cons_succ])
    refine wpAnyH_take (i := 4) (oi := { dst := some 101, op := Op.fieldAddr 68 (Operand.tmp 6) 2, type := 0, pos := "topology.go:113", after := #[], guard := none }) (v := ?_) rfl (by kernel_rfl) (by kernel_rfl) (by kernel_rfl) (fun _ _ _ h => h) (Or.inl ⟨by rfl, ?_⟩) hHeld ?_
    rotate_left 1
    · intro u hSu
      obtain ⟨l0, l1, l2, l3, l4⟩ := lk_facts (HS.out _ hSu)
      rw [HX.out] at l0 l1 l2 l3 l4
      go_simp
      first | done | with_reducible rfl
    (try simp only [Act.put, List.setIfInBounds_toArray, List.set_cons_zero, List.set_cons_succ])
    refine wpAnyH_take (i := 5) (oi := { dst := some 102, op := Op.load 3 (Operand.tmp 101), type := 3, pos := "topology.go:113", after := #[{ on := 4, ground := Ground.data }], guard := none }) (v := ?_) rfl (by kernel_rfl) (by kernel_rfl) (by kernel_rfl) (fun _ _ _ h => h) (Or.inl ⟨by rfl, ?_⟩) hHeld ?_
    rotate_left 1
    · intro u hSu
      obtain ⟨l0, l1, l2, l3, l4⟩ := lk_facts (HS.out _ hSu)
      rw [HX.out] at l0 l1 l2 l3 l4
      go_simp
      first | done | with_reducible rfl
    (try simp only [Act.put, List.setIfInBounds_toArray, List.set_cons_zero, List.set_cons_succ])
    refine wpAnyH_take (i := 6) (oi := { dst := some 103, op := Op.fieldAddr 68 (Operand.tmp 6) 3, type := 0, pos := "topology.go:113", after := #[{ on := 10, ground := Ground.gcOnly Departure.lateStores }], guard := none }) (v := ?_) rfl (by kernel_rfl) (by kernel_rfl) (by kernel_rfl) (fun _ _ _ h => h) (Or.inl ⟨by rfl, ?_⟩) hHeld ?_
    rotate_left 1
    · intro u hSu
      obtain ⟨l0, l1, l2, l3, l4⟩ := lk_facts (HS.out _ hSu)
      rw [HX.out] at l0 l1 l2 l3 l4
      go_simp
      first | done | with_reducible rfl
    (try simp only [Act.put, List.setIfInBounds_toArray, List.set_cons_zero, List.set_cons_succ])
    refine wpAnyH_take (i := 7) (oi := { dst := some 104, op := Op.load 3 (Operand.tmp 103), type := 3, pos := "topology.go:113", after := #[{ on := 6, ground := Ground.data }, { on := 10, ground := Ground.gcOnly Departure.lateStores }], guard := none }) (v := ?_) rfl (by kernel_rfl) (by kernel_rfl) (by kernel_rfl) (fun _ _ _ h => h) (Or.inl ⟨by rfl, ?_⟩) hHeld ?_
    rotate_left 1
    · intro u hSu
      obtain ⟨l0, l1, l2, l3, l4⟩ := lk_facts (HS.out _ hSu)
      rw [HX.out] at l0 l1 l2 l3 l4
      go_simp
      first | done | with_reducible rfl
    (try simp only [Act.put, List.setIfInBounds_toArray, List.set_cons_zero, List.set_cons_succ])
    refine wpAnyH_take (i := 8) (oi := { dst := some 105, op := Op.indexAddr 24 (Operand.tmp 97) (Operand.tmp 98), type := 0, pos := "topology.go:113", after := #[{ on := 0, ground := Ground.data }, { on := 1, ground := Ground.data }, { on := 0, ground := Ground.phase }, { on := 1, ground := Ground.phase }, { on := 2, ground := Ground.textOnly Departure.lateStores }, { on := 3, ground := Ground.textOnly Departure.lateStores }, { on := 4, ground := Ground.phase }, { on := 5, ground := Ground.phase }, { on := 6, ground := Ground.textOnly Departure.lateStores }, { on := 7, ground := Ground.textOnly Departure.lateStores }], guard := none }) (v := ?_) rfl (by kernel_rfl) (by kernel_rfl) (by kernel_rfl) (fun _ _ _ h => h) (Or.inl ⟨by rfl, ?_⟩) hHeld ?_
    rotate_left 1
    · intro u hSu
      obtain ⟨l0, l1, l2, l3, l4⟩ := lk_facts (HS.out _ hSu)
      rw [HX.out] at l0 l1 l2 l3 l4
      go_simp
      first | done | with_reducible rfl
    (try simp only [Act.put, List.setIfInBounds_toArray, List.set_cons_zero, List.set_cons_succ])
    refine wpAnyH_take (i := 9) (oi := { dst := some 106, op := Op.fieldAddr 68 (Operand.tmp 105) 2, type := 0, pos := "topology.go:113", after := #[{ on := 8, ground := Ground.data }, { on := 0, ground := Ground.phase }, { on := 1, ground := Ground.phase }, { on := 2, ground := Ground.textOnly Departure.lateStores }, { on := 3, ground := Ground.textOnly Departure.lateStores }, { on := 4, ground := Ground.phase }, { on := 5, ground := Ground.phase }, { on := 6, ground := Ground.textOnly Departure.lateStores }, { on := 7, ground := Ground.textOnly Departure.lateStores }], guard := none }) (v := ?_) rfl (by kernel_rfl) (by kernel_rfl) (by kernel_rfl) (fun _ _ _ h => h) (Or.inl ⟨by rfl, ?_⟩) hHeld ?_
    rotate_left 1
    · intro u hSu
      obtain ⟨l0, l1, l2, l3, l4⟩ := lk_facts (HS.out _ hSu)
      rw [HX.out] at l0 l1 l2 l3 l4
      go_simp
      first | done | with_reducible rfl
    (try simp only [Act.put, List.setIfInBounds_toArray, List.set_cons_zero, List.set_cons_succ])
    refine wpAnyH_ready (rs := [10]) (by kernel_rfl) (by simp) ?_
    refine AllReadyH.cons (o := { dst := none, op := Op.store 3 (Operand.tmp 106) (Operand.tmp 102), type := 0, pos := "topology.go:113", after := #[{ on := 9, ground := Ground.data }, { on := 5, ground := Ground.data }, { on := 0, ground := Ground.phase }, { on := 1, ground := Ground.phase }, { on := 2, ground := Ground.textOnly Departure.lateStores }, { on := 3, ground := Ground.textOnly Departure.lateStores }, { on := 4, ground := Ground.phase }, { on := 5, ground := Ground.phase }, { on := 6, ground := Ground.textOnly Departure.lateStores }, { on := 7, ground := Ground.textOnly Departure.lateStores }], guard := none }) rfl (fun Kz hK => ?_) AllReadyH.nil
    have z2 : w10.cell? ⟨gl, i * 5 + 2, none⟩ = some (.int .i64 l.ca) := (LA.out.2.1.cellAt (i * 5 + 2) (by omega)).trans (flat_at lkC 5 (fun _ => rfl) L i 2 l HLK.out.1 (by decide))
    have y2 := LA.out.2.1.frozenAt (i * 5 + 2)
    go_simp
    refine hK.out _ _ (Lib.hid (grown_trans hHeld.out (grown_setCell _ ⟨gl, i * 5 + 2, none⟩ _))) (fun hH2 => ?_)
    clear hK Kz hHeld
    have hHeld := hH2
    clear hH2
    (try simp only [Act.put, List.setIfInBounds_toArray, List.set_cons_zero, List.set_cons_succ])
    refine wpAnyH_take (i := 11) (oi := { dst := some 107, op := Op.indexAddr 24 (Operand.tmp 99) (Operand.tmp 100), type := 0, pos := "topology.go:113", after := #[{ on := 2, ground := Ground.data }, { on := 3, ground := Ground.data }, { on := 0, ground := Ground.phase }, { on := 1, ground := Ground.phase }, { on := 2, ground := Ground.phase }, { on := 3, ground := Ground.phase }, { on := 4, ground := Ground.phase }, { on := 5, ground := Ground.phase }, { on := 6, ground := Ground.phase }, { on := 7, ground := Ground.phase }, { on := 8, ground := Ground.phase }, { on := 9, ground := Ground.phase }, { on := 10, ground := Ground.phase }], guard := none }) (v := ?_) rfl (by kernel_rfl) (by kernel_rfl) (by kernel_rfl) (fun _ _ _ h => h) (Or.inl ⟨by rfl, ?_⟩) hHeld ?_
    rotate_left 1
    · intro u hSu
      obtain ⟨l0, l1, l2, l3, l4⟩ := lk_facts (HS.out _ hSu)
      rw [HX.out] at l0 l1 l2 l3 l4
      go_simp
      first | done | with_reducible rfl
    (try simp only [Act.put, List.setIfInBounds_toArray, List.set_cons_zero, List.set_cons_succ])
    refine wpAnyH_take (i := 12) (oi := { dst := some 108, op := Op.fieldAddr 68 (Operand.tmp 107) 3, type := 0, pos := "topology.go:113", after := #[{ on := 11, ground := Ground.data }, { on := 0, ground := Ground.phase }, { on := 1, ground := Ground.phase }, { on := 2, ground := Ground.phase }, { on := 3, ground := Ground.phase }, { on := 4, ground := Ground.phase }, { on := 5, ground := Ground.phase }, { on := 6, ground := Ground.phase }, { on := 7, ground := Ground.phase }, { on := 8, ground := Ground.phase }, { on := 9, ground := Ground.phase }, { on := 10, ground := Ground.phase }], guard := none }) (v := ?_) rfl (by kernel_rfl) (by kernel_rfl) (by kernel_rfl) (fun _ _ _ h => h) (Or.inl ⟨by rfl, ?_⟩) hHeld ?_
    rotate_left 1
    · intro u hSu
      obtain ⟨l0, l1, l2, l3, l4⟩ := lk_facts (HS.out _ hSu)
      rw [HX.out] at l0 l1 l2 l3 l4
      go_simp
      first | done | with_reducible rfl
    (try simp only [Act.put, List.setIfInBounds_toArray, List.set_cons_zero, List.set_cons_succ])
    refine wpAnyH_ready (rs := [13]) (by kernel_rfl) (by simp) ?_
    refine AllReadyH.cons (o := { dst := none, op := Op.store 3 (Operand.tmp 108) (Operand.tmp 104), type := 0, pos := "topology.go:113", after := #[{ on := 12, ground := Ground.data }, { on := 7, ground := Ground.data }, { on := 10, ground := Ground.chain }, { on := 0, ground := Ground.phase }, { on := 1, ground := Ground.phase }, { on := 2, ground := Ground.phase }, { on := 3, ground := Ground.phase }, { on := 4, ground := Ground.phase }, { on := 5, ground := Ground.phase }, { on := 6, ground := Ground.phase }, { on := 7, ground := Ground.phase }, { on := 8, ground := Ground.phase }, { on := 9, ground := Ground.phase }, { on := 10, ground := Ground.phase }], guard := none }) rfl (fun Kz hK => ?_) AllReadyH.nil
    have z3 : w10.cell? ⟨gl, i * 5 + 3, none⟩ = some (.int .i64 l.cb) := (LA.out.2.1.cellAt (i * 5 + 3) (by omega)).trans (flat_at lkC 5 (fun _ => rfl) L i 3 l HLK.out.1 (by decide))
    have y3 := LA.out.2.1.frozenAt (i * 5 + 3)
    go_simp
    refine hK.out _ _ (Lib.hid (grown_trans hHeld.out (grown_setCell _ ⟨gl, i * 5 + 3, none⟩ _))) (fun hH2 => ?_)
    clear hK Kz hHeld
    have hHeld := hH2
    clear hH2
    (try simp only [Act.put, List.setIfInBounds_toArray, List.set_cons_zero, List.set_cons_succ])
    refine wpAnyH_done (by kernel_rfl) ?_ _
    have hset := own_set2 (x := x) LA.out.2.1 HLK.out.1
    have hgs : w10.grownBy ((w10.setCell ⟨gl, i * 5 + 2, none⟩ (.int .i64 x.ca)).setCell ⟨gl, i * 5 + 3, none⟩ (.int .i64 x.cb)) (some gl) := grown_trans (grown_setCell w10 ⟨gl, i * 5 + 2, none⟩ (.int .i64 x.ca)) (grown_setCell _ ⟨gl, i * 5 + 3, none⟩ (.int .i64 x.cb))
    have hg3 := LA.out.1.p.sz
    have AT : Hid (AP w ⟨R, L, pR, cR, pL, cL⟩ c ((w10.setCell ⟨gl, i * 5 + 2, none⟩ (.int .i64 x.ca)).setCell ⟨gl, i * 5 + 3, none⟩ (.int .i64 x.cb)).drew) := Lib.hid (AP.keep ⟨kept_row LA.out.1.p.tb hgs (fun e => by have := Option.some.inj e; omega), kept_row LA.out.1.p.cb hgs (fun e => by have := Option.some.inj e; omega), kept_row LA.out.1.p.rb hgs (fun e => by have := Option.some.inj e; omega), LA.out.1.p.t.grown hgs (fun b hb e => by have := Option.some.inj e; omega), grown_new LA.out.1.p.gr hgs (by omega), Nat.le_trans LA.out.1.p.sz hgs.size⟩ (grown_drew (grown_refl _ _)))
    have OL : Hid (((w10.setCell ⟨gl, i * 5 + 2, none⟩ (.int .i64 x.ca)).setCell ⟨gl, i * 5 + 3, none⟩ (.int .i64 x.cb)).drew.ownsRow wc.heap.size 68 5 (.slice (some ⟨gl, 0, none⟩) L.length cap) (L.set i ⟨l.a, l.b, x.ca, x.cb, l.cp⟩).length ((L.set i ⟨l.a, l.b, x.ca, x.cb, l.cp⟩).flatMap lkC) ∧ w.heap.size + 3 ≤ wc.heap.size) := Lib.hid ⟨hset.drew, hwc⟩
    have HNN : Hid (L.length = (L.set i ⟨l.a, l.b, x.ca, x.cb, l.cp⟩).length) := Lib.hid (by rw [List.length_set])
    have HCN : Hid (L.length ≤ cap ∧ cap ≤ 9223372036854775807) := Lib.hid (own_caps LA.out.2.1)
    clear hset hgs hg3 hHeld z2 y2 z3 y3 LA HS
    try clear l0 l1 l2 l3 l4
    generalize ((w10.setCell ⟨gl, i * 5 + 2, none⟩ (.int .i64 x.ca)).setCell ⟨gl, i * 5 + 3, none⟩ (.int .i64 x.cb)).drew = ws at *
    obtain ⟨c0, c1⟩ := row_cells AT.out.tb
    go_wp2_with fail
    refine (tcloneR_any R pR cR _ _ AT.out.t.r HPN.out.1 AT.out.t.cr (by omega)).mono ?_
    rintro e wt ⟨vR, rfl, hownR, hg⟩
    have AT2 := Lib.hid (AT.out.keep hg)
    have OL2 := Lib.hid (And.intro (OL.out.1.kept hg (.inr (fun e => by cases e))) OL.out.2)
    have hsz := AT.out.sz
    obtain ⟨pr', cr', rfl, hr1, hr2⟩ := own_shape hownR
    have HOR := Lib.hid hownR
    clear hownR hg AT OL c0 c1
    obtain ⟨z0, z1⟩ := row_cells AT2.out.rb
    have y0 := frozen_of_row _ _ 0 _ _ AT2.out.rb
    have y1 := frozen_of_row _ _ 1 _ _ AT2.out.rb
    go_wp2_with fail
    refine bodyPost_ret (res_topo_err rfl _ _ (w.heap.size + 2) _ _ rfl AT2.out.out.1) rfl ?_
    try rw [if_pos rfl, if_pos rfl]
    rw [HLN.out]
    have g9 := grown_store2 wt (w.heap.size + 2) (.slice pr' R.length cr') (.slice (some ⟨gl, 0, none⟩) L.length cap)
    have hlr : L.length = (L.set i ⟨l.a, l.b, x.ca, x.cb, l.cp⟩).length := HNN.out
    refine ⟨pr', cr', (some ⟨gl, 0, none⟩), cap, (by rw [← hlr]; rfl), ⟨?_, ?_, ⟨hr1, hr2⟩, (by rw [← hlr]; exact HCN.out)⟩, AT2.out.out.2⟩
    · exact ((rdf_of_own HOR.out).grown g9 (fun b hb e => by have h1 := Option.some.inj e; omega)).mono (fun _ _ => trivial)
    · have h2 := ((rdf_of_own OL2.out.1).grown g9 (fun b hb e => by have h1 := Option.some.inj e; have h3 := OL2.out.2; omega)).mono (q' := fun _ => True) (fun _ _ => trivial)
      obtain ⟨p9, c9, e9, hx9⟩ := h2
      injection e9 with e91 e92 e93
      subst e91
      subst e93
      exact ⟨_, _, rfl, hx9⟩
end Go.Proofs.Ytiencdgmnkphjaa

/- topology: Components, the walk. -/
namespace Go.Proofs.Ytiencdgmnkphjaa
open Go.RowKit Bs
/-- What returns lists of numbers that can be read. -/
def TCPost (Cs : List (List Int)) (w : World) (e : Ending) (w' : World) : Prop := ∃ p c vals, e = .returned (.slice p Cs.length c) ∧ Rd w' (w.heap.size ≤ ·) (.slice p Cs.length c) vals ∧ vals.length = Cs.length ∧ (Cs.length ≤ c ∧ c ≤ 9223372036854775807) ∧ (∀ (i : Nat) (C : List Int) (x : Value), Cs[i]? = some C → vals[i]? = some x → CC w' (w.heap.size ≤ ·) x C) ∧ w.grownBy w' none
set_option maxRecDepth 100000 in
theorem CM.start {w w1 wb : World} {R : List Rt} {L : List Lk} {pR pL : Option Addr} {cR cL H : Nat} (h1 : w1.heap[w.heap.size]? = some (.cells #[.slice pR R.length cR, .slice pL L.length cL] 26 (0, 0))) (hT : TgOk w1 (· < w.heap.size) ⟨R, L, pR, cR, pL, cL⟩) (hg : w.grownBy w1 none)
    (hb : wb.heap[H + 1]? = some (.cells #[.slice none 0 0] 22 (0, 0)) ∧ wb.heap[H + 2]? = some (.cells Try.zeroCells101 101 (0, 0)) ∧ wb.heap[H + 3]? = some (.cells #[.nilFunc] 102 (0, 0)) ∧ w1.grownBy wb none ∧ wb.heap.size = H + 4) (hH : w.heap.size ≤ H) :
    CM w w.heap.size H (.slice pR R.length cR) (.slice pL L.length cL) R L [] [] (.slice none 0 0) (.slice none 0 0) [] (wb.setCell ⟨H + 3, 0, none⟩ (jfn w.heap.size H)) := by
  obtain ⟨b1, b2, b3, b4, b5⟩ := hb
  have k := grown_setCell wb ⟨H + 3, 0, none⟩ (jfn w.heap.size H)
  have sb : ∀ (b c : Nat), b ≠ c → some b ≠ some c := fun b c h e => h (Option.some.inj e)
  refine ⟨kept_row (kept_row h1 b4 (by simp)) k (sb _ _ (by show w.heap.size ≠ H + 3; omega)), kept_row b1 k (sb _ _ (by show H + 1 ≠ H + 3; omega)), ?_, heap_setCell_same wb (H + 3) 0 _ _ _ b3, (hT.r.keep b4).grown k (fun b (hb : b < w.heap.size) => sb _ _ (by show b ≠ H + 3; omega)), (hT.l.keep b4).grown k (fun b (hb : b < w.heap.size) => sb _ _ (by show b ≠ H + 3; omega)), by have := k.size; omega, by decide, World.ownsRow_nil _ _ _ _, rfl, fun i C x h _ => by simp at h, grown_any (grown_trans hg b4) k (fun b hb => sb _ _ (by show b ≠ H + 3; omega)), Nat.le_refl _, hH⟩
  exact kept_row b2 k (sb _ _ (by show H + 2 ≠ H + 3; omega))
theorem CM.ret {w0 w : World} {t H : Nat} {vR vL va vc : Value} {R : List Rt} {L : List Lk} {Cs : List (List Int)} {S : List Int} {vals : List Value} (h : CM w0 t H vR vL R L Cs S va vc vals w) : TCPost Cs w0 (.returned va) w := by
  have ht0 := h.t0
  have htl := h.tle
  have hr := rd_of_own h.row
  have at2 : ∀ (i : Nat) (C : List Int) (x : Value), Cs[i]? = some C → vals[i]? = some x → CC w (w0.heap.size ≤ ·) x C := fun i C x h1 h2 => by
    obtain ⟨p, c, e, hr, hc⟩ := h.at_ i C x h1 h2
    exact ⟨p, c, e, hr.mono (fun b hb => by have := hb.1; show _ ≤ b; omega), hc⟩
  have hro := h.row
  have hl := h.len
  rw [hl] at hro
  rcases Joins.ownsRow_forms hro with ⟨e, e0⟩ | ⟨g, cap, e⟩
  · subst e
    have hn : Cs.length = 0 := by omega
    refine ⟨none, 0, vals, by rw [hn], ?_, hl, ⟨by omega, by omega⟩, at2, h.gr⟩
    have h2 := hr.mono (q' := (w0.heap.size ≤ ·)) (fun b hb => by show _ ≤ b; omega)
    rw [hn]
    exact h2
  · subst e
    have := own_cap hro
    unfold maxLen at this
    exact ⟨_, cap, vals, rfl, hr.mono (fun b hb => by show _ ≤ b; omega), hl, ⟨this.1, by omega⟩, at2, h.gr⟩
set_option maxRecDepth 100000 in
theorem info_ints2 : (Try.prog.info? 22).map (fun i => (i.zero, i.size, i.bytes)) = some (some (.slice none 0 0), 1, 24) := by kernel_rfl
set_option maxRecDepth 100000 in
set_option maxHeartbeats 6400000 in
theorem tcomps_any (T : Tg) (q : Nat → Prop) (w : World) (hT : TgOk w q T) (h12 : okT T.R T.L = true → T.R.length ≤ 12) :
    Calls Try.prog 37 #[.agg #[.slice T.pR T.R.length T.cR, .slice T.pL T.L.length T.cL]] w fun e w' => TCPost (comps T.R T.L) w e w' := by
  obtain ⟨ii, hii, hi0, hi1, hi2⟩ := info_parts info_ints2
  have e0 : EnterF (83) := enters_of Try.func83 (by kernel_rfl) rfl
  have hmf : ∀ (fn : Fn) (first cap : Array Value) (w : World), (Instr.makeFunc fn first cap).run Try.prog w = .ok (.func fn first cap) w := fun _ _ _ _ => rfl
  have hsf : ∀ (a : Addr) (fn : Fn) (first cap : Array Value) (m : Mode) (w : World), (store a (.func fn first cap) m).run Try.prog w = stored Try.prog w a (.func fn first cap) m := fun a fn first cap m w => run_store _ w a _ m rfl
  obtain ⟨R, L, pR, cR, pL, cL⟩ := T
  obtain ⟨k1, k2⟩ := tone_box w #[.slice pR R.length cR, .slice pL L.length cL] 26
  have S0 := Lib.hid (And.intro k1 (And.intro k2 (hT.old.keep k2)))
  have hmR := Nat.le_trans hT.cr.1 hT.cr.2
  have hsz0 : (w.alloc (.cells #[.slice pR R.length cR, .slice pL L.length cL] 26)).heap.size = w.heap.size + 1 := by simp
  simp only at h12 hmR ⊢
  clear hT k1 k2
  obtain ⟨Cr, hCr⟩ : ∃ Cr, comps R L = Cr := ⟨_, rfl⟩
  rw [hCr]
  have HCR := Lib.hid hCr
  clear hCr
  go_enter Try.func37, Try.ntmps37
  go_upto_region 1 with fail
  generalize w.alloc _ = wa at *
  obtain ⟨c0, c1⟩ := row_cells S0.out.1
  go_wp2_with fail
  refine (tvalid_any ⟨R, L, pR, cR, pL, cL⟩ _ wa S0.out.2.2).mono ?_
  rintro e w1 ⟨rfl, hg⟩
  simp only
  have S1 := Lib.hid (And.intro (kept_row S0.out.1 hg (by simp)) (And.intro (grown_trans S0.out.2.1 hg) (S0.out.2.2.keep hg)))
  have hsz1 : w.heap.size + 1 ≤ w1.heap.size := by have := hg.size; omega
  clear hg S0 c0 c1 hsz0
  cases hv : okT R L
  · obtain rfl : Cr = [] := by have := HCR.out; unfold comps at this; rw [hv] at this; exact this.symm
    go_wp2_with fail
    go_ret
    exact ⟨none, 0, [], rfl, ⟨none, 0, rfl, fun h => absurd rfl h⟩, rfl, ⟨Nat.le_refl _, by show 0 ≤ _; omega⟩, (fun i C x h1 _ => by simp at h1), S1.out.2.1⟩
  have HV := Lib.hid hv
  obtain ⟨h24, h60⟩ := okT_len hv
  replace h12 := h12 hv
  have HC2 : Hid ((compsF L R).1 = Cr) := Lib.hid (by have := HCR.out; unfold comps at this; rw [hv] at this; exact this)
  clear hv HCR
  go_upto_region 7 with fail
  obtain ⟨wb, hwb, b1, b2, b3, b4, b5⟩ := boxes3 w1 #[.slice none 0 0] Try.zeroCells101 #[.nilFunc] 22 101 102
  rw [← hwb]
  clear hwb
  obtain ⟨H, hH⟩ : ∃ H, w1.heap.size = H + 1 := ⟨w1.heap.size - 1, by omega⟩
  have hH2 : w1.heap.size + 1 = H + 2 := by omega
  have hH3 : w1.heap.size + 1 + 1 = H + 3 := by omega
  have hH4 : w1.heap.size + 2 = H + 3 := by omega
  rw [hH3, hH2, hH]
  rw [hH2] at b2
  rw [hH4] at b3
  rw [hH] at b1
  have HB := Lib.hid (And.intro b1 (And.intro b2 (And.intro b3 (And.intro b4 (show wb.heap.size = H + 4 by omega)))))
  have HH : w.heap.size ≤ H := by omega
  have c3 : wb.cell? ⟨H + 3, 0, none⟩ = some .nilFunc := by rw [cell_of_row _ _ _ _ _ _ b3]; rfl
  have f3 : wb.frozen? ⟨H + 3, 0, none⟩ = false := frozen_of_row _ _ _ _ _ b3
  clear b1 b2 b3 b4 b5 hH hH2 hH3 hH4 hsz1
  have M0 : Hid (CM w w.heap.size H (.slice pR R.length cR) (.slice pL L.length cL) R L (compsF L (R.take 0)).1 (compsF L (R.take 0)).2 (.slice none 0 0) (.slice none 0 0) [] (wb.setCell ⟨H + 3, 0, none⟩ (jfn w.heap.size H))) := Lib.hid (CM.start S1.out.1 S1.out.2.2 S1.out.2.1 HB.out HH)
  have F0 : Hid ((compsF L (R.take 0)).2.length + (idsN R).countP (notS (compsF L (R.take 0)).2) ≤ R.length) := Lib.hid (by
    show 0 + (idsN R).countP (notS []) ≤ _
    rw [ids_all]
    unfold idsN
    simp)
  go_upto_region 8 with fail
  clear c3 f3 HB S1
  generalize wb.setCell _ _ = w2 at *
  obtain ⟨c0, c1⟩ := row_cells M0.out.topo
  go_wp2_with fail
  go_loopw [3, 16] (fun va a wr => ∃ (k : Nat) (vals : List Value) (vc : Value), k ≤ R.length ∧ vals.length ≤ k ∧ a = .int .i64 (k : Int) ∧ Hid (CM w w.heap.size H (.slice pR R.length cR) (.slice pL L.length cL) R L (compsF L (R.take k)).1 (compsF L (R.take k)).2 va vc vals wr) ∧ Hid ((compsF L (R.take k)).2.length + (idsN R).countP (notS (compsF L (R.take k)).2) ≤ R.length)) (fun _ a _ => R.length - (intOf a).toNat)
  case atStart => exact ⟨0, [], .slice none 0 0, Nat.zero_le _, Nat.le_refl _, rfl, M0, F0⟩
  case round =>
    obtain ⟨k, vals, vc, hk, hvl, rfl, M, F⟩ := hrel
    clear M0 F0 c0 c1
    by_cases hlt : k < R.length
    · obtain ⟨hid, -⟩ := okT_ids HV.out
      obtain ⟨-, b, off, rfl, hq, hc⟩ := rdr_cells (R := R) M.out.rts (by omega)
      obtain ⟨x, hx⟩ : ∃ x, R[k]? = some x := ⟨_, List.getElem?_eq_getElem hlt⟩
      obtain ⟨n, hn, hn1, hn2⟩ := wr_at hid hx
      obtain ⟨a0, a1⟩ := hc k x hx
      have HM : Hid (n ∈ idsN R) := Lib.hid (List.mem_map.2 ⟨x, List.mem_of_getElem? hx, by rw [hn]; rfl⟩)
      have HK := Lib.hid (compsF_take (L := L) hx)
      rw [hn] at a0
      have HX := Lib.hid (And.intro hx hn)
      have gal := World.grownBy_alloc wr (.cells #[.int .i64 (n : Int), .bool x.cap] 73) none
      have M2 := Lib.hid (M.out.keep gal)
      have hbx := heap_alloc_new wr (.cells #[.int .i64 (n : Int), .bool x.cap] 73)
      have hwr := M.out.size
      clear hc hx hn hid gal M
      obtain ⟨S, hS⟩ : ∃ S, (compsF L (R.take k)).2 = S := ⟨_, rfl⟩
      obtain ⟨Cs, hCs⟩ : ∃ Cs, (compsF L (R.take k)).1 = Cs := ⟨_, rfl⟩
      rw [hS] at F M2
      rw [hCs] at M2
      have HSC := Lib.hid (And.intro hS hCs)
      clear hS hCs
      go_upto_region 11 with fail
      clear a0 a1
      generalize wr.alloc _ = wy at *
      obtain ⟨d0, d1⟩ := row_cells hbx
      have s0 := M2.out.seen.cell (sn_at (S := S) hn2)
      have n0 : (0 : Int) ≤ (n : Int) := by omega
      have n1 : (n : Int) < 100 := by omega
      cases hh : hasI S (n : Int)
      · rw [hh] at s0
        have HH2 := Lib.hid hh
        have c1 : wy.cell? ⟨H + 1, 0, none⟩ = some vc := by rw [cell_of_row _ _ _ _ _ _ M2.out.comp]; rfl
        have f1 := frozen_of_row wy (H + 1) 0 _ _ M2.out.comp
        obtain ⟨hJ0, hM3⟩ := M2.out.empty
        have J0 := Lib.hid hJ0
        have M3 := Lib.hid hM3
        have kz := grown_setCell wy ⟨H + 1, 0, none⟩ (.slice none 0 0)
        have HBX := Lib.hid (kept_row hbx kz (fun e => by have : wr.heap.size = H + 1 := Option.some.inj e; omega))
        clear hh hJ0 hM3 kz hbx M2
        go_upto_region 13 with fail
        clear c1 f1 d0 d1 s0
        generalize wy.setCell _ _ = wz at *
        obtain ⟨d0, d1⟩ := row_cells HBX.out
        have j0 : wz.cell? ⟨H + 3, 0, none⟩ = some (jfn w.heap.size H) := by rw [cell_of_row _ _ _ _ _ _ M3.out.jf]; rfl
        go_wp2_with fail
        refine (tjoin_any w.heap.size H S.length (.slice (some ⟨b, off, none⟩) R.length cR) L pL cL (okT_ends HV.out) (by omega) 100 S (.slice none 0 0) n wz J0.out (by have := J0.out.fit; omega) hn1 hn2 HH2.out).mono ?_
        rintro e w4 ⟨rfl, v4, h4, k4⟩
        obtain ⟨U, hU⟩ := dfs_drop L 99 (n : Int) S
        have hft := dfs_fit (idsN R) L R.length (okT_near HV.out) 100 n S HM.out HH2.out F.out
        obtain ⟨D, hD⟩ : ∃ D, dfs L 100 (n : Int) S = D := ⟨_, rfl⟩
        rw [show 99 + 1 = 100 from rfl, hD] at hU
        rw [hD] at h4 hft
        have hown4 := h4.own
        obtain ⟨C, hC⟩ : ∃ C, D.drop S.length = C := ⟨_, rfl⟩
        have hCl : C.length ≤ 12 := by rw [← hC, List.length_drop]; omega
        rw [hC] at hU hown4
        obtain ⟨g, cap, rfl, hg4, hg5⟩ := hown4.form (by rw [hU]; simp)
        have c4 : w4.cell? ⟨H + 1, 0, none⟩ = some (.slice (some ⟨g, 0, none⟩) C.length cap) := by rw [cell_of_row _ _ _ _ _ _ h4.comp]; rfl
        have HDC := Lib.hid (And.intro hD hC)
        have H4 := Lib.hid (And.intro hown4 (And.intro h4 (And.intro k4 hft)))
        clear hU hft hD hC hown4 h4 k4 d0 d1 j0 J0
        go_upto_region 15 with (go_at_call 84; refine (tsort_any (H + 4) g cap C.length C w4 H4.out.1 rfl hCl).mono ?_; rintro e w5 ⟨E, hE, rfl⟩; obtain ⟨hM5, hC5⟩ := M3.out.sorted H4.out.2.1 H4.out.2.2.1 hE.out; have c5 : w5.cell? ⟨H + 1, 0, none⟩ = some (.slice (some ⟨g, 0, none⟩) C.length cap) := (by rw [cell_of_row _ _ _ _ _ _ hM5.comp]; rfl); have M5 := Lib.hid (And.intro hM5 hC5); have hrow5 := hM5.row; have hsz5 := hM5.size; clear hM5 hC5 hE c4)
        go_wp2_with (at_builtin; refine wpList_append_lies _ rfl _ _ 60 rfl (H + 4) 22 ii (.slice none 0 0) 1 24 Try.underlying60 hii hi0 hi1 hi2 rfl (by decide) _ _ _ rfl (hrow5.alloc _) ⟨w5.heap.size, 0, none⟩ 1 1 [.slice (some ⟨g, 0, none⟩) C.length cap] rfl rfl ?c1 ?c2 (by decide) ?c3 ?c4 ?c5 _ rfl ?_)
        try (case c1 => exact cell_one _ _ _)
        case c2 => first | rfl | (intro u hu; simp at hu; subst hu; rfl)
        case c3 => first | omega | (unfold maxLen; omega)
        case c4 => omega
        case c5 => first | omega | (simp; omega)
        intro g6 cap6 w6 hown6 hg6 hat6 hlt6
        have M6 := Lib.hid (M5.out.1.app M5.out.2 hown6 hg6 (hat6.imp id fun e => by rw [e]; try simp))
        have HK2 : Hid (compsF L (R.take (k + 1)) = (Cs ++ [srt C], D)) := Lib.hid (by
          rw [HK.out]
          unfold cstep
          rw [HSC.out.1, HSC.out.2, HX.out.2, HH2.out, HDC.out.1, HDC.out.2]
          rfl)
        have hft := H4.out.2.2.2
        clear hown6 hg6 hat6 hlt6 M5 hrow5 hsz5 c5
        go_wp2_with fail
        refine ⟨⟨k + 1, vals ++ [.slice (some ⟨g, 0, none⟩) C.length cap], .slice (some ⟨g, 0, none⟩) C.length cap, by omega, by rw [List.length_append]; simp; omega, congrArg _ (by omega), Lib.hid ?_, Lib.hid ?_⟩, by simp only [intOf]; omega⟩
        · rw [HK2.out]
          exact M6.out
        · rw [HK2.out]
          exact hft
      · rw [hh] at s0
        have HH2 := Lib.hid hh
        have HK2 : Hid (compsF L (R.take (k + 1)) = (Cs, S)) := Lib.hid (by
          rw [HK.out]
          unfold cstep
          rw [HSC.out.1, HX.out.2, HH2.out, if_pos rfl, ← HSC.out.1, ← HSC.out.2])
        clear hh hbx
        go_wp2_with fail
        refine ⟨⟨k + 1, vals, vc, by omega, by omega, congrArg _ (by omega), Lib.hid ?_, Lib.hid ?_⟩, by simp only [intOf]; omega⟩
        · rw [HK2.out]
          exact M2.out
        · rw [HK2.out]
          exact F.out
    · obtain rfl : k = R.length := by omega
      go_wp2_with fail
      go_ret
      have hM := M.out
      rw [List.take_length, HC2.out] at hM
      exact hM.ret
end Go.Proofs.Ytiencdgmnkphjaa

/- topology: Connected. -/
namespace Go.Proofs.Ytiencdgmnkphjaa
open Go.RowKit Bs
theorem rdv_cells {w : World} {q : Nat → Prop} {p : Option Addr} {n c : Nat} {vs : List Value} (h : Rd w q (.slice p n c) vs) (hn : 0 < vs.length) :
    n = vs.length ∧ ∃ b off, p = some ⟨b, off, none⟩ ∧ q b ∧ ∀ i x, vs[i]? = some x → w.cell? ⟨b, off + i, none⟩ = some x := by
  obtain ⟨p1, c1, e1, hx⟩ := h
  injection e1 with a1 a2 a3
  subst a1
  obtain ⟨b, off, hp, hq, hc⟩ := hx (by intro e; rw [e] at hn; exact absurd hn (by decide))
  exact ⟨a2, b, off, hp, hq, hc⟩
/-- A list of lists that can be read. -/
structure CL (w : World) (q : Nat → Prop) (p : Option Addr) (c : Nat) (Cs : List (List Int)) (vals : List Value) : Prop where
  rd : Rd w q (.slice p Cs.length c) vals
  len : vals.length = Cs.length
  cap : Cs.length ≤ c ∧ c ≤ 9223372036854775807
  at_ : ∀ (i : Nat) (C : List Int) (x : Value), Cs[i]? = some C → vals[i]? = some x → CC w q x C
theorem CL.keep {w w' : World} {q : Nat → Prop} {p : Option Addr} {c : Nat} {Cs : List (List Int)} {vals : List Value} (h : CL w q p c Cs vals) (g : w.grownBy w' none) : CL w' q p c Cs vals :=
  ⟨h.rd.grown g (by simp), h.len, h.cap, fun i C x h1 h2 => by
    obtain ⟨p, c, e, hr, hc⟩ := h.at_ i C x h1 h2
    exact ⟨p, c, e, hr.grown g (by simp), hc⟩⟩
set_option maxRecDepth 100000 in
set_option maxHeartbeats 1600000 in
theorem tidxC_any (g : Nat) (lb : Array Value) (P : List Int → Bool) (eg : EnterF g) (Cs : List (List Int)) (vals : List Value) (p : Option Addr) (c : Nat) (q : Nat → Prop) (w : World) (hR : CL w q p c Cs vals)
    (hP : ∀ (C : List Int) (x : Value) (w' : World), w.grownBy w' none → CC w' q x C → Calls Try.prog g (#[x] ++ lb) w' fun e w2 => e = .returned (.bool (P C)) ∧ w'.grownBy w2 none) :
    Calls Try.prog 102 #[.slice p Cs.length c, .func (.func g) #[] lb] w fun e w' => ∃ i : Int, e = .returned (.int .i64 i) ∧ decide (0 ≤ i) = Cs.any P ∧ w.grownBy w' none := by
  have HR := Lib.hid hR
  have HP := Lib.hid hP
  have hm := Nat.le_trans hR.cap.1 hR.cap.2
  clear hR hP
  go_enter Try.func102, Try.ntmps102
  go_wp2_with fail
  go_loopw [8] (fun a wr => ∃ k : Nat, k ≤ Cs.length ∧ a = .int .i64 (k : Int) ∧ Hid (w.grownBy wr none) ∧ Hid ((Cs.take k).any P = false)) (fun a _ => Cs.length - (intOf a).toNat)
  case atStart => exact ⟨0, Nat.zero_le _, rfl, Lib.hid (grown_refl _ _), Lib.hid rfl⟩
  case round =>
    obtain ⟨k, hk, rfl, G, HN⟩ := hrel
    by_cases hlt : k < Cs.length
    · have hCL := HR.out.keep G.out
      have hvl := hCL.len
      obtain ⟨-, b, off, rfl, hq, hc⟩ := rdv_cells hCL.rd (by omega)
      obtain ⟨C, hx⟩ : ∃ x, Cs[k]? = some x := ⟨_, List.getElem?_eq_getElem hlt⟩
      obtain ⟨x, hv⟩ : ∃ x, vals[k]? = some x := ⟨_, List.getElem?_eq_getElem (by omega)⟩
      have hcc := hCL.at_ k C x hx hv
      have hcall := HP.out C x wr G.out hcc
      obtain ⟨p', c', rfl, -, -⟩ := hcc
      have a0 := hc k _ hv
      have HX := Lib.hid hx
      clear hc hx hv hCL hvl
      cases hp : P C
      · rw [hp] at hcall
        have HY := Lib.hid hp
        clear hp
        go_wp2_with (go_at_fn g; refine hcall.mono ?_; rintro e w' ⟨rfl, hg⟩; have HG := Lib.hid (grown_trans G.out hg); clear hg)
        exact ⟨⟨k + 1, by omega, congrArg _ (by omega), HG, Lib.hid (any_take HN.out HX.out HY.out)⟩, by simp only [intOf]; omega⟩
      · rw [hp] at hcall
        have HY := Lib.hid hp
        clear hp
        go_wp2_with (go_at_fn g; refine hcall.mono ?_; rintro e w' ⟨rfl, hg⟩; have HG := Lib.hid (grown_trans G.out hg); clear hg)
        go_ret
        refine ⟨_, rfl, ?_, HG.out⟩
        rw [any_at HX.out HY.out, decide_eq_true_eq]; omega
    · obtain rfl : k = Cs.length := by omega
      go_wp2_with fail
      go_ret
      refine ⟨_, rfl, ?_, G.out⟩
      rw [any_end HN.out (Nat.le_refl _)]; decide
set_option maxRecDepth 100000 in
set_option maxHeartbeats 1600000 in
theorem tcontC_any (g : Nat) (lb : Array Value) (P : List Int → Bool) (eg : EnterF g) (Cs : List (List Int)) (vals : List Value) (p : Option Addr) (c : Nat) (q : Nat → Prop) (w : World) (hR : CL w q p c Cs vals)
    (hP : ∀ (C : List Int) (x : Value) (w' : World), w.grownBy w' none → CC w' q x C → Calls Try.prog g (#[x] ++ lb) w' fun e w2 => e = .returned (.bool (P C)) ∧ w'.grownBy w2 none) :
    Calls Try.prog 86 #[.slice p Cs.length c, .func (.func g) #[] lb] w fun e w' => e = .returned (.bool (Cs.any P)) ∧ w.grownBy w' none := by
  have HR := Lib.hid hR
  have HP := Lib.hid hP
  clear hR hP
  go_enter Try.func86, Try.ntmps86
  go_wp2_with (go_at_call 102; refine (tidxC_any g lb P eg Cs vals p c q w HR.out HP.out).mono ?_; rintro e w' ⟨i, rfl, hi, hg⟩; have HI := Lib.hid (And.intro hi hg); clear hi hg)
  go_ret
  rw [← HI.out.1]
  exact ⟨rfl, HI.out.2⟩
def both (a b : Int) (C : List Int) : Bool := hasI C a && hasI C b
set_option maxRecDepth 100000 in
set_option maxHeartbeats 1600000 in
theorem tconn1_any (C : List Int) (x : Value) (a b : Int) (A B : Nat) (q : Nat → Prop) (w : World) (hA : w.cell? ⟨A, 0, none⟩ = some (.int .i64 a)) (hB : w.cell? ⟨B, 0, none⟩ = some (.int .i64 b)) (hC : CC w q x C) :
    Calls Try.prog 87 #[x, .pointer (some ⟨A, 0, none⟩), .pointer (some ⟨B, 0, none⟩)] w fun e w' => e = .returned (.bool (both a b C)) ∧ w.grownBy w' none := by
  obtain ⟨p, c, rfl, hR, hc⟩ := hC
  have HR := Lib.hid hR
  have hm := Nat.le_trans hc.1 hc.2
  clear hR hc
  go_enter Try.func87, Try.ntmps87
  cases h1 : hasI C a
  · have HB : Hid (both a b C = false) := Lib.hid (by unfold both; rw [h1]; rfl)
    go_wp2_with (go_at_call 75; refine (tcint_any C a p c _ _ HR.out hm).mono ?_; rw [h1]; rintro e w' ⟨rfl, rfl⟩)
    go_ret
    rw [HB.out]
    exact ⟨rfl, grown_refl _ _⟩
  · have HB : Hid (both a b C = hasI C b) := Lib.hid (by unfold both; rw [h1]; rfl)
    go_wp2_with (first | (go_at_call 75; refine (tcint_any C a p c _ _ HR.out hm).mono ?_; rw [h1]; rintro e w' ⟨rfl, rfl⟩) | (go_at_call 75; refine (tcint_any C b p c _ _ HR.out hm).mono ?_; rintro e w' ⟨rfl, rfl⟩))
    go_ret
    rw [HB.out]
    exact ⟨rfl, grown_refl _ _⟩
/-- Whether two routers are connected. -/
def conn (R : List Rt) (L : List Lk) (a b : Int) : Bool := (comps R L).any (both a b)
set_option maxRecDepth 100000 in
set_option maxHeartbeats 3200000 in
theorem tconn_any (T : Tg) (a b : Int) (q : Nat → Prop) (w : World) (hT : TgOk w q T) (h12 : okT T.R T.L = true → T.R.length ≤ 12) :
    Calls Try.prog 39 #[.agg #[.slice T.pR T.R.length T.cR, .slice T.pL T.L.length T.cL], .int .i64 a, .int .i64 b] w fun e w' => e = .returned (.bool (conn T.R T.L a b)) ∧ w.grownBy w' none := by
  have e0 : EnterF (87) := enters_of Try.func87 (by kernel_rfl) rfl
  have hmf : ∀ (fn : Fn) (first cap : Array Value) (w : World), (Instr.makeFunc fn first cap).run Try.prog w = .ok (.func fn first cap) w := fun _ _ _ _ => rfl
  obtain ⟨R, L, pR, cR, pL, cL⟩ := T
  obtain ⟨wb, hwb, b1, b2, b3, b4, b5⟩ := boxes3 w #[.slice pR R.length cR, .slice pL L.length cL] #[.int .i64 a] #[.int .i64 b] 26 3 3
  have HT := Lib.hid (hT.keep b4)
  have HB := Lib.hid (And.intro b2 (And.intro b3 b4))
  simp only at h12 ⊢
  clear hT b4
  go_enter Try.func39, Try.ntmps39
  go_upto_region 1 with fail
  rw [← hwb]
  obtain ⟨c0, c1⟩ := row_cells b1
  clear hwb b1 b2 b3 b5
  go_wp2_with fail
  refine (tcomps_any ⟨R, L, pR, cR, pL, cL⟩ _ wb HT.out h12).mono ?_
  rintro e w1 ⟨p, c, vals, rfl, hr, hl, hcp, hat, hg⟩
  have HC := Lib.hid (CL.mk hr hl hcp hat)
  have HG := Lib.hid hg
  clear hr hl hcp hat hg c0 c1
  go_wp2_with fail
  refine (tcontC_any (87) #[.pointer (some ⟨w.heap.size + 1, 0, none⟩), .pointer (some ⟨w.heap.size + 1 + 1, 0, none⟩)] (both a b) e0 (comps R L) vals p c _ w1 HC.out (fun C x w' hg hcc => tconn1_any C x a b (w.heap.size + 1) (w.heap.size + 1 + 1) _ w' ?_ ?_ hcc)).mono ?_
  · have := kept_row HB.out.1 (grown_trans HG.out hg) (by simp)
    rw [cell_of_row _ _ _ _ _ _ this]; rfl
  · have := kept_row HB.out.2.1 (grown_trans HG.out hg) (by simp)
    rw [show w.heap.size + 1 + 1 = w.heap.size + 2 from rfl, cell_of_row _ _ _ _ _ _ this]; rfl
  rintro e w2 ⟨rfl, hg2⟩
  have HG2 := Lib.hid hg2
  clear hg2
  go_wp2_with fail
  go_ret
  exact ⟨rfl, grown_trans HB.out.2.2 (grown_trans HG.out HG2.out)⟩
end Go.Proofs.Ytiencdgmnkphjaa

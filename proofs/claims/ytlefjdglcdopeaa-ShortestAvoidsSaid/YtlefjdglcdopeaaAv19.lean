/- Parts of the proof, packed: ToRcp, ShTrM, ShReM, ShAvM. -/
import Derived.Test.YtlefjdglcdopeaaAv18
import Derived.BigQuiet
import Derived.Test.YtlefjdglcdopeaaAv16
import Derived.Test.YtlefjdglcdopeaaAv12
import Derived.Test.YtlefjdglcdopeaaAv10
import Derived.Test.YtlefjdglcdopeaaAv6
/- The reference's Components and Connected. -/
namespace Go.Proofs.Ytlefjdglcdopeaa
open Go.RowKit Bs
set_option maxRecDepth 100000 in
theorem CC.keep {w w' : World} {q : Nat → Prop} {x : Value} {C : List Int} (h : CC w q x C) (g : w.grownBy w' none) : CC w' q x C := by
  obtain ⟨p, c, e, hr, hc⟩ := h
  exact ⟨p, c, e, hr.grown g (by simp), hc⟩
/-- Rows of lists of numbers, while they grow. -/
structure RC (w0 : World) (Bs : Nat) (Cs : List (List Int)) (va : Value) (vals : List Value) (w : World) : Prop where
  row : w.ownsRow Bs 22 1 va vals.length vals
  len : vals.length = Cs.length
  at_ : ∀ (i : Nat) (C : List Int) (x : Value), Cs[i]? = some C → vals[i]? = some x → CC w (fun b => w0.heap.size ≤ b ∧ va.ownBlock ≠ some b) x C
  gr : w0.grownBy w none
  le : w0.heap.size ≤ Bs ∧ Bs ≤ w.heap.size
set_option maxRecDepth 100000 in
theorem RC.nil {w0 w : World} {Bs : Nat} (g : w0.grownBy w none) (h : w0.heap.size ≤ Bs) (h2 : Bs ≤ w.heap.size) : RC w0 Bs [] (.slice none 0 0) [] w :=
  ⟨World.ownsRow_nil _ _ _ _, rfl, fun i C x h _ => by simp at h, g, h, h2⟩
set_option maxRecDepth 100000 in
theorem RC.keep {w0 w w' : World} {Bs : Nat} {Cs : List (List Int)} {va : Value} {vals : List Value} (h : RC w0 Bs Cs va vals w) (g : w.grownBy w' none) : RC w0 Bs Cs va vals w' :=
  ⟨h.row.kept g (by cases hv : va.ownBlock <;> simp), h.len, fun i C x h1 h2 => by
    obtain ⟨p, c, e, hr, hc⟩ := h.at_ i C x h1 h2
    exact ⟨p, c, e, hr.grown g (by simp), hc⟩, grown_trans h.gr g, h.le.1, Nat.le_trans h.le.2 g.size⟩
set_option maxRecDepth 100000 in
theorem RC.app {w0 w w1 : World} {Bs : Nat} {va v' : Value} {Cs : List (List Int)} {C : List Int} {vals : List Value} {o : Obj} {g n cap : Nat} (h : RC w0 Bs Cs va vals w) (hv : CC w (fun b => w0.heap.size ≤ b ∧ va.ownBlock ≠ some b) v' C)
    (hown : w1.ownsRow Bs 22 1 (.slice (some ⟨g, 0, none⟩) n cap) (vals.length + 1) (vals ++ [v'])) (hg : (w.alloc o).grownBy w1 va.ownBlock) (hat : va.ownBlock = some g ∨ g = (w.alloc o).heap.size) :
    RC w0 Bs (Cs ++ [C]) (.slice (some ⟨g, 0, none⟩) n cap) (vals ++ [v']) w1 := by
  have k0 := World.grownBy_alloc w o none
  have hle := h.le
  have hne : ∀ b, b < Bs → some b ≠ va.ownBlock := fun b hb e => by
    have := (h.row.lt b e.symm).1
    omega
  have hk := h.keep k0
  have hsz : (w.alloc o).heap.size = w.heap.size + 1 := by simp
  have rd : ∀ (x : Value) (D : List Int), CC w (fun b => w0.heap.size ≤ b ∧ va.ownBlock ≠ some b) x D → CC w1 (fun b => w0.heap.size ≤ b ∧ (Value.slice (some ⟨g, 0, none⟩) n cap).ownBlock ≠ some b) x D := by
    rintro x D ⟨p, c, e, hr, hc⟩
    refine ⟨p, c, e, ?_, hc⟩
    refine Rd.mono ((hr.lt.grown k0 (by simp)).grown hg (fun b hb e => hb.1.2 e.symm)) (fun b hb => ⟨hb.1.1, fun e => ?_⟩)
    have eg : g = b := Option.some.inj e
    subst eg
    rcases hat with e2 | e2
    · exact hb.1.2 e2
    · have := hb.2
      omega
  refine ⟨?_, ?_, ?_, grown_any hk.gr hg (fun b hb => hne b (by omega)), hle.1, Nat.le_trans hk.le.2 hg.size⟩
  · rw [List.length_append]
    exact hown
  · rw [List.length_append, List.length_append, h.len]
    rfl
  · intro i D x h1 h2
    have hl := h.len
    by_cases hi : i < Cs.length
    · rw [List.getElem?_append_left hi] at h1
      rw [List.getElem?_append_left (by omega)] at h2
      exact rd x D (h.at_ i D x h1 h2)
    · rw [List.getElem?_append_right (by omega)] at h1 h2
      rw [hl] at h2
      by_cases hi2 : i - Cs.length = 0
      · rw [hi2] at h1 h2
        obtain rfl : C = D := by simpa using h1
        obtain rfl : v' = x := by simpa using h2
        exact rd _ _ hv
      · rw [List.getElem?_eq_none (by simp; omega)] at h1
        cases h1
set_option maxRecDepth 100000 in
theorem RC.ret {w0 w : World} {Bs : Nat} {va : Value} {Cs : List (List Int)} {vals : List Value} (h : RC w0 Bs Cs va vals w) : TCPost Cs w0 (.returned va) w := by
  have hle := h.le
  have hr := rd_of_own h.row
  have at2 : ∀ (i : Nat) (C : List Int) (x : Value), Cs[i]? = some C → vals[i]? = some x → CC w (w0.heap.size ≤ ·) x C := fun i C x h1 h2 => by
    obtain ⟨p, c, e, hr, hc⟩ := h.at_ i C x h1 h2
    exact ⟨p, c, e, hr.mono (fun b hb => hb.1), hc⟩
  have hro := h.row
  have hl := h.len
  rw [hl] at hro
  rcases Joins.ownsRow_forms hro with ⟨e, e0⟩ | ⟨g, cap, e⟩
  · subst e
    have hn : Cs.length = 0 := by omega
    refine ⟨none, 0, vals, by rw [hn], ?_, hl, ⟨by omega, by omega⟩, at2, h.gr⟩
    have h2 := hr.mono (q' := (w0.heap.size ≤ ·)) (fun b hb => by show _ ≤ b; omega)
    rw [hn]
    exact h2
  · subst e
    have := own_cap hro
    unfold maxLen at this
    exact ⟨_, cap, vals, rfl, hr.mono (fun b hb => by show _ ≤ b; omega), hl, ⟨this.1, by omega⟩, at2, h.gr⟩
set_option maxRecDepth 100000 in
theorem rcomps_take {R : List Rt} {L : List Lk} {k : Nat} {m : Rt} (h : R[k]? = some m) : rcomps (R.take (k + 1)) L = rcomps (R.take k) L ++ (if (cls L m.id).head? = some m.id then [cls L m.id] else []) := by
  unfold rcomps
  rw [List.take_add_one, h, List.filter_append, List.map_append]
  congr 1
  by_cases e : (cls L m.id).head? = some m.id <;> simp [e]
set_option maxRecDepth 100000 in
theorem rcomps_len (R : List Rt) (L : List Lk) : (rcomps R L).length ≤ R.length := by
  unfold rcomps
  rw [List.length_map]
  exact List.length_filter_le _ _
set_option maxRecDepth 100000 in
theorem conn_ref (R : List Rt) (L : List Lk) (a b : Int) : conn R L a b = (hasV R L a && (hasV R L b && hasI (cls L a) b)) := by
  cases hv : okT R L
  · unfold conn comps hasV
    rw [hv]
    rfl
  · rw [Bool.eq_iff_iff, conn_iff hv]
    unfold hasV
    rw [hv]
    simp only [Bool.true_and, Bool.and_eq_true]
    have hR : ∀ x, hasR R x = true ↔ ∃ r ∈ R, r.id = x := fun x => by
      unfold hasR
      rw [List.any_eq_true]
      simp
    rw [hR, hR, hasI_mem]
    constructor
    · rintro ⟨⟨r, hr, rfl⟩, h⟩
      obtain ⟨n, en, hn⟩ := rt_nat hv hr
      obtain ⟨-, e2⟩ := cls_spec (okT_near100 hv) hn
      rw [← en] at e2
      exact ⟨⟨r, hr, rfl⟩, reach_id hv ⟨r, hr, rfl⟩ h, (e2 b).2 h⟩
    · rintro ⟨⟨r, hr, rfl⟩, -, h⟩
      obtain ⟨n, en, hn⟩ := rt_nat hv hr
      obtain ⟨-, e2⟩ := cls_spec (okT_near100 hv) hn
      rw [← en] at e2
      exact ⟨⟨r, hr, rfl⟩, (e2 b).1 h⟩
set_option maxRecDepth 100000 in
set_option maxHeartbeats 3200000 in
theorem rconn_any (T : Tg) (a b : Int) (q : Nat → Prop) (w : World) (hT : TgOk w q T) :
    Calls Try.prog 31 #[.agg #[.slice T.pR T.R.length T.cR, .slice T.pL T.L.length T.cL], .int .i64 a, .int .i64 b] w fun e w' => e = .returned (.bool (conn T.R T.L a b)) ∧ w.grownBy w' none := by
  obtain ⟨R, L, pR, cR, pL, cL⟩ := T
  simp only
  obtain ⟨k1, k2⟩ := tone_box w #[.slice pR R.length cR, .slice pL L.length cL] 28
  have HB := Lib.hid (And.intro k1 (And.intro k2 (hT.keep k2)))
  clear k1 k2 hT
  obtain ⟨z, hz⟩ : ∃ z, conn R L a b = z := ⟨_, rfl⟩
  rw [hz]
  have HZ : Hid ((hasV R L a && (hasV R L b && hasI (cls L a) b)) = z) := Lib.hid (by rw [← conn_ref]; exact hz)
  clear hz
  go_enter Try.func31, Try.ntmps31
  go_upto_region 1 with fail
  generalize w.alloc _ = wa at *
  have G0 := Lib.hid (grown_refl wa none)
  obtain ⟨c0, c1⟩ := row_cells HB.out.1
  cases ha : hasV R L a
  · have HA := Lib.hid ha
    obtain rfl : z = false := by have := HZ.out; rw [ha] at this; exact this.symm
    clear ha
    go_wp2_with fail
    refine (rhasV_any ⟨R, L, pR, cR, pL, cL⟩ a _ _ (HB.out.2.2.keep G0.out)).mono ?_
    simp only
    rw [HA.out]
    rintro e w1 ⟨rfl, hg⟩
    have G1 := Lib.hid (grown_trans G0.out hg)
    clear hg c0 c1
    obtain ⟨c0, c1⟩ := row_cells (kept_row HB.out.1 G1.out (by simp))
    have HG := Lib.hid (grown_trans HB.out.2.1 G1.out)
    go_wp2_with fail
    go_ret
    exact ⟨rfl, HG.out⟩
  cases hb : hasV R L b
  · have HA := Lib.hid ha
    have HE := Lib.hid hb
    obtain rfl : z = false := by have := HZ.out; rw [ha, hb] at this; exact this.symm
    clear ha hb
    go_wp2_with fail
    refine (rhasV_any ⟨R, L, pR, cR, pL, cL⟩ a _ _ (HB.out.2.2.keep G0.out)).mono ?_
    simp only
    rw [HA.out]
    rintro e w1 ⟨rfl, hg⟩
    have G1 := Lib.hid (grown_trans G0.out hg)
    clear hg c0 c1
    obtain ⟨c0, c1⟩ := row_cells (kept_row HB.out.1 G1.out (by simp))
    go_wp2_with fail
    refine (rhasV_any ⟨R, L, pR, cR, pL, cL⟩ b _ _ (HB.out.2.2.keep G1.out)).mono ?_
    simp only
    rw [HE.out]
    rintro e w2 ⟨rfl, hg⟩
    have G2 := Lib.hid (grown_trans G1.out hg)
    clear hg c0 c1
    obtain ⟨c0, c1⟩ := row_cells (kept_row HB.out.1 G2.out (by simp))
    have HG := Lib.hid (grown_trans HB.out.2.1 G2.out)
    go_wp2_with fail
    go_ret
    exact ⟨rfl, HG.out⟩
  · have HA := Lib.hid ha
    have HE := Lib.hid hb
    have HZ2 : Hid (hasI (cls L a) b = z) := Lib.hid (by have := HZ.out; rw [ha, hb] at this; exact this)
    have hv : okT R L = true := by unfold hasV at ha; rw [Bool.and_eq_true] at ha; exact ha.1
    have hra : ∃ x ∈ R, x.id = a := by
      unfold hasV at ha
      rw [Bool.and_eq_true] at ha
      obtain ⟨x, hx, e⟩ := List.any_eq_true.1 ha.2
      exact ⟨x, hx, of_decide_eq_true e⟩
    have HV := Lib.hid (And.intro hv hra)
    clear ha hb hv hra
    go_wp2_with fail
    refine (rhasV_any ⟨R, L, pR, cR, pL, cL⟩ a _ _ (HB.out.2.2.keep G0.out)).mono ?_
    simp only
    rw [HA.out]
    rintro e w1 ⟨rfl, hg⟩
    have G1 := Lib.hid (grown_trans G0.out hg)
    clear hg c0 c1
    obtain ⟨c0, c1⟩ := row_cells (kept_row HB.out.1 G1.out (by simp))
    go_wp2_with fail
    refine (rhasV_any ⟨R, L, pR, cR, pL, cL⟩ b _ _ (HB.out.2.2.keep G1.out)).mono ?_
    simp only
    rw [HE.out]
    rintro e w2 ⟨rfl, hg⟩
    have G2 := Lib.hid (grown_trans G1.out hg)
    clear hg c0 c1
    obtain ⟨c0, c1⟩ := row_cells (kept_row HB.out.1 G2.out (by simp))
    go_wp2_with fail
    refine (rarnd_any ⟨R, L, pR, cR, pL, cL⟩ a _ _ (HB.out.2.2.keep G2.out) HV.out.1 HV.out.2).mono ?_
    rintro e w5 ⟨pn, cn, rfl, hRN0, hcn0, -, hg⟩
    simp only at hRN0 hcn0 ⊢
    have HRN := Lib.hid (And.intro hRN0 hcn0)
    have hcm := Nat.le_trans hcn0.1 hcn0.2
    have G3 := Lib.hid (grown_trans G2.out hg)
    obtain ⟨C, hC⟩ : ∃ C, cls L a = C := ⟨_, rfl⟩
    rw [hC] at HRN HZ2 hcm ⊢
    clear hRN0 hcn0 hg hC c0 c1
    go_wp2_with fail
    refine (rhas4_any C b pn cn _ _ HRN.out.1 hcm).mono ?_
    rw [HZ2.out]
    rintro e w6 ⟨rfl, rfl⟩
    have HG := Lib.hid (grown_trans HB.out.2.1 G3.out)
    go_wp2_with fail
    go_ret
    exact ⟨rfl, HG.out⟩
end Go.Proofs.Ytlefjdglcdopeaa

/- The law ShortestTriangles: its mathematics; the tape's Any. -/
namespace Go.Proofs.Ytlefjdglcdopeaa
open Go.RowKit Go.Maps Bs
set_option maxRecDepth 100000 in
theorem rch_wk {L : List Lk} {x y : Int} : Rch L x y ↔ ∃ n, Wk L x y n := by
  constructor
  · intro h
    refine h (fun v => ∃ n, Wk L x v n) ⟨0, Wk.nil L x⟩ (fun u v ⟨n, hn⟩ hv => ?_)
    rw [← nbD_fst] at hv
    obtain ⟨⟨v', c⟩, hm, rfl⟩ := List.mem_map.1 hv
    exact ⟨n + c, hn.step (nbD_mem.1 hm)⟩
  · rintro ⟨n, hn⟩ P h0 hs
    exact Wk.ind (Q := fun v _ => P v) h0 (fun u m v c _ hu he => hs u v hu (by
      rw [← nbD_fst]
      exact List.mem_map.2 ⟨(v, c), nbD_mem.2 he, rfl⟩)) hn
set_option maxRecDepth 100000 in
theorem conn_dst {R : List Rt} {L : List Lk} {a b : Int} (h : hasV R L a = true) : (dst R L a b).isSome = conn R L a b := by
  obtain ⟨hok, ha⟩ := hasV_iff.1 h
  rw [Bool.eq_iff_iff, conn_iff hok]
  constructor
  · intro hs
    obtain ⟨d, hd⟩ := Option.isSome_iff_exists.1 hs
    exact ⟨List.mem_map.1 ha, rch_wk.2 ⟨d, (dst_some.1 hd).2.1⟩⟩
  · rintro ⟨-, hr⟩
    obtain ⟨n, hn⟩ := rch_wk.1 hr
    obtain ⟨d, hd, -⟩ := exists_D (okT_g hok).pos _ n (Nat.le_refl _) hn
    rw [dst_some.2 ⟨h, hd⟩]
    rfl
set_option maxRecDepth 100000 in
theorem dst_pos {R : List Rt} {L : List Lk} {a b d : Int} (h : dst R L a b = some d) (hab : a ≠ b) : 1 ≤ d := by
  obtain ⟨h1, h2⟩ := dst_some.1 h
  have hp := (okT_g (hasV_iff.1 h1).1).pos
  rcases h2.pred with ⟨e, -⟩ | ⟨u, x, c, hu, he, rfl⟩
  · exact absurd e.symm hab
  · have := hp.edg he
    have := hu.1.ge hp
    omega
set_option maxRecDepth 100000 in
theorem dst_edge {R : List Rt} {L : List Lk} {a b c : Int} (h : hasV R L a = true) (he : edg L a b c) : ∃ d, dst R L a b = some d ∧ d ≤ c := by
  have hp := (okT_g (hasV_iff.1 h).1).pos
  have hw := (Wk.nil L a).step he
  obtain ⟨d, hd, hle⟩ := exists_D hp _ _ (Nat.le_refl _) hw
  exact ⟨d, dst_some.2 ⟨h, hd⟩, by omega⟩
set_option maxRecDepth 100000 in
theorem Wk.trans {L : List Lk} {a b c m n : Int} (h : Wk L a b m) (k : Wk L b c n) : Wk L a c (m + n) :=
  Wk.ind (Q := fun x n => Wk L a x (m + n)) (by rw [Int.add_zero]; exact h) (fun u x v d _ hq he => by rw [← Int.add_assoc]; exact hq.step he) k
set_option maxRecDepth 100000 in
theorem dst_tri {R : List Rt} {L : List Lk} {a b c x y : Int} (h : dst R L a b = some x) (k : dst R L b c = some y) : ∃ d, dst R L a c = some d ∧ d ≤ x + y := by
  obtain ⟨h1, h2⟩ := dst_some.1 h
  obtain ⟨-, k2⟩ := dst_some.1 k
  have hp := (okT_g (hasV_iff.1 h1).1).pos
  obtain ⟨d, hd, hle⟩ := exists_D hp _ _ (Nat.le_refl _) (h2.1.trans k2.1)
  exact ⟨d, dst_some.2 ⟨h1, hd⟩, hle⟩
set_option maxRecDepth 100000 in
set_option maxHeartbeats 3200000 in
theorem sany_any (T : Tg) (q : Nat → Prop) (w : World) (hT : TgOk w q T) (h1 : T.R.length ≤ 1000) :
    Calls Try.prog 29 #[.agg #[.slice T.pR T.R.length T.cR, .slice T.pL T.L.length T.cL]] w fun e w' => TRet (ids T.R) w e w' := by
  obtain ⟨i0, hi, hz0, hz1, hz2⟩ := info_parts info_int
  obtain ⟨R, L, pR, cR, pL, cL⟩ := T
  simp only at h1 ⊢
  obtain ⟨k1, k2⟩ := tone_box w #[.slice pR R.length cR, .slice pL L.length cL] 28
  have HB := Lib.hid (And.intro k1 (And.intro k2 (hT.keep k2)))
  have hm1 := Nat.le_trans hT.cr.1 hT.cr.2
  simp only at hm1
  obtain ⟨X, hX⟩ : ∃ X, ids R = X := ⟨_, rfl⟩
  have HX := Lib.hid hX
  have hXl : X.length = R.length := by rw [← hX]; unfold ids; rw [List.length_map]
  have HXL := Lib.hid hXl
  rw [hX]
  clear k1 k2 hT hX hXl
  go_enter Try.func29, Try.ntmps29
  go_upto_block 0 with fail
  generalize w.alloc _ = w7 at *
  have N0 : Hid (NK w7 (.slice none 0 0) (X.take 0) w7) := Lib.hid ⟨World.ownsRow_nil _ _ _ _, grown_refl _ _⟩
  go_wp2_with fail
  go_loopw [3, 4] (fun vo a wr => ∃ (k : Nat) (va : Value), va = vo ∧ k ≤ R.length ∧ a = .int .i64 (k : Int) ∧ Hid (NK w7 va (X.take k) wr)) (fun _ a _ => R.length - (RowKit.intOf a).toNat)
  case atStart => exact ⟨0, _, rfl, Nat.zero_le _, rfl, N0⟩
  case round =>
    obtain ⟨k, va, rfl, hk, rfl, NN⟩ := hrel
    clear N0
    obtain ⟨c0, c1⟩ := row_cells (kept_row HB.out.1 NN.out.gr (by simp))
    by_cases hlt : k < R.length
    · obtain ⟨-, b, off, rfl, -, hc⟩ := rdr_cells (R := R) (HB.out.2.2.keep NN.out.gr).r (by omega)
      obtain ⟨m, hm⟩ : ∃ m, R[k]? = some m := ⟨_, List.getElem?_eq_getElem hlt⟩
      obtain ⟨d0, d1⟩ := hc k m hm
      have hsn : X.take (k + 1) = X.take k ++ [m.id] := by
        rw [List.take_add_one, ← HX.out]
        unfold ids
        rw [List.getElem?_map, hm]
        rfl
      have HSN := Lib.hid hsn
      have hown := NN.out.own
      have hsz := NN.out.gr.size
      obtain ⟨A, hA⟩ : ∃ A, X.take k = A := ⟨_, rfl⟩
      have hAl : A.length ≤ 1000 := by rw [← hA, List.length_take]; omega
      rw [hA] at NN HSN hown
      clear hc hm hsn hA
      go_wp2_with (at_builtin; refine hold_on ?_)
      refine Lib.hid ?_
      refine wpList_append_lies _ rfl _ _ 22 rfl w7.heap.size 3 i0 (.int .i64 0) 1 8 Try.underlying22 hi hz0 hz1 hz2 rfl (by decide) _ _ _ rfl (hown.alloc _) ⟨wr.heap.size, 0, none⟩ 1 1 [.int .i64 m.id] rfl rfl ?c1 ?c2 (by decide) ?c3 ?c4 ?c5 _ rfl ?_
      try (case c1 => exact cell_one _ _ _)
      case c2 => (intro u hu; simp at hu; rcases hu with rfl; rfl)
      case c3 => first | omega | (unfold maxLen; omega)
      case c4 => omega
      case c5 => first | omega | (simp; omega)
      intro gq capq w8 hown8 hg8 hat8 hlt8
      obtain ⟨vq, hvq⟩ : ∃ vq, Value.slice (some ⟨gq, 0, none⟩) (A.length + 1) capq = vq := ⟨_, rfl⟩
      rw [hvq] at hown8 ⊢
      obtain ⟨n1, -⟩ := NN.out.more (x := m.id) (grown_refl _ _) hown8 hg8
      have N1 : Hid (NK w7 vq (X.take (k + 1)) w8) := Lib.hid (by rw [HSN.out]; exact n1)
      clear hvq hat8 hlt8 hg8 hown n1 hown8
      go_wp2_with fail
      exact ⟨⟨k + 1, _, rfl, by omega, congrArg _ (by omega), N1⟩, by simp only [RowKit.intOf]; omega⟩
    · obtain rfl : k = R.length := by omega
      have hN := NN.out
      rw [List.take_of_length_le (by rw [HXL.out]; exact Nat.le_refl _)] at hN
      have H9 := Lib.hid (hN.base HB.out.2.1).ret
      clear hN NN
      go_wp2_with fail
      go_ret
      obtain ⟨p, c, rfl, h3⟩ := H9.out
      exact ⟨p, c, rfl, h3⟩
end Go.Proofs.Ytlefjdglcdopeaa

/- The reference's tables of costs and of numbers: the mathematics. -/
namespace Go.Proofs.Ytlefjdglcdopeaa
open Go.RowKit Bs
/-- The reference's costs to z after k rounds. -/
def toK (L : List Lk) (z : Int) (k : Nat) : Int → Int := passes (flipL L) k (startF z)
/-- After k rounds and j links. -/
def toJ (L : List Lk) (z : Int) (k j : Nat) : Int → Int := ((flipL L).take j).foldl rlx (toK L z k)
set_option maxRecDepth 100000 in
theorem toJ_zero (L : List Lk) (z : Int) (k : Nat) : toJ L z k 0 = toK L z k := rfl
set_option maxRecDepth 100000 in
theorem toJ_end (L : List Lk) (z : Int) (k : Nat) : toJ L z k L.length = toK L z (k + 1) := by
  unfold toJ
  rw [List.take_of_length_le (by unfold flipL; rw [List.length_map]; exact Nat.le_refl _)]
  rfl
set_option maxRecDepth 100000 in
theorem toJ_step {L : List Lk} {z : Int} {k j : Nat} {l : Lk} (h : L[j]? = some l) : toJ L z k (j + 1) = rlx1 (rlx1 (toJ L z k j) l.b l.a l.ca) l.a l.b l.cb := by
  unfold toJ
  have h1 : (flipL L)[j]? = some ⟨l.a, l.b, l.cb, l.ca, l.cp⟩ := by
    unfold flipL
    rw [List.getElem?_map, h]
    rfl
  rw [List.take_add_one, h1, List.foldl_append]
  rfl
set_option maxRecDepth 100000 in
theorem snd_toJ (L : List Lk) (z : Int) (k j : Nat) : Snd (flipL L) z (toJ L z k j) :=
  (fold_rlx ((flipL L).take j) (toK L z k) (fun _ h => List.mem_of_mem_take h) (snd_passes (flipL L) z k)).1
set_option maxRecDepth 100000 in
theorem Snd.bd {L : List Lk} (hp : Pos L) {z : Int} {D : Int → Int} (h : Snd L z D) (v : Int) : 0 ≤ D v ∧ D v ≤ farN := by
  rcases h v with h1 | h1
  · rw [h1]; decide
  · exact ⟨h1.2.ge hp, by omega⟩
set_option maxRecDepth 100000 in
theorem toJ_bd {R : List Rt} {L : List Lk} (h : okT R L = true) (z : Int) (k j : Nat) (v : Int) : 0 ≤ toJ L z k j v ∧ toJ L z k j v ≤ farN := (snd_toJ L z k j).bd (okT_g h).pos.flip v
/-- A row of numbers, one for each of V. -/
def clV (V : List Int) (D : Int → Int) : List Value := V.map fun v => tv (D v)
set_option maxRecDepth 100000 in
theorem clV_at {V : List Int} {D : Int → Int} {i : Nat} {v : Int} (h : V[i]? = some v) : (clV V D)[i]? = some (tv (D v)) := by
  unfold clV
  rw [List.getElem?_map, h]
  rfl
set_option maxRecDepth 100000 in
theorem clV_len (V : List Int) (D : Int → Int) : (clV V D).length = V.length := by unfold clV; rw [List.length_map]
set_option maxRecDepth 100000 in
theorem nodup_idx : ∀ (V : List Int), V.Nodup → ∀ (i j : Nat) (hi : i < V.length) (hj : j < V.length), V[i] = V[j] → i = j
  | [], _, _, _, hi, _, _ => absurd hi (Nat.not_lt_zero _)
  | a :: t, hn, i, j, hi, hj, e => by
    obtain ⟨h1, h2⟩ := List.nodup_cons.1 hn
    cases i with
    | zero =>
      cases j with
      | zero => rfl
      | succ j =>
        rw [List.getElem_cons_zero, List.getElem_cons_succ] at e
        exact absurd (by rw [e]; exact List.getElem_mem _) h1
    | succ i =>
      cases j with
      | zero =>
        rw [List.getElem_cons_zero, List.getElem_cons_succ] at e
        exact absurd (by rw [← e]; exact List.getElem_mem _) h1
      | succ j =>
        rw [List.getElem_cons_succ, List.getElem_cons_succ] at e
        rw [nodup_idx t h2 i j (by simpa using hi) (by simpa using hj) e]
set_option maxRecDepth 100000 in
theorem nodup_at {V : List Int} (hn : V.Nodup) {i j : Nat} {v : Int} (hi : V[i]? = some v) (hj : V[j]? = some v) : i = j := by
  obtain ⟨h1, e1⟩ := List.getElem?_eq_some_iff.1 hi
  obtain ⟨h2, e2⟩ := List.getElem?_eq_some_iff.1 hj
  exact nodup_idx V hn i j h1 h2 (e1.trans e2.symm)
set_option maxRecDepth 100000 in
theorem clV_set {V : List Int} (hn : V.Nodup) {i : Nat} {v : Int} (h : V[i]? = some v) (D : Int → Int) (x : Int) : (clV V D).set i (tv x) = clV V (updF D v x) := by
  apply List.ext_getElem?
  intro j
  rw [List.getElem?_set]
  by_cases hij : i = j
  · subst hij
    rw [if_pos rfl, clV_at h]
    have h1 : i < (clV V D).length := by rw [clV_len]; exact (List.getElem?_eq_some_iff.1 h).1
    rw [if_pos h1]
    unfold updF
    rw [if_pos rfl]
  · rw [if_neg hij]
    unfold clV
    rw [List.getElem?_map, List.getElem?_map]
    cases hj : V[j]? with
    | none => rfl
    | some u =>
      have hne : u ≠ v := fun e => hij (nodup_at hn h (by rw [hj, e]))
      show some (tv (D u)) = some (tv (updF D v x u))
      rw [show updF D v x u = D u by unfold updF; rw [if_neg hne]]
set_option maxRecDepth 100000 in
theorem updF_self (D : Int → Int) (v : Int) : updF D v (D v) = D := by
  funext u
  unfold updF
  by_cases h : u = v
  · rw [if_pos h, h]
  · rw [if_neg h]
/-- What At gives. -/
def atV (R : List Rt) (D : Int → Int) (r : Int) : Int := if r ∈ ids R then D r else farN
set_option maxRecDepth 100000 in
theorem at_dst {R : List Rt} {L : List Lk} {z : Int} (hz : hasV R L z = true) (r : Int) : atV R (toK L z R.length) r = (dst R L r z).getD farN := by
  obtain ⟨hok, hzi⟩ := hasV_iff.1 hz
  have hg := okT_g hok
  have hlen : (ids R).length = R.length := by unfold ids; rw [List.length_map]
  have key := passes_D hg.pos.flip hg.ends.flip (C := 1000) (fun m hm => by
    obtain ⟨l, hl, rfl⟩ := List.mem_map.1 hm
    exact ⟨(hg.le l hl).2, (hg.le l hl).1⟩) (by decide) (by have := hg.len.1; unfold farN; omega) (s := z)
  rw [hlen] at key
  unfold atV
  by_cases hr : r ∈ ids R
  · rw [if_pos hr]
    cases hd : dst R L r z with
    | some d =>
      exact ((key r d).2 (IsD.flip.2 (dst_some.1 hd).2)).1
    | none =>
      rcases snd_passes (flipL L) z R.length r with h1 | h1
      · exact h1
      · have h2 := (key r _).1 ⟨rfl, h1.1⟩
        rw [dst_some.2 ⟨hasV_iff.2 ⟨hok, hr⟩, IsD.flip.1 h2⟩] at hd
        cases hd
  · rw [if_neg hr]
    cases hd : dst R L r z with
    | some d => exact absurd (dst_both hd).2.1 hr
    | none => rfl
/-- Does the way over u cost x? -/
def okS (R : List Rt) (L : List Lk) (D : Int → Int) (x r u : Int) : Bool := decide (atV R D u < farN) && decide ((priceV L r u).1 + atV R D u = x)
/-- The reference's Steps. -/
def stV (R : List Rt) (L : List Lk) (D : Int → Int) (r : Int) : List Int := if atV R D r = farN ∨ atV R D r = 0 then [] else (nearR R L r).filter (okS R L D (atV R D r) r)
set_option maxRecDepth 100000 in
theorem filter_fst {P : Int × Int → Bool} {Q : Int → Bool} : ∀ (M : List (Int × Int)), (∀ n ∈ M, P n = Q n.1) → (M.filter P).map (·.1) = (M.map (·.1)).filter Q
  | [], _ => rfl
  | n :: t, h => by
    have ih := filter_fst t (fun m hm => h m (by simp [hm]))
    rw [List.map_cons, List.filter_cons, List.filter_cons, ← h n (by simp)]
    by_cases hp : P n = true
    · rw [if_pos hp, if_pos hp, List.map_cons, ih]
    · rw [if_neg hp, if_neg hp, ih]
set_option maxRecDepth 100000 in
theorem stV_nxt {R : List Rt} {L : List Lk} {z : Int} (hz : hasV R L z = true) (r : Int) : stV R L (toK L z R.length) r = nxt R L r z := by
  obtain ⟨hok, hzi⟩ := hasV_iff.1 hz
  have hg := okT_g hok
  have hf0 : ∀ v x, dst R L v z = some x → 0 ≤ x := fun v x h => (dst_bd h).1.1
  unfold stV
  rw [at_dst hz r]
  cases hd : dst R L r z with
  | none =>
    rw [if_pos (.inl rfl)]
    exact (next_none hg.pos (f := fun x => dst R L x z) hf0 hd).symm
  | some d =>
    have hdb := (dst_bd hd).1
    simp only [Option.getD_some]
    by_cases h0 : d = 0
    · rw [if_pos (.inr h0)]
      rw [h0] at hd
      exact (next_end hg.pos (f := fun x => dst R L x z) hf0 hd).symm
    · rw [if_neg (by rintro (h | h); · unfold farN at h; omega
                     · exact h0 h)]
      unfold nxt nextV
      rw [filter_fst (Q := okS R L (toK L z R.length) d r), nbD_fst, near_eq (okT_all hok)]
      rintro ⟨u, c⟩ hm
      have he := nbD_mem.1 hm
      show (match dst R L u z with
        | some x => decide (c + x = (dst R L r z).getD 0)
        | none => false) = okS R L (toK L z R.length) d r u
      rw [show (dst R L r z).getD 0 = d by rw [hd]; rfl]
      unfold okS
      rw [at_dst hz u, price_edg hok he]
      cases hu : dst R L u z with
      | none =>
        simp only [Option.getD_none]
        rw [show decide (farN < farN) = false from rfl]
        rfl
      | some y =>
        have hy := (dst_bd hu).1
        simp only [Option.getD_some]
        rw [show decide (y < farN) = true from decide_eq_true (by unfold farN; omega)]
        rfl
/-! Numbers of paths. -/
set_option maxRecDepth 100000 in
theorem rkN_lt {R : List Rt} {L : List Lk} {z : Int} (hz : hasV R L z = true) (r : Int) : rkN R L z r < (ids R).length := by
  obtain ⟨hok, hzi⟩ := hasV_iff.1 hz
  by_cases hr : r ∈ ids R
  · have := rkN_self (L := L) (z := z) hok hr
    omega
  · have h0 : rkN R L z r = 0 := by
      unfold rkN
      rw [List.filter_eq_nil_iff.2]
      · rfl
      · intro v _ hv
        obtain ⟨x, d, -, h2, -⟩ := nearB_iff.1 hv
        exact hr (dst_both h2).2.1
    have := List.length_pos_of_mem hzi
    omega
set_option maxRecDepth 100000 in
theorem itC_cnt {R : List Rt} {L : List Lk} {z : Int} (hz : hasV R L z = true) (r : Int) : itC (fun r => nxt R L r z) z R.length r = cnt R L z r := by
  have hlen : (ids R).length = R.length := by unfold ids; rw [List.length_map]
  refine cnt_uniq (m := rkN R L z) (next := fun r => nxt R L r z) (z := z) (fun r u hu => rkN_step hu) (fun r => ?_) (fun r => cnt_rule R L z r) r
  exact itC_fix (m := rkN R L z) (fun r u hu => rkN_step hu) (fun r => by rw [← hlen]; exact rkN_lt hz r) r
set_option maxRecDepth 100000 in
theorem cnt_pV {R : List Rt} {L : List Lk} {a z : Int} (hz : hasV R L z = true) : cnt R L z a = pV R L a z := by
  unfold pV
  cases hd : dst R L a z with
  | some d => rfl
  | none =>
    have hne : a ≠ z := fun e => by rw [e, dst_self hz] at hd; cases hd
    have hn : nxt R L a z = [] := next_none (okT_g (hasV_iff.1 hz).1).pos (f := fun x => dst R L x z) (fun v x h => (dst_bd h).1.1) hd
    rw [if_neg (by simp), cnt_rule]
    unfold cntS
    rw [if_neg hne]
    simp only
    rw [hn]
    rfl
set_option maxRecDepth 100000 in
theorem pV_no {R : List Rt} {L : List Lk} {a z : Int} (h : hasV R L a = false ∨ hasV R L z = false) : pV R L a z = 0 := by
  unfold pV
  cases hd : dst R L a z with
  | none => rfl
  | some d =>
    obtain ⟨h1, h2, h3⟩ := dst_both hd
    rcases h with h | h
    · rw [hasV_iff.2 ⟨h1, h2⟩] at h; cases h
    · rw [hasV_iff.2 ⟨h1, h3⟩] at h; cases h
set_option maxRecDepth 100000 in
theorem nxt_no {R : List Rt} {L : List Lk} {a z : Int} (h : hasV R L a = false ∨ hasV R L z = false) : nxt R L a z = [] := by
  cases hn : nxt R L a z with
  | nil => rfl
  | cons u t =>
    obtain ⟨d, x, c, hd, -⟩ := nxt_step (R := R) (L := L) (r := a) (z := z) (u := u) (by rw [hn]; simp)
    obtain ⟨h1, h2, h3⟩ := dst_both hd
    rcases h with h | h
    · rw [hasV_iff.2 ⟨h1, h2⟩] at h; cases h
    · rw [hasV_iff.2 ⟨h1, h3⟩] at h; cases h
set_option maxRecDepth 100000 in
theorem rtV_no {R : List Rt} {L : List Lk} {a z : Int} (h : hasV R L a = false ∨ hasV R L z = false) : rtV R L z a = [] := rtV_stop (nxt_no h)
/-! Uses and Avoids. -/
/-- The reference's Uses. -/
noncomputable def ruV (R : List Rt) (L : List Lk) (a b h k : Int) : Bool := (costV R L h k).2 && ((dst R L a b).isSome && ((dst R L a h).isSome && ((dst R L k b).isSome && decide ((dst R L a h).getD 0 + (costV R L h k).1 + (dst R L k b).getD 0 = (dst R L a b).getD 0))))
set_option maxRecDepth 100000 in
theorem ru_us (R : List Rt) (L : List Lk) (a b h k : Int) : ruV R L a b h k = usV R L a b h k := by
  rw [Bool.eq_iff_iff]
  unfold ruV usV psV costV
  simp only [Bool.and_eq_true, decide_eq_true_eq]
  constructor
  · rintro ⟨h1, h2, h3, h4, h5⟩
    cases hok : okT R L with
    | false => rw [hok] at h1; simp at h1
    | true =>
      rw [hok] at h1 h5
      simp only [if_true] at h1 h5
      obtain ⟨d, hd⟩ := Option.isSome_iff_exists.1 h2
      obtain ⟨x, hx⟩ := Option.isSome_iff_exists.1 h3
      obtain ⟨y, hy⟩ := Option.isSome_iff_exists.1 h4
      rw [hd, hx, hy] at h5
      simp only [Option.getD_some] at h5
      have he := price_ed2 hok (u := h) (v := k) (c := (priceV L h k).1) (Prod.ext rfl h1)
      have hh := (dst_both hx).2.2
      obtain ⟨e, hde, hle⟩ := dst_edge (hasV_iff.2 ⟨hok, hh⟩) he
      obtain ⟨f, hf, hfle⟩ := dst_tri hde hy
      obtain ⟨g, hg, hgle⟩ := dst_tri hx hf
      rw [hd] at hg
      obtain rfl := Option.some.inj hg
      rw [hx, hf, hd]
      simp only [Option.getD_some, decide_eq_true_eq]
      refine ⟨by omega, ?_⟩
      rw [hasI_mq, nxt_mem]
      exact ⟨_, y, he, hy, by rw [hf]; simp only [Option.getD_some]; omega⟩
  · rintro ⟨h1, h2⟩
    rw [hasI_mq, nxt_mem] at h2
    obtain ⟨c, y, he, hy, hcy⟩ := h2
    cases hx : dst R L a h with
    | none => rw [hx] at h1; cases h1
    | some x =>
      cases hf : dst R L h b with
      | none => rw [hx, hf] at h1; cases h1
      | some f =>
        rw [hx, hf] at h1
        rw [hf] at hcy
        simp only [Option.getD_some, decide_eq_true_eq] at h1 hcy
        have hok := (dst_both hx).1
        obtain ⟨g, hg, hgle⟩ := dst_tri hx hf
        rw [hg] at h1 ⊢
        simp only [Option.getD_some] at h1 ⊢
        rw [hok, hy, price_edg hok he]
        simp only [Option.isSome_some, Option.getD_some, if_true, true_and]
        omega
/-- The reference's Avoids. -/
noncomputable def raV (R : List Rt) (L : List Lk) (a b r : Int) : Bool := (dst R L a b).isSome && (!(dst R L a r).isSome || (!(dst R L r b).isSome || !decide ((dst R L a r).getD 0 + (dst R L r b).getD 0 = (dst R L a b).getD 0)))
set_option maxRecDepth 100000 in
theorem ra_av (R : List Rt) (L : List Lk) (a b r : Int) : raV R L a b r = avV R L a b r := by
  unfold raV avV psV
  cases hx : dst R L a r with
  | none => simp
  | some x =>
    cases hy : dst R L r b with
    | none => simp
    | some y => simp
end Go.Proofs.Ytlefjdglcdopeaa

/- Shortest paths without a router: the mathematics of Avoids. -/
namespace Go.Proofs.Ytlefjdglcdopeaa
/-- Only the router c is gone. -/
structure Gone (F : Fl) (c : Int) : Prop where
  h : F.H = []
  x : F.X = [c]
set_option maxRecDepth 100000 in
theorem Gone.has {F : Fl} {c : Int} (g : Gone F c) (x : Int) : hasI F.X x = decide (c = x) := by
  rw [g.x]
  unfold hasI
  simp
set_option maxRecDepth 100000 in
theorem gone_ids {F : Fl} {c : Int} (g : Gone F c) {R : List Rt} {x : Int} : x ∈ ids (woR F R) ↔ x ∈ ids R ∧ x ≠ c := by
  unfold ids woR
  rw [List.mem_map, List.mem_map]
  constructor
  · rintro ⟨r, hr, rfl⟩
    obtain ⟨h1, h2⟩ := List.mem_filter.1 hr
    rw [g.has] at h2
    refine ⟨⟨r, h1, rfl⟩, fun e => ?_⟩
    rw [e] at h2
    simp at h2
  · rintro ⟨⟨r, hr, rfl⟩, hne⟩
    refine ⟨r, List.mem_filter.2 ⟨hr, ?_⟩, rfl⟩
    rw [g.has]
    simp
    exact fun e => hne e.symm
set_option maxRecDepth 100000 in
theorem gone_edg {F : Fl} {c : Int} (g : Gone F c) {L : List Lk} {u v e : Int} : edg (woL F L) u v e ↔ edg L u v e ∧ u ≠ c ∧ v ≠ c := by
  have hk : ∀ l : Lk, woK F l = true ↔ l.a ≠ c ∧ l.b ≠ c := fun l => by
    unfold woK nmd
    rw [g.has, g.has, g.h]
    simp
    constructor
    · rintro ⟨h1, h2⟩; exact ⟨fun e => h1 e.symm, fun e => h2 e.symm⟩
    · rintro ⟨h1, h2⟩; exact ⟨fun e => h1 e.symm, fun e => h2 e.symm⟩
  unfold edg woL
  constructor
  · rintro ⟨l, hl, h⟩
    obtain ⟨h1, h2⟩ := List.mem_filter.1 hl
    obtain ⟨k1, k2⟩ := (hk l).1 h2
    refine ⟨⟨l, h1, h⟩, ?_⟩
    rcases h with ⟨rfl, rfl, -⟩ | ⟨rfl, rfl, -⟩
    · exact ⟨k1, k2⟩
    · exact ⟨k2, k1⟩
  · rintro ⟨⟨l, hl, h⟩, hu, hv⟩
    refine ⟨l, List.mem_filter.2 ⟨hl, (hk l).2 ?_⟩, h⟩
    rcases h with ⟨rfl, rfl, -⟩ | ⟨rfl, rfl, -⟩
    · exact ⟨hu, hv⟩
    · exact ⟨hv, hu⟩
set_option maxRecDepth 100000 in
theorem gone_wk {F : Fl} {c : Int} (g : Gone F c) {L : List Lk} {u v n : Int} (h : Wk (woL F L) u v n) : Wk L u v n :=
  Wk.ind (Q := fun x n => Wk L u x n) (Wk.nil _ _) (fun _ _ _ _ _ hq he => hq.step ((gone_edg g).1 he).1) h
set_option maxRecDepth 100000 in
theorem sum_mem_le {c : Int → Int} : ∀ (l : List Int), (∀ u ∈ l, 0 ≤ c u) → ∀ u ∈ l, c u ≤ sumI c l
  | [], _, u, hu => by cases hu
  | a :: t, h, u, hu => by
    rw [sumI_cons]
    have h1 := (sumI_bd0 t (fun v hv => h v (by simp [hv])))
    have h2 := h a (by simp)
    rcases List.mem_cons.1 hu with rfl | hu
    · omega
    · have := sum_mem_le t (fun v hv => h v (by simp [hv])) u hu
      omega
where
  sumI_bd0 {c : Int → Int} : ∀ (l : List Int), (∀ u ∈ l, 0 ≤ c u) → 0 ≤ sumI c l
    | [], _ => Int.le_refl _
    | a :: t, h => by
      rw [sumI_cons]
      have := sumI_bd0 t (fun v hv => h v (by simp [hv]))
      have := h a (by simp)
      omega
set_option maxRecDepth 100000 in
/-- A part's lesser terms. -/
theorem sum_part {c d : Int → Int} {p : Int → Bool} : ∀ (l : List Int), (∀ u ∈ l, 0 ≤ c u) → (∀ u ∈ l, p u = true → d u ≤ c u) → sumI d (l.filter p) ≤ sumI c l ∧ ((∃ u ∈ l, (p u = true ∧ d u < c u) ∨ (p u = false ∧ 1 ≤ c u)) → sumI d (l.filter p) < sumI c l)
  | [], _, _ => ⟨Int.le_refl _, fun ⟨u, hu, _⟩ => by cases hu⟩
  | a :: t, h0, h1 => by
    obtain ⟨i1, i2⟩ := sum_part t (fun v hv => h0 v (by simp [hv])) (fun v hv => h1 v (by simp [hv]))
    have ha := h0 a (by simp)
    rw [sumI_cons, List.filter_cons]
    cases hp : p a with
    | true =>
      rw [if_pos rfl, sumI_cons]
      have hd := h1 a (by simp) hp
      refine ⟨by omega, ?_⟩
      rintro ⟨u, hu, hc⟩
      rcases List.mem_cons.1 hu with rfl | hu
      · rcases hc with ⟨-, h⟩ | ⟨h, -⟩
        · omega
        · rw [hp] at h; cases h
      · have := i2 ⟨u, hu, hc⟩
        omega
    | false =>
      rw [if_neg (by simp)]
      refine ⟨by omega, ?_⟩
      rintro ⟨u, hu, hc⟩
      rcases List.mem_cons.1 hu with rfl | hu
      · rcases hc with ⟨h, -⟩ | ⟨-, h⟩
        · rw [hp] at h; cases h
        · omega
      · have := i2 ⟨u, hu, hc⟩
        omega
section
variable {R : List Rt} {L : List Lk} {F : Fl} {c b : Int}
/-- What is known throughout. -/
structure AvH (R : List Rt) (L : List Lk) (F : Fl) (c b : Int) : Prop where
  ok : okT R L = true
  h8 : R.length ≤ 8
  g : Gone F c
  bin : b ∈ ids R
  bne : b ≠ c
set_option maxRecDepth 100000 in
theorem AvH.okU (h : AvH R L F c b) : okT (woR F R) (woL F L) = true := by
  have := wo_chk F R L
  rw [h.ok] at this
  simp only [if_true] at this
  unfold okT
  rw [this]
  rfl
set_option maxRecDepth 100000 in
theorem AvH.len (h : AvH R L F c b) : (woR F R).length ≤ 8 := Nat.le_trans (List.length_filter_le _ _) h.h8
set_option maxRecDepth 100000 in
theorem AvH.hasU (h : AvH R L F c b) {v : Int} (hv : v ∈ ids R) (hc : v ≠ c) : hasV (woR F R) (woL F L) v = true := hasV_iff.2 ⟨h.okU, (gone_ids h.g).2 ⟨hv, hc⟩⟩
set_option maxRecDepth 100000 in
theorem AvH.low (h : AvH R L F c b) {v y : Int} (hy : dst (woR F R) (woL F L) v b = some y) : ∃ x, dst R L v b = some x ∧ x ≤ y ∧ v ∈ ids R ∧ v ≠ c := by
  obtain ⟨h1, h2⟩ := dst_some.1 hy
  obtain ⟨h3, h4⟩ := (gone_ids h.g).1 (hasV_iff.1 h1).2
  obtain ⟨x, hx, hle⟩ := exists_D (okT_g h.ok).pos _ y (Nat.le_refl _) (gone_wk h.g h2.1)
  exact ⟨x, dst_some.2 ⟨hasV_iff.2 ⟨h.ok, h3⟩, hx⟩, hle, h3, h4⟩
set_option maxRecDepth 100000 in
theorem AvH.ends (h : AvH R L F c b) {v u e : Int} (he : edg L v u e) : v ∈ ids R ∧ u ∈ ids R ∧ 1 ≤ e := ⟨((okT_g h.ok).ends.edg he).1, ((okT_g h.ok).ends.edg he).2, (okT_g h.ok).pos.edg he⟩
set_option maxRecDepth 100000 in
/-- A link ahead of a way. -/
theorem AvH.front (h : AvH R L F c b) {v u e x : Int} (he : edg L v u e) (hx : dst R L u b = some x) : ∃ d, dst R L v b = some d ∧ d ≤ e + x := by
  obtain ⟨hv, -, -⟩ := h.ends he
  obtain ⟨f, hf, hfe⟩ := dst_edge (hasV_iff.2 ⟨h.ok, hv⟩) he
  obtain ⟨d, hd, hde⟩ := dst_tri hf hx
  exact ⟨d, hd, by omega⟩
set_option maxRecDepth 100000 in
theorem AvH.frontU (h : AvH R L F c b) {v u e x : Int} (he : edg L v u e) (hv : v ≠ c) (hu : u ≠ c) (hx : dst (woR F R) (woL F L) u b = some x) : ∃ d, dst (woR F R) (woL F L) v b = some d ∧ d ≤ e + x := by
  obtain ⟨hvi, -, -⟩ := h.ends he
  obtain ⟨f, hf, hfe⟩ := dst_edge (h.hasU hvi hv) ((gone_edg h.g).2 ⟨he, hv, hu⟩)
  obtain ⟨d, hd, hde⟩ := dst_tri hf hx
  exact ⟨d, hd, by omega⟩
/-- Some shortest way from v passes c. -/
def PasC (R : List Rt) (L : List Lk) (c b v : Int) : Prop := ∃ x y d, dst R L v c = some x ∧ dst R L c b = some y ∧ dst R L v b = some d ∧ x + y = d
set_option maxRecDepth 100000 in
theorem pas_psV {v : Int} : psV R L v b c = true ↔ PasC R L c b v := by
  unfold psV PasC
  constructor
  · intro h
    cases hx : dst R L v c with
    | none => rw [hx] at h; cases h
    | some x =>
      cases hy : dst R L c b with
      | none => rw [hx, hy] at h; cases h
      | some y =>
        obtain ⟨d, hd, -⟩ := dst_tri hx hy
        rw [hx, hy, hd] at h
        exact ⟨x, y, d, rfl, rfl, hd, of_decide_eq_true h⟩
  · rintro ⟨x, y, d, hx, hy, hd, he⟩
    rw [hx, hy, hd]
    exact decide_eq_true he
set_option maxRecDepth 100000 in
theorem AvH.step (h : AvH R L F c b) {v u e x d : Int} (hd : dst R L v b = some d) (he : edg L v u e) (hx : dst R L u b = some x) (hs : e + x = d) (hn : ¬ PasC R L c b v) : ¬ PasC R L c b u ∧ u ≠ c := by
  obtain ⟨hv, hu, he1⟩ := h.ends he
  obtain ⟨f, hf, hfe⟩ := dst_edge (hasV_iff.2 ⟨h.ok, hv⟩) he
  constructor
  · rintro ⟨p, y, x', hp, hy, hx', hpy⟩
    rw [hx] at hx'
    obtain rfl := Option.some.inj hx'
    obtain ⟨q, hq, hqe⟩ := dst_tri hf hp
    obtain ⟨d', hd', hde⟩ := dst_tri hq hy
    rw [hd] at hd'
    obtain rfl := Option.some.inj hd'
    exact hn ⟨q, y, d, hq, hy, hd, by omega⟩
  · rintro rfl
    obtain ⟨d', hd', hde⟩ := dst_tri hf hx
    rw [hd] at hd'
    obtain rfl := Option.some.inj hd'
    exact hn ⟨f, x, d, hf, hx, hd, by omega⟩
set_option maxRecDepth 100000 in
theorem AvH.sub (h : AvH R L F c b) {v d u : Int} (hd : dst R L v b = some d) (hE : dst (woR F R) (woL F L) v b = some d) (hu : u ∈ nxt (woR F R) (woL F L) v b) : u ∈ nxt R L v b ∧ ∃ x, dst R L u b = some x ∧ dst (woR F R) (woL F L) u b = some x ∧ x < d := by
  obtain ⟨d', x', e, h1, h2, h3, h4, h5⟩ := nxt_step hu
  rw [hE] at h1
  obtain rfl := Option.some.inj h1
  obtain ⟨x, hx, hle, -, -⟩ := h.low h2
  have he := ((gone_edg h.g).1 h5).1
  obtain ⟨d2, hd2, hd2e⟩ := h.front he hx
  rw [hd] at hd2
  obtain rfl := Option.some.inj hd2
  have : x = x' := by omega
  subst this
  exact ⟨nxt_mem.2 ⟨e, x, he, hx, by rw [hd]; simp only [Option.getD_some]; omega⟩, x, hx, h2, by omega⟩
set_option maxRecDepth 100000 in
/-- Where no shortest way passes c nothing changes. -/
theorem AvH.same (h : AvH R L F c b) : ∀ (n : Nat) (v d : Int), d.toNat ≤ n → dst R L v b = some d → ¬ PasC R L c b v → dst (woR F R) (woL F L) v b = some d ∧ cnt (woR F R) (woL F L) b v = cnt R L b v := by
  intro n
  induction n with
  | zero =>
    intro v d hn hd hp
    by_cases hv : v = b
    · subst hv
      rw [dst_self (hasV_iff.2 ⟨h.ok, h.bin⟩)] at hd
      obtain rfl := Option.some.inj hd
      exact ⟨dst_self (h.hasU h.bin h.bne), by rw [cnt_self, cnt_self]⟩
    · have := dst_pos hd hv
      omega
  | succ n ih =>
    intro v d hn hd hp
    by_cases hv : v = b
    · subst hv
      rw [dst_self (hasV_iff.2 ⟨h.ok, h.bin⟩)] at hd
      obtain rfl := Option.some.inj hd
      exact ⟨dst_self (h.hasU h.bin h.bne), by rw [cnt_self, cnt_self]⟩
    · have hvi := (dst_both hd).2.1
      have hvc : v ≠ c := by
        rintro rfl
        exact hp ⟨0, d, d, dst_self (hasV_iff.2 ⟨h.ok, hvi⟩), hd, hd, by omega⟩
      have key : ∀ u ∈ nxt R L v b, ∃ e x, edg L v u e ∧ u ≠ c ∧ dst R L u b = some x ∧ e + x = d ∧ dst (woR F R) (woL F L) u b = some x ∧ cnt (woR F R) (woL F L) b u = cnt R L b u := fun u hu => by
        obtain ⟨d', x, e, h1, h2, h3, h4, h5⟩ := nxt_step hu
        rw [hd] at h1
        obtain rfl := Option.some.inj h1
        obtain ⟨k1, k2⟩ := h.step hd h5 h2 h3 hp
        have hx0 := (dst_bd h2).1
        obtain ⟨i1, i2⟩ := ih u x (by omega) h2 k1
        exact ⟨e, x, h5, k2, h2, h3, i1, i2⟩
      have hE : dst (woR F R) (woL F L) v b = some d := by
        cases hn : nxt R L v b with
        | nil => exact absurd hn (nxt_ne hd hv)
        | cons u t =>
          obtain ⟨e, x, h5, k2, h2, h3, i1, -⟩ := key u (by rw [hn]; simp)
          obtain ⟨y, hy, hye⟩ := h.frontU h5 hvc k2 i1
          obtain ⟨x2, hx2, hle, -, -⟩ := h.low hy
          rw [hd] at hx2
          obtain rfl := Option.some.inj hx2
          rw [hy, show y = d by omega]
      have hN : nxt (woR F R) (woL F L) v b = nxt R L v b := by
        refine eq_of_asc (nxt_pair h.okU v b) (nxt_pair h.ok v b) (fun u => ⟨fun hu => (h.sub hd hE hu).1, fun hu => ?_⟩)
        obtain ⟨e, x, h5, k2, h2, h3, i1, -⟩ := key u hu
        exact nxt_mem.2 ⟨e, x, (gone_edg h.g).2 ⟨h5, hvc, k2⟩, i1, by rw [hE]; simp only [Option.getD_some]; omega⟩
      refine ⟨hE, ?_⟩
      rw [cnt_sum h.okU h.len ((gone_ids h.g).2 ⟨hvi, hvc⟩) hv, cnt_sum h.ok h.h8 hvi hv, hN]
      exact sumI_congr _ (fun u hu => by obtain ⟨e, x, -, -, -, -, -, i2⟩ := key u hu; exact i2)
set_option maxRecDepth 100000 in
theorem AvH.pos (h : AvH R L F c b) : ∀ (n : Nat) (v d : Int), d.toNat ≤ n → dst R L v b = some d → 1 ≤ cnt R L b v := by
  intro n
  induction n with
  | zero =>
    intro v d hn hd
    by_cases hv : v = b
    · rw [hv, cnt_self]; decide
    · have := dst_pos hd hv
      omega
  | succ n ih =>
    intro v d hn hd
    by_cases hv : v = b
    · rw [hv, cnt_self]; decide
    · rw [cnt_sum h.ok h.h8 (dst_both hd).2.1 hv]
      cases hn : nxt R L v b with
      | nil => exact absurd hn (nxt_ne hd hv)
      | cons u t =>
        obtain ⟨d', x, e, h1, h2, h3, h4, h5⟩ := nxt_step (R := R) (L := L) (r := v) (z := b) (u := u) (by rw [hn]; simp)
        rw [hd] at h1
        obtain rfl := Option.some.inj h1
        have hx0 := (dst_bd h2).1
        have h6 := ih u x (by omega) h2
        have h7 := sum_mem_le (c := cnt R L b) (u :: t) (fun w _ => (cnt_bd R L b w).1) u (by simp)
        omega
set_option maxRecDepth 100000 in
/-- Where the costs stay the numbers do not grow; they shrink where a shortest way passed c. -/
theorem AvH.less (h : AvH R L F c b) : ∀ (n : Nat) (v d : Int), d.toNat ≤ n → dst R L v b = some d → dst (woR F R) (woL F L) v b = some d → cnt (woR F R) (woL F L) b v ≤ cnt R L b v ∧ (PasC R L c b v → cnt (woR F R) (woL F L) b v < cnt R L b v) := by
  have base : ∀ (d : Int), dst R L b b = some d → cnt (woR F R) (woL F L) b b ≤ cnt R L b b ∧ (PasC R L c b b → cnt (woR F R) (woL F L) b b < cnt R L b b) := fun d hd => by
    rw [cnt_self, cnt_self]
    refine ⟨Int.le_refl _, ?_⟩
    rintro ⟨x, y, d', hx, hy, hd', he⟩
    rw [dst_self (hasV_iff.2 ⟨h.ok, h.bin⟩)] at hd'
    obtain rfl := Option.some.inj hd'
    have h1 := dst_pos hx h.bne
    have h2 := (dst_bd hy).1
    omega
  intro n
  induction n with
  | zero =>
    intro v d hn hd hE
    by_cases hv : v = b
    · subst hv; exact base d hd
    · have := dst_pos hd hv
      omega
  | succ n ih =>
    intro v d hn hd hE
    by_cases hv : v = b
    · subst hv; exact base d hd
    · obtain ⟨-, -, -, hvi, hvc⟩ := h.low hE
      have hF : nxt (woR F R) (woL F L) v b = (nxt R L v b).filter (fun u => decide (u ∈ nxt (woR F R) (woL F L) v b)) := by
        refine eq_of_asc (nxt_pair h.okU v b) ((nxt_pair h.ok v b).sublist List.filter_sublist) (fun u => ?_)
        rw [List.mem_filter, decide_eq_true_eq]
        exact ⟨fun hu => ⟨(h.sub hd hE hu).1, hu⟩, fun hu => hu.2⟩
      have hle : ∀ u ∈ nxt R L v b, decide (u ∈ nxt (woR F R) (woL F L) v b) = true → cnt (woR F R) (woL F L) b u ≤ cnt R L b u := fun u _ hu => by
        obtain ⟨-, x, h2, h3, h4⟩ := h.sub hd hE (of_decide_eq_true hu)
        have hx0 := (dst_bd h2).1
        exact (ih u x (by omega) h2 h3).1
      obtain ⟨s1, s2⟩ := sum_part (c := cnt R L b) (d := cnt (woR F R) (woL F L) b) (p := fun u => decide (u ∈ nxt (woR F R) (woL F L) v b)) (nxt R L v b) (fun u _ => (cnt_bd R L b u).1) hle
      rw [← hF] at s1 s2
      rw [cnt_sum h.okU h.len ((gone_ids h.g).2 ⟨hvi, hvc⟩) hv, cnt_sum h.ok h.h8 hvi hv]
      refine ⟨s1, ?_⟩
      rintro ⟨x, y, d', hx, hy, hd', hxy⟩
      rw [hd] at hd'
      obtain rfl := Option.some.inj hd'
      refine s2 ?_
      cases hnc : nxt R L v c with
      | nil => exact absurd hnc (nxt_ne hx hvc)
      | cons u t =>
        obtain ⟨x', p, e, h1, h2, h3, h4, h5⟩ := nxt_step (R := R) (L := L) (r := v) (z := c) (u := u) (by rw [hnc]; simp)
        rw [hx] at h1
        obtain rfl := Option.some.inj h1
        obtain ⟨t2, ht2, hte⟩ := dst_tri h2 hy
        obtain ⟨d2, hd2, hd2e⟩ := h.front h5 ht2
        rw [hd] at hd2
        obtain rfl := Option.some.inj hd2
        have ht : t2 = p + y := by omega
        have hum : u ∈ nxt R L v b := nxt_mem.2 ⟨e, t2, h5, ht2, by rw [hd]; simp only [Option.getD_some]; omega⟩
        have hup : PasC R L c b u := ⟨p, y, t2, h2, hy, ht2, ht.symm⟩
        have ht0 := (dst_bd ht2).1
        refine ⟨u, hum, ?_⟩
        by_cases huU : u ∈ nxt (woR F R) (woL F L) v b
        · obtain ⟨-, z, k1, k2, k3⟩ := h.sub hd hE huU
          rw [ht2] at k1
          obtain rfl := Option.some.inj k1
          exact .inl ⟨decide_eq_true huU, (ih u t2 (by omega) ht2 k2).2 hup⟩
        · exact .inr ⟨decide_eq_false huU, h.pos _ u t2 (Nat.le_refl _) ht2⟩
set_option maxRecDepth 100000 in
/-- All shortest ways avoid c exactly if there are as many of them without c. -/
theorem AvH.avoid (h : AvH R L F c b) {a : Int} : avV R L a b c = ((dst R L a b).isSome && ((dst (woR F R) (woL F L) a b).isSome && (decide ((dst R L a b).getD 0 = (dst (woR F R) (woL F L) a b).getD 0) && decide (pV R L a b = pV (woR F R) (woL F L) a b)))) := by
  cases hd : dst R L a b with
  | none => unfold avV; rw [hd]; rfl
  | some d =>
    by_cases hp : PasC R L c b a
    · have h1 : avV R L a b c = false := by unfold avV; rw [pas_psV.2 hp]; simp
      rw [h1]
      cases hE : dst (woR F R) (woL F L) a b with
      | none => rfl
      | some y =>
        by_cases hy : d = y
        · subst hy
          have h2 := (h.less _ a d (Nat.le_refl _) hd hE).2 hp
          have h3 : ¬ pV R L a b = pV (woR F R) (woL F L) a b := by
            unfold pV
            rw [hd, hE]
            simp only [Option.isSome_some, if_true]
            omega
          rw [decide_eq_false h3]
          simp
        · simp [hy]
    · obtain ⟨hE, hc⟩ := h.same _ a d (Nat.le_refl _) hd hp
      have h1 : avV R L a b c = true := by
        unfold avV
        rw [hd, show psV R L a b c = false by rw [Bool.eq_false_iff]; exact fun e => hp (pas_psV.1 e)]
        rfl
      have h3 : pV R L a b = pV (woR F R) (woL F L) a b := by
        unfold pV
        rw [hd, hE]
        simp only [Option.isSome_some, if_true]
        exact hc.symm
      rw [h1, hE, decide_eq_true h3]
      simp
end
set_option maxRecDepth 100000 in
theorem av_end {R : List Rt} {L : List Lk} {a b c : Int} (ha : hasV R L a = true) (hb : hasV R L b = true) (h : a = c ∨ b = c) : avV R L a b c = false := by
  unfold avV
  cases hd : dst R L a b with
  | none => rfl
  | some d =>
    have : psV R L a b c = true := by
      refine pas_psV.2 ?_
      rcases h with rfl | rfl
      · exact ⟨0, d, d, dst_self ha, hd, hd, by omega⟩
      · exact ⟨d, 0, d, hd, dst_self hb, hd, by omega⟩
    rw [this]
    rfl
end Go.Proofs.Ytlefjdglcdopeaa

/- Parts of the proof, packed: ToRcp, ShTrM. -/
import Derived.Test.YtlefjdglcdopeaaTr18
import Derived.BigQuiet
import Derived.Test.YtlefjdglcdopeaaTr16
/- The reference's Components and Connected. -/
namespace Go.Proofs.Ytlefjdglcdopeaa
open Go.RowKit Bs
set_option maxRecDepth 100000 in
theorem CC.keep {w w' : World} {q : Nat → Prop} {x : Value} {C : List Int} (h : CC w q x C) (g : w.grownBy w' none) : CC w' q x C := by
  obtain ⟨p, c, e, hr, hc⟩ := h
  exact ⟨p, c, e, hr.grown g (by simp), hc⟩
/-- Rows of lists of numbers, while they grow. -/
structure RC (w0 : World) (Bs : Nat) (Cs : List (List Int)) (va : Value) (vals : List Value) (w : World) : Prop where
  row : w.ownsRow Bs 22 1 va vals.length vals
  len : vals.length = Cs.length
  at1_ : ∀ (i : Nat) (C : List Int) (x : Value), Cs[i]? = some C → vals[i]? = some x → CC w (fun b => w0.heap.size ≤ b ∧ va.ownBlock ≠ some b) x C
  gr : w0.grownBy w none
  le : w0.heap.size ≤ Bs ∧ Bs ≤ w.heap.size
set_option maxRecDepth 100000 in
theorem RC.nil {w0 w : World} {Bs : Nat} (g : w0.grownBy w none) (h : w0.heap.size ≤ Bs) (h2 : Bs ≤ w.heap.size) : RC w0 Bs [] (.slice none 0 0) [] w :=
  ⟨World.ownsRow_nil _ _ _ _, rfl, fun i C x h _ => by simp at h, g, h, h2⟩
set_option maxRecDepth 100000 in
theorem RC.keep {w0 w w' : World} {Bs : Nat} {Cs : List (List Int)} {va : Value} {vals : List Value} (h : RC w0 Bs Cs va vals w) (g : w.grownBy w' none) : RC w0 Bs Cs va vals w' :=
  ⟨h.row.kept g (by cases hv : va.ownBlock <;> simp), h.len, fun i C x h1 h2 => by
    obtain ⟨p, c, e, hr, hc⟩ := h.at1_ i C x h1 h2
    exact ⟨p, c, e, hr.grown g (by simp), hc⟩, grown_trans h.gr g, h.le.1, Nat.le_trans h.le.2 g.size⟩
set_option maxRecDepth 100000 in
theorem RC.app {w0 w w1 : World} {Bs : Nat} {va v' : Value} {Cs : List (List Int)} {C : List Int} {vals : List Value} {o : Obj} {g n cap : Nat} (h : RC w0 Bs Cs va vals w) (hv : CC w (fun b => w0.heap.size ≤ b ∧ va.ownBlock ≠ some b) v' C)
    (hown : w1.ownsRow Bs 22 1 (.slice (some ⟨g, 0, none⟩) n cap) (vals.length + 1) (vals ++ [v'])) (hg : (w.alloc o).grownBy w1 va.ownBlock) (hat : va.ownBlock = some g ∨ g = (w.alloc o).heap.size) :
    RC w0 Bs (Cs ++ [C]) (.slice (some ⟨g, 0, none⟩) n cap) (vals ++ [v']) w1 := by
  have k0 := World.grownBy_alloc w o none
  have hle := h.le
  have hne : ∀ b, b < Bs → some b ≠ va.ownBlock := fun b hb e => by
    have := (h.row.lt b e.symm).1
    omega
  have hk := h.keep k0
  have hsz : (w.alloc o).heap.size = w.heap.size + 1 := by simp
  have rd : ∀ (x : Value) (D : List Int), CC w (fun b => w0.heap.size ≤ b ∧ va.ownBlock ≠ some b) x D → CC w1 (fun b => w0.heap.size ≤ b ∧ (Value.slice (some ⟨g, 0, none⟩) n cap).ownBlock ≠ some b) x D := by
    rintro x D ⟨p, c, e, hr, hc⟩
    refine ⟨p, c, e, ?_, hc⟩
    refine Rd.mono ((hr.lt.grown k0 (by simp)).grown hg (fun b hb e => hb.1.2 e.symm)) (fun b hb => ⟨hb.1.1, fun e => ?_⟩)
    have eg : g = b := Option.some.inj e
    subst eg
    rcases hat with e2 | e2
    · exact hb.1.2 e2
    · have := hb.2
      omega
  refine ⟨?_, ?_, ?_, grown_any hk.gr hg (fun b hb => hne b (by omega)), hle.1, Nat.le_trans hk.le.2 hg.size⟩
  · rw [List.length_append]
    exact hown
  · rw [List.length_append, List.length_append, h.len]
    rfl
  · intro i D x h1 h2
    have hl := h.len
    by_cases hi : i < Cs.length
    · rw [List.getElem?_append_left hi] at h1
      rw [List.getElem?_append_left (by omega)] at h2
      exact rd x D (h.at1_ i D x h1 h2)
    · rw [List.getElem?_append_right (by omega)] at h1 h2
      rw [hl] at h2
      by_cases hi2 : i - Cs.length = 0
      · rw [hi2] at h1 h2
        obtain rfl : C = D := by simpa using h1
        obtain rfl : v' = x := by simpa using h2
        exact rd _ _ hv
      · rw [List.getElem?_eq_none (by simp; omega)] at h1
        cases h1
set_option maxRecDepth 100000 in
theorem RC.ret {w0 w : World} {Bs : Nat} {va : Value} {Cs : List (List Int)} {vals : List Value} (h : RC w0 Bs Cs va vals w) : TCPost Cs w0 (.returned va) w := by
  have hle := h.le
  have hr := rd_of_own h.row
  have at2 : ∀ (i : Nat) (C : List Int) (x : Value), Cs[i]? = some C → vals[i]? = some x → CC w (w0.heap.size ≤ ·) x C := fun i C x h1 h2 => by
    obtain ⟨p, c, e, hr, hc⟩ := h.at1_ i C x h1 h2
    exact ⟨p, c, e, hr.mono (fun b hb => hb.1), hc⟩
  have hro := h.row
  have hl := h.len
  rw [hl] at hro
  rcases Joins.ownsRow_forms hro with ⟨e, e0⟩ | ⟨g, cap, e⟩
  · subst e
    have hn : Cs.length = 0 := by omega
    refine ⟨none, 0, vals, by rw [hn], ?_, hl, ⟨by omega, by omega⟩, at2, h.gr⟩
    have h2 := hr.mono (q' := (w0.heap.size ≤ ·)) (fun b hb => by show _ ≤ b; omega)
    rw [hn]
    exact h2
  · subst e
    have := own_cap hro
    unfold maxLen at this
    exact ⟨_, cap, vals, rfl, hr.mono (fun b hb => by show _ ≤ b; omega), hl, ⟨this.1, by omega⟩, at2, h.gr⟩
set_option maxRecDepth 100000 in
theorem rcomps_take {R : List Rt} {L : List Lk} {k : Nat} {m : Rt} (h : R[k]? = some m) : rcomps (R.take (k + 1)) L = rcomps (R.take k) L ++ (if (cls L m.id).head? = some m.id then [cls L m.id] else []) := by
  unfold rcomps
  rw [List.take_add_one, h, List.filter_append, List.map_append]
  congr 1
  by_cases e : (cls L m.id).head? = some m.id <;> simp [e]
set_option maxRecDepth 100000 in
theorem rcomps_len (R : List Rt) (L : List Lk) : (rcomps R L).length ≤ R.length := by
  unfold rcomps
  rw [List.length_map]
  exact List.length_filter_le _ _
set_option maxRecDepth 100000 in
theorem conn_ref (R : List Rt) (L : List Lk) (a b : Int) : conn R L a b = (hasV R L a && (hasV R L b && hasI (cls L a) b)) := by
  cases hv : okT R L
  · unfold conn comps hasV
    rw [hv]
    rfl
  · rw [Bool.eq_iff_iff, conn_iff hv]
    unfold hasV
    rw [hv]
    simp only [Bool.true_and, Bool.and_eq_true]
    have hR : ∀ x, hasR R x = true ↔ ∃ r ∈ R, r.id = x := fun x => by
      unfold hasR
      rw [List.any_eq_true]
      simp
    rw [hR, hR, hasI_mem]
    constructor
    · rintro ⟨⟨r, hr, rfl⟩, h⟩
      obtain ⟨n, en, hn⟩ := rt_nat hv hr
      obtain ⟨-, e2⟩ := cls_spec (okT_near100 hv) hn
      rw [← en] at e2
      exact ⟨⟨r, hr, rfl⟩, reach_id hv ⟨r, hr, rfl⟩ h, (e2 b).2 h⟩
    · rintro ⟨⟨r, hr, rfl⟩, -, h⟩
      obtain ⟨n, en, hn⟩ := rt_nat hv hr
      obtain ⟨-, e2⟩ := cls_spec (okT_near100 hv) hn
      rw [← en] at e2
      exact ⟨⟨r, hr, rfl⟩, (e2 b).1 h⟩
set_option maxRecDepth 100000 in
set_option maxHeartbeats 3200000 in
theorem rconn_any (T : Tg) (a b : Int) (q : Nat → Prop) (w : World) (hT : TgOk w q T) :
    Calls Try.prog 31 #[.agg #[.slice T.pR T.R.length T.cR, .slice T.pL T.L.length T.cL], .int .i64 a, .int .i64 b] w fun e w' => e = .returned (.bool (conn T.R T.L a b)) ∧ w.grownBy w' none := by
  obtain ⟨R, L, pR, cR, pL, cL⟩ := T
  simp only
  obtain ⟨k1, k2⟩ := tone_box w #[.slice pR R.length cR, .slice pL L.length cL] 28
  have HB := Lib.hid (And.intro k1 (And.intro k2 (hT.keep k2)))
  clear k1 k2 hT
  obtain ⟨z, hz⟩ : ∃ z, conn R L a b = z := ⟨_, rfl⟩
  rw [hz]
  have HZ : Hid ((hasV R L a && (hasV R L b && hasI (cls L a) b)) = z) := Lib.hid (by rw [← conn_ref]; exact hz)
  clear hz
  go_enter Try.func31, Try.ntmps31
  go_upto_region 1 with fail
  generalize w.alloc _ = wa at *
  have G0 := Lib.hid (grown_refl wa none)
  obtain ⟨c0, c1⟩ := row_cells HB.out.1
  cases ha : hasV R L a
  · have HA := Lib.hid ha
    obtain rfl : z = false := by have := HZ.out; rw [ha] at this; exact this.symm
    clear ha
    go_wp2_with fail
    refine (rhasV_any ⟨R, L, pR, cR, pL, cL⟩ a _ _ (HB.out.2.2.keep G0.out)).mono ?_
    simp only
    rw [HA.out]
    rintro e w1 ⟨rfl, hg⟩
    have G1 := Lib.hid (grown_trans G0.out hg)
    clear hg c0 c1
    obtain ⟨c0, c1⟩ := row_cells (kept_row HB.out.1 G1.out (by simp))
    have HG := Lib.hid (grown_trans HB.out.2.1 G1.out)
    go_wp2_with fail
    go_ret
    exact ⟨rfl, HG.out⟩
  cases hb : hasV R L b
  · have HA := Lib.hid ha
    have HE := Lib.hid hb
    obtain rfl : z = false := by have := HZ.out; rw [ha, hb] at this; exact this.symm
    clear ha hb
    go_wp2_with fail
    refine (rhasV_any ⟨R, L, pR, cR, pL, cL⟩ a _ _ (HB.out.2.2.keep G0.out)).mono ?_
    simp only
    rw [HA.out]
    rintro e w1 ⟨rfl, hg⟩
    have G1 := Lib.hid (grown_trans G0.out hg)
    clear hg c0 c1
    obtain ⟨c0, c1⟩ := row_cells (kept_row HB.out.1 G1.out (by simp))
    go_wp2_with fail
    refine (rhasV_any ⟨R, L, pR, cR, pL, cL⟩ b _ _ (HB.out.2.2.keep G1.out)).mono ?_
    simp only
    rw [HE.out]
    rintro e w2 ⟨rfl, hg⟩
    have G2 := Lib.hid (grown_trans G1.out hg)
    clear hg c0 c1
    obtain ⟨c0, c1⟩ := row_cells (kept_row HB.out.1 G2.out (by simp))
    have HG := Lib.hid (grown_trans HB.out.2.1 G2.out)
    go_wp2_with fail
    go_ret
    exact ⟨rfl, HG.out⟩
  · have HA := Lib.hid ha
    have HE := Lib.hid hb
    have HZ2 : Hid (hasI (cls L a) b = z) := Lib.hid (by have := HZ.out; rw [ha, hb] at this; exact this)
    have hv : okT R L = true := by unfold hasV at ha; rw [Bool.and_eq_true] at ha; exact ha.1
    have hra : ∃ x ∈ R, x.id = a := by
      unfold hasV at ha
      rw [Bool.and_eq_true] at ha
      obtain ⟨x, hx, e⟩ := List.any_eq_true.1 ha.2
      exact ⟨x, hx, of_decide_eq_true e⟩
    have HV := Lib.hid (And.intro hv hra)
    clear ha hb hv hra
    go_wp2_with fail
    refine (rhasV_any ⟨R, L, pR, cR, pL, cL⟩ a _ _ (HB.out.2.2.keep G0.out)).mono ?_
    simp only
    rw [HA.out]
    rintro e w1 ⟨rfl, hg⟩
    have G1 := Lib.hid (grown_trans G0.out hg)
    clear hg c0 c1
    obtain ⟨c0, c1⟩ := row_cells (kept_row HB.out.1 G1.out (by simp))
    go_wp2_with fail
    refine (rhasV_any ⟨R, L, pR, cR, pL, cL⟩ b _ _ (HB.out.2.2.keep G1.out)).mono ?_
    simp only
    rw [HE.out]
    rintro e w2 ⟨rfl, hg⟩
    have G2 := Lib.hid (grown_trans G1.out hg)
    clear hg c0 c1
    obtain ⟨c0, c1⟩ := row_cells (kept_row HB.out.1 G2.out (by simp))
    go_wp2_with fail
    refine (rarnd_any ⟨R, L, pR, cR, pL, cL⟩ a _ _ (HB.out.2.2.keep G2.out) HV.out.1 HV.out.2).mono ?_
    rintro e w5 ⟨pn, cn, rfl, hRN0, hcn0, -, hg⟩
    simp only at hRN0 hcn0 ⊢
    have HRN := Lib.hid (And.intro hRN0 hcn0)
    have hcm := Nat.le_trans hcn0.1 hcn0.2
    have G3 := Lib.hid (grown_trans G2.out hg)
    obtain ⟨C, hC⟩ : ∃ C, cls L a = C := ⟨_, rfl⟩
    rw [hC] at HRN HZ2 hcm ⊢
    clear hRN0 hcn0 hg hC c0 c1
    go_wp2_with fail
    refine (rhas4_any C b pn cn _ _ HRN.out.1 hcm).mono ?_
    rw [HZ2.out]
    rintro e w6 ⟨rfl, rfl⟩
    have HG := Lib.hid (grown_trans HB.out.2.1 G3.out)
    go_wp2_with fail
    go_ret
    exact ⟨rfl, HG.out⟩
end Go.Proofs.Ytlefjdglcdopeaa

/- The law ShortestTriangles: its mathematics; the tape's Any. -/
namespace Go.Proofs.Ytlefjdglcdopeaa
open Go.RowKit Go.Maps Bs
set_option maxRecDepth 100000 in
theorem rch_wk {L : List Lk} {x y : Int} : Rch L x y ↔ ∃ n, Wk L x y n := by
  constructor
  · intro h
    refine h (fun v => ∃ n, Wk L x v n) ⟨0, Wk.nil L x⟩ (fun u v ⟨n, hn⟩ hv => ?_)
    rw [← nbD_fst] at hv
    obtain ⟨⟨v', c⟩, hm, rfl⟩ := List.mem_map.1 hv
    exact ⟨n + c, hn.step (nbD_mem.1 hm)⟩
  · rintro ⟨n, hn⟩ P h0 hs
    exact Wk.ind (Q := fun v _ => P v) h0 (fun u m v c _ hu he => hs u v hu (by
      rw [← nbD_fst]
      exact List.mem_map.2 ⟨(v, c), nbD_mem.2 he, rfl⟩)) hn
set_option maxRecDepth 100000 in
theorem conn_dst {R : List Rt} {L : List Lk} {a b : Int} (h : hasV R L a = true) : (dst R L a b).isSome = conn R L a b := by
  obtain ⟨hok, ha⟩ := hasV_iff.1 h
  rw [Bool.eq_iff_iff, conn_iff hok]
  constructor
  · intro hs
    obtain ⟨d, hd⟩ := Option.isSome_iff_exists.1 hs
    exact ⟨List.mem_map.1 ha, rch_wk.2 ⟨d, (dst_some.1 hd).2.1⟩⟩
  · rintro ⟨-, hr⟩
    obtain ⟨n, hn⟩ := rch_wk.1 hr
    obtain ⟨d, hd, -⟩ := exists_D (okT_g hok).pos _ n (Nat.le_refl _) hn
    rw [dst_some.2 ⟨h, hd⟩]
    rfl
set_option maxRecDepth 100000 in
theorem dst_pos {R : List Rt} {L : List Lk} {a b d : Int} (h : dst R L a b = some d) (hab : a ≠ b) : 1 ≤ d := by
  obtain ⟨h1, h2⟩ := dst_some.1 h
  have hp := (okT_g (hasV_iff.1 h1).1).pos
  rcases h2.pred with ⟨e, -⟩ | ⟨u, x, c, hu, he, rfl⟩
  · exact absurd e.symm hab
  · have := hp.edg he
    have := hu.1.ge hp
    omega
set_option maxRecDepth 100000 in
theorem dst_edge {R : List Rt} {L : List Lk} {a b c : Int} (h : hasV R L a = true) (he : edg L a b c) : ∃ d, dst R L a b = some d ∧ d ≤ c := by
  have hp := (okT_g (hasV_iff.1 h).1).pos
  have hw := (Wk.nil L a).step he
  obtain ⟨d, hd, hle⟩ := exists_D hp _ _ (Nat.le_refl _) hw
  exact ⟨d, dst_some.2 ⟨h, hd⟩, by omega⟩
set_option maxRecDepth 100000 in
theorem Wk.trans {L : List Lk} {a b c m n : Int} (h : Wk L a b m) (k : Wk L b c n) : Wk L a c (m + n) :=
  Wk.ind (Q := fun x n => Wk L a x (m + n)) (by rw [Int.add_zero]; exact h) (fun u x v d _ hq he => by rw [← Int.add_assoc]; exact hq.step he) k
set_option maxRecDepth 100000 in
theorem dst_tri {R : List Rt} {L : List Lk} {a b c x y : Int} (h : dst R L a b = some x) (k : dst R L b c = some y) : ∃ d, dst R L a c = some d ∧ d ≤ x + y := by
  obtain ⟨h1, h2⟩ := dst_some.1 h
  obtain ⟨-, k2⟩ := dst_some.1 k
  have hp := (okT_g (hasV_iff.1 h1).1).pos
  obtain ⟨d, hd, hle⟩ := exists_D hp _ _ (Nat.le_refl _) (h2.1.trans k2.1)
  exact ⟨d, dst_some.2 ⟨h1, hd⟩, hle⟩
set_option maxRecDepth 100000 in
set_option maxHeartbeats 3200000 in
theorem sany_any (T : Tg) (q : Nat → Prop) (w : World) (hT : TgOk w q T) (h1 : T.R.length ≤ 1000) :
    Calls Try.prog 29 #[.agg #[.slice T.pR T.R.length T.cR, .slice T.pL T.L.length T.cL]] w fun e w' => TRet (ids T.R) w e w' := by
  obtain ⟨i0, hi, hz0, hz1, hz2⟩ := info_parts info_int
  obtain ⟨R, L, pR, cR, pL, cL⟩ := T
  simp only at h1 ⊢
  obtain ⟨k1, k2⟩ := tone_box w #[.slice pR R.length cR, .slice pL L.length cL] 28
  have HB := Lib.hid (And.intro k1 (And.intro k2 (hT.keep k2)))
  have hm1 := Nat.le_trans hT.cr.1 hT.cr.2
  simp only at hm1
  obtain ⟨X, hX⟩ : ∃ X, ids R = X := ⟨_, rfl⟩
  have HX := Lib.hid hX
  have hXl : X.length = R.length := by rw [← hX]; unfold ids; rw [List.length_map]
  have HXL := Lib.hid hXl
  rw [hX]
  clear k1 k2 hT hX hXl
  go_enter Try.func29, Try.ntmps29
  go_upto_block 0 with fail
  generalize w.alloc _ = w7 at *
  have N0 : Hid (NK w7 (.slice none 0 0) (X.take 0) w7) := Lib.hid ⟨World.ownsRow_nil _ _ _ _, grown_refl _ _⟩
  go_wp2_with fail
  go_loopw [3, 4] (fun vo a wr => ∃ (k : Nat) (va : Value), va = vo ∧ k ≤ R.length ∧ a = .int .i64 (k : Int) ∧ Hid (NK w7 va (X.take k) wr)) (fun _ a _ => R.length - (RowKit.intOf a).toNat)
  case atStart => exact ⟨0, _, rfl, Nat.zero_le _, rfl, N0⟩
  case round =>
    obtain ⟨k, va, rfl, hk, rfl, NN⟩ := hrel
    clear N0
    obtain ⟨c0, c1⟩ := row_cells (kept_row HB.out.1 NN.out.gr (by simp))
    by_cases hlt : k < R.length
    · obtain ⟨-, b, off, rfl, -, hc⟩ := rdr_cells (R := R) (HB.out.2.2.keep NN.out.gr).r (by omega)
      obtain ⟨m, hm⟩ : ∃ m, R[k]? = some m := ⟨_, List.getElem?_eq_getElem hlt⟩
      obtain ⟨d0, d1⟩ := hc k m hm
      have hsn : X.take (k + 1) = X.take k ++ [m.id] := by
        rw [List.take_add_one, ← HX.out]
        unfold ids
        rw [List.getElem?_map, hm]
        rfl
      have HSN := Lib.hid hsn
      have hown := NN.out.own
      have hsz := NN.out.gr.size
      obtain ⟨A, hA⟩ : ∃ A, X.take k = A := ⟨_, rfl⟩
      have hAl : A.length ≤ 1000 := by rw [← hA, List.length_take]; omega
      rw [hA] at NN HSN hown
      clear hc hm hsn hA
      go_wp2_with (at_builtin; refine hold_on ?_)
      refine Lib.hid ?_
      refine wpList_append_lies _ rfl _ _ 22 rfl w7.heap.size 3 i0 (.int .i64 0) 1 8 Try.underlying22 hi hz0 hz1 hz2 rfl (by decide) _ _ _ rfl (hown.alloc _) ⟨wr.heap.size, 0, none⟩ 1 1 [.int .i64 m.id] rfl rfl ?c1 ?c2 (by decide) ?c3 ?c4 ?c5 _ rfl ?_
      try (case c1 => exact cell_one _ _ _)
      case c2 => (intro u hu; simp at hu; rcases hu with rfl; rfl)
      case c3 => first | omega | (unfold maxLen; omega)
      case c4 => omega
      case c5 => first | omega | (simp; omega)
      intro gq capq w8 hown8 hg8 hat8 hlt8
      obtain ⟨vq, hvq⟩ : ∃ vq, Value.slice (some ⟨gq, 0, none⟩) (A.length + 1) capq = vq := ⟨_, rfl⟩
      rw [hvq] at hown8 ⊢
      obtain ⟨n1, -⟩ := NN.out.more (x := m.id) (grown_refl _ _) hown8 hg8
      have N1 : Hid (NK w7 vq (X.take (k + 1)) w8) := Lib.hid (by rw [HSN.out]; exact n1)
      clear hvq hat8 hlt8 hg8 hown n1 hown8
      go_wp2_with fail
      exact ⟨⟨k + 1, _, rfl, by omega, congrArg _ (by omega), N1⟩, by simp only [RowKit.intOf]; omega⟩
    · obtain rfl : k = R.length := by omega
      have hN := NN.out
      rw [List.take_of_length_le (by rw [HXL.out]; exact Nat.le_refl _)] at hN
      have H9 := Lib.hid (hN.base HB.out.2.1).ret
      clear hN NN
      go_wp2_with fail
      go_ret
      obtain ⟨p, c, rfl, h3⟩ := H9.out
      exact ⟨p, c, rfl, h3⟩
end Go.Proofs.Ytlefjdglcdopeaa

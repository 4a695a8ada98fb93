/- Parts of the proof, packed: ToRcp, ShTrM, ShReM, ShTUn, ShRAt. -/
import Derived.Test.YtlefjdglcdopeaaUn18
import Derived.BigQuiet
import Derived.Test.YtlefjdglcdopeaaUn16
import Derived.Test.YtlefjdglcdopeaaUn12
import Derived.Test.YtlefjdglcdopeaaUn10
import Derived.Test.YtlefjdglcdopeaaUn3
import Derived.Maps.RangeWalk
import Derived.Deep.OwnRows
/- The reference's Components and Connected. -/
namespace Go.Proofs.Ytlefjdglcdopeaa
open Go.RowKit Bs
set_option maxRecDepth 100000 in
theorem CC.keep {w w' : World} {q : Nat → Prop} {x : Value} {C : List Int} (h : CC w q x C) (g : w.grownBy w' none) : CC w' q x C := by
  obtain ⟨p, c, e, hr, hc⟩ := h
  exact ⟨p, c, e, hr.grown g (by simp), hc⟩
/-- Rows of lists of numbers, while they grow. -/
structure RC (w0 : World) (Bs : Nat) (Cs : List (List Int)) (va : Value) (vals : List Value) (w : World) : Prop where
  row : w.ownsRow Bs 22 1 va vals.length vals
  len : vals.length = Cs.length
  at_ : ∀ (i : Nat) (C : List Int) (x : Value), Cs[i]? = some C → vals[i]? = some x → CC w (fun b => w0.heap.size ≤ b ∧ va.ownBlock ≠ some b) x C
  gr : w0.grownBy w none
  le : w0.heap.size ≤ Bs ∧ Bs ≤ w.heap.size
set_option maxRecDepth 100000 in
theorem RC.nil {w0 w : World} {Bs : Nat} (g : w0.grownBy w none) (h : w0.heap.size ≤ Bs) (h2 : Bs ≤ w.heap.size) : RC w0 Bs [] (.slice none 0 0) [] w :=
  ⟨World.ownsRow_nil _ _ _ _, rfl, fun i C x h _ => by simp at h, g, h, h2⟩
set_option maxRecDepth 100000 in
theorem RC.keep {w0 w w' : World} {Bs : Nat} {Cs : List (List Int)} {va : Value} {vals : List Value} (h : RC w0 Bs Cs va vals w) (g : w.grownBy w' none) : RC w0 Bs Cs va vals w' :=
  ⟨h.row.kept g (by cases hv : va.ownBlock <;> simp), h.len, fun i C x h1 h2 => by
    obtain ⟨p, c, e, hr, hc⟩ := h.at_ i C x h1 h2
    exact ⟨p, c, e, hr.grown g (by simp), hc⟩, grown_trans h.gr g, h.le.1, Nat.le_trans h.le.2 g.size⟩
set_option maxRecDepth 100000 in
theorem RC.app {w0 w w1 : World} {Bs : Nat} {va v' : Value} {Cs : List (List Int)} {C : List Int} {vals : List Value} {o : Obj} {g n cap : Nat} (h : RC w0 Bs Cs va vals w) (hv : CC w (fun b => w0.heap.size ≤ b ∧ va.ownBlock ≠ some b) v' C)
    (hown : w1.ownsRow Bs 22 1 (.slice (some ⟨g, 0, none⟩) n cap) (vals.length + 1) (vals ++ [v'])) (hg : (w.alloc o).grownBy w1 va.ownBlock) (hat : va.ownBlock = some g ∨ g = (w.alloc o).heap.size) :
    RC w0 Bs (Cs ++ [C]) (.slice (some ⟨g, 0, none⟩) n cap) (vals ++ [v']) w1 := by
  have k0 := World.grownBy_alloc w o none
  have hle := h.le
  have hne : ∀ b, b < Bs → some b ≠ va.ownBlock := fun b hb e => by
    have := (h.row.lt b e.symm).1
    omega
  have hk := h.keep k0
  have hsz : (w.alloc o).heap.size = w.heap.size + 1 := by simp
  have rd : ∀ (x : Value) (D : List Int), CC w (fun b => w0.heap.size ≤ b ∧ va.ownBlock ≠ some b) x D → CC w1 (fun b => w0.heap.size ≤ b ∧ (Value.slice (some ⟨g, 0, none⟩) n cap).ownBlock ≠ some b) x D := by
    rintro x D ⟨p, c, e, hr, hc⟩
    refine ⟨p, c, e, ?_, hc⟩
    refine Rd.mono ((hr.lt.grown k0 (by simp)).grown hg (fun b hb e => hb.1.2 e.symm)) (fun b hb => ⟨hb.1.1, fun e => ?_⟩)
    have eg : g = b := Option.some.inj e
    subst eg
    rcases hat with e2 | e2
    · exact hb.1.2 e2
    · have := hb.2
      omega
  refine ⟨?_, ?_, ?_, grown_any hk.gr hg (fun b hb => hne b (by omega)), hle.1, Nat.le_trans hk.le.2 hg.size⟩
  · rw [List.length_append]
    exact hown
  · rw [List.length_append, List.length_append, h.len]
    rfl
  · intro i D x h1 h2
    have hl := h.len
    by_cases hi : i < Cs.length
    · rw [List.getElem?_append_left hi] at h1
      rw [List.getElem?_append_left (by omega)] at h2
      exact rd x D (h.at_ i D x h1 h2)
    · rw [List.getElem?_append_right (by omega)] at h1 h2
      rw [hl] at h2
      by_cases hi2 : i - Cs.length = 0
      · rw [hi2] at h1 h2
        obtain rfl : C = D := by simpa using h1
        obtain rfl : v' = x := by simpa using h2
        exact rd _ _ hv
      · rw [List.getElem?_eq_none (by simp; omega)] at h1
        cases h1
set_option maxRecDepth 100000 in
theorem RC.ret {w0 w : World} {Bs : Nat} {va : Value} {Cs : List (List Int)} {vals : List Value} (h : RC w0 Bs Cs va vals w) : TCPost Cs w0 (.returned va) w := by
  have hle := h.le
  have hr := rd_of_own h.row
  have at2 : ∀ (i : Nat) (C : List Int) (x : Value), Cs[i]? = some C → vals[i]? = some x → CC w (w0.heap.size ≤ ·) x C := fun i C x h1 h2 => by
    obtain ⟨p, c, e, hr, hc⟩ := h.at_ i C x h1 h2
    exact ⟨p, c, e, hr.mono (fun b hb => hb.1), hc⟩
  have hro := h.row
  have hl := h.len
  rw [hl] at hro
  rcases Joins.ownsRow_forms hro with ⟨e, e0⟩ | ⟨g, cap, e⟩
  · subst e
    have hn : Cs.length = 0 := by omega
    refine ⟨none, 0, vals, by rw [hn], ?_, hl, ⟨by omega, by omega⟩, at2, h.gr⟩
    have h2 := hr.mono (q' := (w0.heap.size ≤ ·)) (fun b hb => by show _ ≤ b; omega)
    rw [hn]
    exact h2
  · subst e
    have := own_cap hro
    unfold maxLen at this
    exact ⟨_, cap, vals, rfl, hr.mono (fun b hb => by show _ ≤ b; omega), hl, ⟨this.1, by omega⟩, at2, h.gr⟩
set_option maxRecDepth 100000 in
theorem rcomps_take {R : List Rt} {L : List Lk} {k : Nat} {m : Rt} (h : R[k]? = some m) : rcomps (R.take (k + 1)) L = rcomps (R.take k) L ++ (if (cls L m.id).head? = some m.id then [cls L m.id] else []) := by
  unfold rcomps
  rw [List.take_add_one, h, List.filter_append, List.map_append]
  congr 1
  by_cases e : (cls L m.id).head? = some m.id <;> simp [e]
set_option maxRecDepth 100000 in
theorem rcomps_len (R : List Rt) (L : List Lk) : (rcomps R L).length ≤ R.length := by
  unfold rcomps
  rw [List.length_map]
  exact List.length_filter_le _ _
set_option maxRecDepth 100000 in
theorem conn_ref (R : List Rt) (L : List Lk) (a b : Int) : conn R L a b = (hasV R L a && (hasV R L b && hasI (cls L a) b)) := by
  cases hv : okT R L
  · unfold conn comps hasV
    rw [hv]
    rfl
  · rw [Bool.eq_iff_iff, conn_iff hv]
    unfold hasV
    rw [hv]
    simp only [Bool.true_and, Bool.and_eq_true]
    have hR : ∀ x, hasR R x = true ↔ ∃ r ∈ R, r.id = x := fun x => by
      unfold hasR
      rw [List.any_eq_true]
      simp
    rw [hR, hR, hasI_mem]
    constructor
    · rintro ⟨⟨r, hr, rfl⟩, h⟩
      obtain ⟨n, en, hn⟩ := rt_nat hv hr
      obtain ⟨-, e2⟩ := cls_spec (okT_near100 hv) hn
      rw [← en] at e2
      exact ⟨⟨r, hr, rfl⟩, reach_id hv ⟨r, hr, rfl⟩ h, (e2 b).2 h⟩
    · rintro ⟨⟨r, hr, rfl⟩, -, h⟩
      obtain ⟨n, en, hn⟩ := rt_nat hv hr
      obtain ⟨-, e2⟩ := cls_spec (okT_near100 hv) hn
      rw [← en] at e2
      exact ⟨⟨r, hr, rfl⟩, (e2 b).1 h⟩
set_option maxRecDepth 100000 in
set_option maxHeartbeats 3200000 in
theorem rconn_any (T : Tg) (a b : Int) (q : Nat → Prop) (w : World) (hT : TgOk w q T) :
    Calls Try.prog 31 #[.agg #[.slice T.pR T.R.length T.cR, .slice T.pL T.L.length T.cL], .int .i64 a, .int .i64 b] w fun e w' => e = .returned (.bool (conn T.R T.L a b)) ∧ w.grownBy w' none := by
  obtain ⟨R, L, pR, cR, pL, cL⟩ := T
  simp only
  obtain ⟨k1, k2⟩ := tone_box w #[.slice pR R.length cR, .slice pL L.length cL] 28
  have HB := Lib.hid (And.intro k1 (And.intro k2 (hT.keep k2)))
  clear k1 k2 hT
  obtain ⟨z, hz⟩ : ∃ z, conn R L a b = z := ⟨_, rfl⟩
  rw [hz]
  have HZ : Hid ((hasV R L a && (hasV R L b && hasI (cls L a) b)) = z) := Lib.hid (by rw [← conn_ref]; exact hz)
  clear hz
  go_enter Try.func31, Try.ntmps31
  go_upto_region 1 with fail
  generalize w.alloc _ = wa at *
  have G0 := Lib.hid (grown_refl wa none)
  obtain ⟨c0, c1⟩ := row_cells HB.out.1
  cases ha : hasV R L a
  · have HA := Lib.hid ha
    obtain rfl : z = false := by have := HZ.out; rw [ha] at this; exact this.symm
    clear ha
    go_wp2_with fail
    refine (rhasV_any ⟨R, L, pR, cR, pL, cL⟩ a _ _ (HB.out.2.2.keep G0.out)).mono ?_
    simp only
    rw [HA.out]
    rintro e w1 ⟨rfl, hg⟩
    have G1 := Lib.hid (grown_trans G0.out hg)
    clear hg c0 c1
    obtain ⟨c0, c1⟩ := row_cells (kept_row HB.out.1 G1.out (by simp))
    have HG := Lib.hid (grown_trans HB.out.2.1 G1.out)
    go_wp2_with fail
    go_ret
    exact ⟨rfl, HG.out⟩
  cases hb : hasV R L b
  · have HA := Lib.hid ha
    have HE := Lib.hid hb
    obtain rfl : z = false := by have := HZ.out; rw [ha, hb] at this; exact this.symm
    clear ha hb
    go_wp2_with fail
    refine (rhasV_any ⟨R, L, pR, cR, pL, cL⟩ a _ _ (HB.out.2.2.keep G0.out)).mono ?_
    simp only
    rw [HA.out]
    rintro e w1 ⟨rfl, hg⟩
    have G1 := Lib.hid (grown_trans G0.out hg)
    clear hg c0 c1
    obtain ⟨c0, c1⟩ := row_cells (kept_row HB.out.1 G1.out (by simp))
    go_wp2_with fail
    refine (rhasV_any ⟨R, L, pR, cR, pL, cL⟩ b _ _ (HB.out.2.2.keep G1.out)).mono ?_
    simp only
    rw [HE.out]
    rintro e w2 ⟨rfl, hg⟩
    have G2 := Lib.hid (grown_trans G1.out hg)
    clear hg c0 c1
    obtain ⟨c0, c1⟩ := row_cells (kept_row HB.out.1 G2.out (by simp))
    have HG := Lib.hid (grown_trans HB.out.2.1 G2.out)
    go_wp2_with fail
    go_ret
    exact ⟨rfl, HG.out⟩
  · have HA := Lib.hid ha
    have HE := Lib.hid hb
    have HZ2 : Hid (hasI (cls L a) b = z) := Lib.hid (by have := HZ.out; rw [ha, hb] at this; exact this)
    have hv : okT R L = true := by unfold hasV at ha; rw [Bool.and_eq_true] at ha; exact ha.1
    have hra : ∃ x ∈ R, x.id = a := by
      unfold hasV at ha
      rw [Bool.and_eq_true] at ha
      obtain ⟨x, hx, e⟩ := List.any_eq_true.1 ha.2
      exact ⟨x, hx, of_decide_eq_true e⟩
    have HV := Lib.hid (And.intro hv hra)
    clear ha hb hv hra
    go_wp2_with fail
    refine (rhasV_any ⟨R, L, pR, cR, pL, cL⟩ a _ _ (HB.out.2.2.keep G0.out)).mono ?_
    simp only
    rw [HA.out]
    rintro e w1 ⟨rfl, hg⟩
    have G1 := Lib.hid (grown_trans G0.out hg)
    clear hg c0 c1
    obtain ⟨c0, c1⟩ := row_cells (kept_row HB.out.1 G1.out (by simp))
    go_wp2_with fail
    refine (rhasV_any ⟨R, L, pR, cR, pL, cL⟩ b _ _ (HB.out.2.2.keep G1.out)).mono ?_
    simp only
    rw [HE.out]
    rintro e w2 ⟨rfl, hg⟩
    have G2 := Lib.hid (grown_trans G1.out hg)
    clear hg c0 c1
    obtain ⟨c0, c1⟩ := row_cells (kept_row HB.out.1 G2.out (by simp))
    go_wp2_with fail
    refine (rarnd_any ⟨R, L, pR, cR, pL, cL⟩ a _ _ (HB.out.2.2.keep G2.out) HV.out.1 HV.out.2).mono ?_
    rintro e w5 ⟨pn, cn, rfl, hRN0, hcn0, -, hg⟩
    simp only at hRN0 hcn0 ⊢
    have HRN := Lib.hid (And.intro hRN0 hcn0)
    have hcm := Nat.le_trans hcn0.1 hcn0.2
    have G3 := Lib.hid (grown_trans G2.out hg)
    obtain ⟨C, hC⟩ : ∃ C, cls L a = C := ⟨_, rfl⟩
    rw [hC] at HRN HZ2 hcm ⊢
    clear hRN0 hcn0 hg hC c0 c1
    go_wp2_with fail
    refine (rhas4_any C b pn cn _ _ HRN.out.1 hcm).mono ?_
    rw [HZ2.out]
    rintro e w6 ⟨rfl, rfl⟩
    have HG := Lib.hid (grown_trans HB.out.2.1 G3.out)
    go_wp2_with fail
    go_ret
    exact ⟨rfl, HG.out⟩
end Go.Proofs.Ytlefjdglcdopeaa

/- The law ShortestTriangles: its mathematics; the tape's Any. -/
namespace Go.Proofs.Ytlefjdglcdopeaa
open Go.RowKit Go.Maps Bs
set_option maxRecDepth 100000 in
theorem rch_wk {L : List Lk} {x y : Int} : Rch L x y ↔ ∃ n, Wk L x y n := by
  constructor
  · intro h
    refine h (fun v => ∃ n, Wk L x v n) ⟨0, Wk.nil L x⟩ (fun u v ⟨n, hn⟩ hv => ?_)
    rw [← nbD_fst] at hv
    obtain ⟨⟨v', c⟩, hm, rfl⟩ := List.mem_map.1 hv
    exact ⟨n + c, hn.step (nbD_mem.1 hm)⟩
  · rintro ⟨n, hn⟩ P h0 hs
    exact Wk.ind (Q := fun v _ => P v) h0 (fun u m v c _ hu he => hs u v hu (by
      rw [← nbD_fst]
      exact List.mem_map.2 ⟨(v, c), nbD_mem.2 he, rfl⟩)) hn
set_option maxRecDepth 100000 in
theorem conn_dst {R : List Rt} {L : List Lk} {a b : Int} (h : hasV R L a = true) : (dst R L a b).isSome = conn R L a b := by
  obtain ⟨hok, ha⟩ := hasV_iff.1 h
  rw [Bool.eq_iff_iff, conn_iff hok]
  constructor
  · intro hs
    obtain ⟨d, hd⟩ := Option.isSome_iff_exists.1 hs
    exact ⟨List.mem_map.1 ha, rch_wk.2 ⟨d, (dst_some.1 hd).2.1⟩⟩
  · rintro ⟨-, hr⟩
    obtain ⟨n, hn⟩ := rch_wk.1 hr
    obtain ⟨d, hd, -⟩ := exists_D (okT_g hok).pos _ n (Nat.le_refl _) hn
    rw [dst_some.2 ⟨h, hd⟩]
    rfl
set_option maxRecDepth 100000 in
theorem dst_pos {R : List Rt} {L : List Lk} {a b d : Int} (h : dst R L a b = some d) (hab : a ≠ b) : 1 ≤ d := by
  obtain ⟨h1, h2⟩ := dst_some.1 h
  have hp := (okT_g (hasV_iff.1 h1).1).pos
  rcases h2.pred with ⟨e, -⟩ | ⟨u, x, c, hu, he, rfl⟩
  · exact absurd e.symm hab
  · have := hp.edg he
    have := hu.1.ge hp
    omega
set_option maxRecDepth 100000 in
theorem dst_edge {R : List Rt} {L : List Lk} {a b c : Int} (h : hasV R L a = true) (he : edg L a b c) : ∃ d, dst R L a b = some d ∧ d ≤ c := by
  have hp := (okT_g (hasV_iff.1 h).1).pos
  have hw := (Wk.nil L a).step he
  obtain ⟨d, hd, hle⟩ := exists_D hp _ _ (Nat.le_refl _) hw
  exact ⟨d, dst_some.2 ⟨h, hd⟩, by omega⟩
set_option maxRecDepth 100000 in
theorem Wk.trans {L : List Lk} {a b c m n : Int} (h : Wk L a b m) (k : Wk L b c n) : Wk L a c (m + n) :=
  Wk.ind (Q := fun x n => Wk L a x (m + n)) (by rw [Int.add_zero]; exact h) (fun u x v d _ hq he => by rw [← Int.add_assoc]; exact hq.step he) k
set_option maxRecDepth 100000 in
theorem dst_tri {R : List Rt} {L : List Lk} {a b c x y : Int} (h : dst R L a b = some x) (k : dst R L b c = some y) : ∃ d, dst R L a c = some d ∧ d ≤ x + y := by
  obtain ⟨h1, h2⟩ := dst_some.1 h
  obtain ⟨-, k2⟩ := dst_some.1 k
  have hp := (okT_g (hasV_iff.1 h1).1).pos
  obtain ⟨d, hd, hle⟩ := exists_D hp _ _ (Nat.le_refl _) (h2.1.trans k2.1)
  exact ⟨d, dst_some.2 ⟨h1, hd⟩, hle⟩
set_option maxRecDepth 100000 in
set_option maxHeartbeats 3200000 in
theorem sany_any (T : Tg) (q : Nat → Prop) (w : World) (hT : TgOk w q T) (h1 : T.R.length ≤ 1000) :
    Calls Try.prog 29 #[.agg #[.slice T.pR T.R.length T.cR, .slice T.pL T.L.length T.cL]] w fun e w' => TRet (ids T.R) w e w' := by
  obtain ⟨i0, hi, hz0, hz1, hz2⟩ := info_parts info_int
  obtain ⟨R, L, pR, cR, pL, cL⟩ := T
  simp only at h1 ⊢
  obtain ⟨k1, k2⟩ := tone_box w #[.slice pR R.length cR, .slice pL L.length cL] 28
  have HB := Lib.hid (And.intro k1 (And.intro k2 (hT.keep k2)))
  have hm1 := Nat.le_trans hT.cr.1 hT.cr.2
  simp only at hm1
  obtain ⟨X, hX⟩ : ∃ X, ids R = X := ⟨_, rfl⟩
  have HX := Lib.hid hX
  have hXl : X.length = R.length := by rw [← hX]; unfold ids; rw [List.length_map]
  have HXL := Lib.hid hXl
  rw [hX]
  clear k1 k2 hT hX hXl
  go_enter Try.func29, Try.ntmps29
  go_upto_block 0 with fail
  generalize w.alloc _ = w7 at *
  have N0 : Hid (NK w7 (.slice none 0 0) (X.take 0) w7) := Lib.hid ⟨World.ownsRow_nil _ _ _ _, grown_refl _ _⟩
  go_wp2_with fail
  go_loopw [3, 4] (fun vo a wr => ∃ (k : Nat) (va : Value), va = vo ∧ k ≤ R.length ∧ a = .int .i64 (k : Int) ∧ Hid (NK w7 va (X.take k) wr)) (fun _ a _ => R.length - (RowKit.intOf a).toNat)
  case atStart => exact ⟨0, _, rfl, Nat.zero_le _, rfl, N0⟩
  case round =>
    obtain ⟨k, va, rfl, hk, rfl, NN⟩ := hrel
    clear N0
    obtain ⟨c0, c1⟩ := row_cells (kept_row HB.out.1 NN.out.gr (by simp))
    by_cases hlt : k < R.length
    · obtain ⟨-, b, off, rfl, -, hc⟩ := rdr_cells (R := R) (HB.out.2.2.keep NN.out.gr).r (by omega)
      obtain ⟨m, hm⟩ : ∃ m, R[k]? = some m := ⟨_, List.getElem?_eq_getElem hlt⟩
      obtain ⟨d0, d1⟩ := hc k m hm
      have hsn : X.take (k + 1) = X.take k ++ [m.id] := by
        rw [List.take_add_one, ← HX.out]
        unfold ids
        rw [List.getElem?_map, hm]
        rfl
      have HSN := Lib.hid hsn
      have hown := NN.out.own
      have hsz := NN.out.gr.size
      obtain ⟨A, hA⟩ : ∃ A, X.take k = A := ⟨_, rfl⟩
      have hAl : A.length ≤ 1000 := by rw [← hA, List.length_take]; omega
      rw [hA] at NN HSN hown
      clear hc hm hsn hA
      go_wp2_with (at_builtin; refine hold_on ?_)
      refine Lib.hid ?_
      refine wpList_append_lies _ rfl _ _ 22 rfl w7.heap.size 3 i0 (.int .i64 0) 1 8 Try.underlying22 hi hz0 hz1 hz2 rfl (by decide) _ _ _ rfl (hown.alloc _) ⟨wr.heap.size, 0, none⟩ 1 1 [.int .i64 m.id] rfl rfl ?c1 ?c2 (by decide) ?c3 ?c4 ?c5 _ rfl ?_
      try (case c1 => exact cell_one _ _ _)
      case c2 => (intro u hu; simp at hu; rcases hu with rfl; rfl)
      case c3 => first | omega | (unfold maxLen; omega)
      case c4 => omega
      case c5 => first | omega | (simp; omega)
      intro gq capq w8 hown8 hg8 hat8 hlt8
      obtain ⟨vq, hvq⟩ : ∃ vq, Value.slice (some ⟨gq, 0, none⟩) (A.length + 1) capq = vq := ⟨_, rfl⟩
      rw [hvq] at hown8 ⊢
      obtain ⟨n1, -⟩ := NN.out.more (x := m.id) (grown_refl _ _) hown8 hg8
      have N1 : Hid (NK w7 vq (X.take (k + 1)) w8) := Lib.hid (by rw [HSN.out]; exact n1)
      clear hvq hat8 hlt8 hg8 hown n1 hown8
      go_wp2_with fail
      exact ⟨⟨k + 1, _, rfl, by omega, congrArg _ (by omega), N1⟩, by simp only [RowKit.intOf]; omega⟩
    · obtain rfl : k = R.length := by omega
      have hN := NN.out
      rw [List.take_of_length_le (by rw [HXL.out]; exact Nat.le_refl _)] at hN
      have H9 := Lib.hid (hN.base HB.out.2.1).ret
      clear hN NN
      go_wp2_with fail
      go_ret
      obtain ⟨p, c, rfl, h3⟩ := H9.out
      exact ⟨p, c, rfl, h3⟩
end Go.Proofs.Ytlefjdglcdopeaa

/- The reference's tables of costs and of numbers: the mathematics. -/
namespace Go.Proofs.Ytlefjdglcdopeaa
open Go.RowKit Bs
/-- The reference's costs to z after k rounds. -/
def toK (L : List Lk) (z : Int) (k : Nat) : Int → Int := passes (flipL L) k (startF z)
/-- After k rounds and j links. -/
def toJ (L : List Lk) (z : Int) (k j : Nat) : Int → Int := ((flipL L).take j).foldl rlx (toK L z k)
set_option maxRecDepth 100000 in
theorem toJ_zero (L : List Lk) (z : Int) (k : Nat) : toJ L z k 0 = toK L z k := rfl
set_option maxRecDepth 100000 in
theorem toJ_end (L : List Lk) (z : Int) (k : Nat) : toJ L z k L.length = toK L z (k + 1) := by
  unfold toJ
  rw [List.take_of_length_le (by unfold flipL; rw [List.length_map]; exact Nat.le_refl _)]
  rfl
set_option maxRecDepth 100000 in
theorem toJ_step {L : List Lk} {z : Int} {k j : Nat} {l : Lk} (h : L[j]? = some l) : toJ L z k (j + 1) = rlx1 (rlx1 (toJ L z k j) l.b l.a l.ca) l.a l.b l.cb := by
  unfold toJ
  have h1 : (flipL L)[j]? = some ⟨l.a, l.b, l.cb, l.ca, l.cp⟩ := by
    unfold flipL
    rw [List.getElem?_map, h]
    rfl
  rw [List.take_add_one, h1, List.foldl_append]
  rfl
set_option maxRecDepth 100000 in
theorem snd_toJ (L : List Lk) (z : Int) (k j : Nat) : Snd (flipL L) z (toJ L z k j) :=
  (fold_rlx ((flipL L).take j) (toK L z k) (fun _ h => List.mem_of_mem_take h) (snd_passes (flipL L) z k)).1
set_option maxRecDepth 100000 in
theorem Snd.bd {L : List Lk} (hp : Pos L) {z : Int} {D : Int → Int} (h : Snd L z D) (v : Int) : 0 ≤ D v ∧ D v ≤ farN := by
  rcases h v with h1 | h1
  · rw [h1]; decide
  · exact ⟨h1.2.ge hp, by omega⟩
set_option maxRecDepth 100000 in
theorem toJ_bd {R : List Rt} {L : List Lk} (h : okT R L = true) (z : Int) (k j : Nat) (v : Int) : 0 ≤ toJ L z k j v ∧ toJ L z k j v ≤ farN := (snd_toJ L z k j).bd (okT_g h).pos.flip v
/-- A row of numbers, one for each of V. -/
def clV (V : List Int) (D : Int → Int) : List Value := V.map fun v => tv (D v)
set_option maxRecDepth 100000 in
theorem clV_at {V : List Int} {D : Int → Int} {i : Nat} {v : Int} (h : V[i]? = some v) : (clV V D)[i]? = some (tv (D v)) := by
  unfold clV
  rw [List.getElem?_map, h]
  rfl
set_option maxRecDepth 100000 in
theorem clV_len (V : List Int) (D : Int → Int) : (clV V D).length = V.length := by unfold clV; rw [List.length_map]
set_option maxRecDepth 100000 in
theorem nodup_idx : ∀ (V : List Int), V.Nodup → ∀ (i j : Nat) (hi : i < V.length) (hj : j < V.length), V[i] = V[j] → i = j
  | [], _, _, _, hi, _, _ => absurd hi (Nat.not_lt_zero _)
  | a :: t, hn, i, j, hi, hj, e => by
    obtain ⟨h1, h2⟩ := List.nodup_cons.1 hn
    cases i with
    | zero =>
      cases j with
      | zero => rfl
      | succ j =>
        rw [List.getElem_cons_zero, List.getElem_cons_succ] at e
        exact absurd (by rw [e]; exact List.getElem_mem _) h1
    | succ i =>
      cases j with
      | zero =>
        rw [List.getElem_cons_zero, List.getElem_cons_succ] at e
        exact absurd (by rw [← e]; exact List.getElem_mem _) h1
      | succ j =>
        rw [List.getElem_cons_succ, List.getElem_cons_succ] at e
        rw [nodup_idx t h2 i j (by simpa using hi) (by simpa using hj) e]
set_option maxRecDepth 100000 in
theorem nodup_at {V : List Int} (hn : V.Nodup) {i j : Nat} {v : Int} (hi : V[i]? = some v) (hj : V[j]? = some v) : i = j := by
  obtain ⟨h1, e1⟩ := List.getElem?_eq_some_iff.1 hi
  obtain ⟨h2, e2⟩ := List.getElem?_eq_some_iff.1 hj
  exact nodup_idx V hn i j h1 h2 (e1.trans e2.symm)
set_option maxRecDepth 100000 in
theorem clV_set {V : List Int} (hn : V.Nodup) {i : Nat} {v : Int} (h : V[i]? = some v) (D : Int → Int) (x : Int) : (clV V D).set i (tv x) = clV V (updF D v x) := by
  apply List.ext_getElem?
  intro j
  rw [List.getElem?_set]
  by_cases hij : i = j
  · subst hij
    rw [if_pos rfl, clV_at h]
    have h1 : i < (clV V D).length := by rw [clV_len]; exact (List.getElem?_eq_some_iff.1 h).1
    rw [if_pos h1]
    unfold updF
    rw [if_pos rfl]
  · rw [if_neg hij]
    unfold clV
    rw [List.getElem?_map, List.getElem?_map]
    cases hj : V[j]? with
    | none => rfl
    | some u =>
      have hne : u ≠ v := fun e => hij (nodup_at hn h (by rw [hj, e]))
      show some (tv (D u)) = some (tv (updF D v x u))
      rw [show updF D v x u = D u by unfold updF; rw [if_neg hne]]
set_option maxRecDepth 100000 in
theorem updF_self (D : Int → Int) (v : Int) : updF D v (D v) = D := by
  funext u
  unfold updF
  by_cases h : u = v
  · rw [if_pos h, h]
  · rw [if_neg h]
/-- What At gives. -/
def atV (R : List Rt) (D : Int → Int) (r : Int) : Int := if r ∈ ids R then D r else farN
set_option maxRecDepth 100000 in
theorem at_dst {R : List Rt} {L : List Lk} {z : Int} (hz : hasV R L z = true) (r : Int) : atV R (toK L z R.length) r = (dst R L r z).getD farN := by
  obtain ⟨hok, hzi⟩ := hasV_iff.1 hz
  have hg := okT_g hok
  have hlen : (ids R).length = R.length := by unfold ids; rw [List.length_map]
  have key := passes_D hg.pos.flip hg.ends.flip (C := 1000) (fun m hm => by
    obtain ⟨l, hl, rfl⟩ := List.mem_map.1 hm
    exact ⟨(hg.le l hl).2, (hg.le l hl).1⟩) (by decide) (by have := hg.len.1; unfold farN; omega) (s := z)
  rw [hlen] at key
  unfold atV
  by_cases hr : r ∈ ids R
  · rw [if_pos hr]
    cases hd : dst R L r z with
    | some d =>
      exact ((key r d).2 (IsD.flip.2 (dst_some.1 hd).2)).1
    | none =>
      rcases snd_passes (flipL L) z R.length r with h1 | h1
      · exact h1
      · have h2 := (key r _).1 ⟨rfl, h1.1⟩
        rw [dst_some.2 ⟨hasV_iff.2 ⟨hok, hr⟩, IsD.flip.1 h2⟩] at hd
        cases hd
  · rw [if_neg hr]
    cases hd : dst R L r z with
    | some d => exact absurd (dst_both hd).2.1 hr
    | none => rfl
/-- Does the way over u cost x? -/
def okS (R : List Rt) (L : List Lk) (D : Int → Int) (x r u : Int) : Bool := decide (atV R D u < farN) && decide ((priceV L r u).1 + atV R D u = x)
/-- The reference's Steps. -/
def stV (R : List Rt) (L : List Lk) (D : Int → Int) (r : Int) : List Int := if atV R D r = farN ∨ atV R D r = 0 then [] else (nearR R L r).filter (okS R L D (atV R D r) r)
set_option maxRecDepth 100000 in
theorem filter_fst {P : Int × Int → Bool} {Q : Int → Bool} : ∀ (M : List (Int × Int)), (∀ n ∈ M, P n = Q n.1) → (M.filter P).map (·.1) = (M.map (·.1)).filter Q
  | [], _ => rfl
  | n :: t, h => by
    have ih := filter_fst t (fun m hm => h m (by simp [hm]))
    rw [List.map_cons, List.filter_cons, List.filter_cons, ← h n (by simp)]
    by_cases hp : P n = true
    · rw [if_pos hp, if_pos hp, List.map_cons, ih]
    · rw [if_neg hp, if_neg hp, ih]
set_option maxRecDepth 100000 in
theorem stV_nxt {R : List Rt} {L : List Lk} {z : Int} (hz : hasV R L z = true) (r : Int) : stV R L (toK L z R.length) r = nxt R L r z := by
  obtain ⟨hok, hzi⟩ := hasV_iff.1 hz
  have hg := okT_g hok
  have hf0 : ∀ v x, dst R L v z = some x → 0 ≤ x := fun v x h => (dst_bd h).1.1
  unfold stV
  rw [at_dst hz r]
  cases hd : dst R L r z with
  | none =>
    rw [if_pos (.inl rfl)]
    exact (next_none hg.pos (f := fun x => dst R L x z) hf0 hd).symm
  | some d =>
    have hdb := (dst_bd hd).1
    simp only [Option.getD_some]
    by_cases h0 : d = 0
    · rw [if_pos (.inr h0)]
      rw [h0] at hd
      exact (next_end hg.pos (f := fun x => dst R L x z) hf0 hd).symm
    · rw [if_neg (by rintro (h | h); · unfold farN at h; omega
                     · exact h0 h)]
      unfold nxt nextV
      rw [filter_fst (Q := okS R L (toK L z R.length) d r), nbD_fst, near_eq (okT_all hok)]
      rintro ⟨u, c⟩ hm
      have he := nbD_mem.1 hm
      show (match dst R L u z with
        | some x => decide (c + x = (dst R L r z).getD 0)
        | none => false) = okS R L (toK L z R.length) d r u
      rw [show (dst R L r z).getD 0 = d by rw [hd]; rfl]
      unfold okS
      rw [at_dst hz u, price_edg hok he]
      cases hu : dst R L u z with
      | none =>
        simp only [Option.getD_none]
        rw [show decide (farN < farN) = false from rfl]
        rfl
      | some y =>
        have hy := (dst_bd hu).1
        simp only [Option.getD_some]
        rw [show decide (y < farN) = true from decide_eq_true (by unfold farN; omega)]
        rfl
/-! Numbers of paths. -/
set_option maxRecDepth 100000 in
theorem rkN_lt {R : List Rt} {L : List Lk} {z : Int} (hz : hasV R L z = true) (r : Int) : rkN R L z r < (ids R).length := by
  obtain ⟨hok, hzi⟩ := hasV_iff.1 hz
  by_cases hr : r ∈ ids R
  · have := rkN_self (L := L) (z := z) hok hr
    omega
  · have h0 : rkN R L z r = 0 := by
      unfold rkN
      rw [List.filter_eq_nil_iff.2]
      · rfl
      · intro v _ hv
        obtain ⟨x, d, -, h2, -⟩ := nearB_iff.1 hv
        exact hr (dst_both h2).2.1
    have := List.length_pos_of_mem hzi
    omega
set_option maxRecDepth 100000 in
theorem itC_cnt {R : List Rt} {L : List Lk} {z : Int} (hz : hasV R L z = true) (r : Int) : itC (fun r => nxt R L r z) z R.length r = cnt R L z r := by
  have hlen : (ids R).length = R.length := by unfold ids; rw [List.length_map]
  refine cnt_uniq (m := rkN R L z) (next := fun r => nxt R L r z) (z := z) (fun r u hu => rkN_step hu) (fun r => ?_) (fun r => cnt_rule R L z r) r
  exact itC_fix (m := rkN R L z) (fun r u hu => rkN_step hu) (fun r => by rw [← hlen]; exact rkN_lt hz r) r
set_option maxRecDepth 100000 in
theorem cnt_pV {R : List Rt} {L : List Lk} {a z : Int} (hz : hasV R L z = true) : cnt R L z a = pV R L a z := by
  unfold pV
  cases hd : dst R L a z with
  | some d => rfl
  | none =>
    have hne : a ≠ z := fun e => by rw [e, dst_self hz] at hd; cases hd
    have hn : nxt R L a z = [] := next_none (okT_g (hasV_iff.1 hz).1).pos (f := fun x => dst R L x z) (fun v x h => (dst_bd h).1.1) hd
    rw [if_neg (by simp), cnt_rule]
    unfold cntS
    rw [if_neg hne]
    simp only
    rw [hn]
    rfl
set_option maxRecDepth 100000 in
theorem pV_no {R : List Rt} {L : List Lk} {a z : Int} (h : hasV R L a = false ∨ hasV R L z = false) : pV R L a z = 0 := by
  unfold pV
  cases hd : dst R L a z with
  | none => rfl
  | some d =>
    obtain ⟨h1, h2, h3⟩ := dst_both hd
    rcases h with h | h
    · rw [hasV_iff.2 ⟨h1, h2⟩] at h; cases h
    · rw [hasV_iff.2 ⟨h1, h3⟩] at h; cases h
set_option maxRecDepth 100000 in
theorem nxt_no {R : List Rt} {L : List Lk} {a z : Int} (h : hasV R L a = false ∨ hasV R L z = false) : nxt R L a z = [] := by
  cases hn : nxt R L a z with
  | nil => rfl
  | cons u t =>
    obtain ⟨d, x, c, hd, -⟩ := nxt_step (R := R) (L := L) (r := a) (z := z) (u := u) (by rw [hn]; simp)
    obtain ⟨h1, h2, h3⟩ := dst_both hd
    rcases h with h | h
    · rw [hasV_iff.2 ⟨h1, h2⟩] at h; cases h
    · rw [hasV_iff.2 ⟨h1, h3⟩] at h; cases h
set_option maxRecDepth 100000 in
theorem rtV_no {R : List Rt} {L : List Lk} {a z : Int} (h : hasV R L a = false ∨ hasV R L z = false) : rtV R L z a = [] := rtV_stop (nxt_no h)
/-! Uses and Avoids. -/
/-- The reference's Uses. -/
noncomputable def ruV (R : List Rt) (L : List Lk) (a b h k : Int) : Bool := (costV R L h k).2 && ((dst R L a b).isSome && ((dst R L a h).isSome && ((dst R L k b).isSome && decide ((dst R L a h).getD 0 + (costV R L h k).1 + (dst R L k b).getD 0 = (dst R L a b).getD 0))))
set_option maxRecDepth 100000 in
theorem ru_us (R : List Rt) (L : List Lk) (a b h k : Int) : ruV R L a b h k = usV R L a b h k := by
  rw [Bool.eq_iff_iff]
  unfold ruV usV psV costV
  simp only [Bool.and_eq_true, decide_eq_true_eq]
  constructor
  · rintro ⟨h1, h2, h3, h4, h5⟩
    cases hok : okT R L with
    | false => rw [hok] at h1; simp at h1
    | true =>
      rw [hok] at h1 h5
      simp only [if_true] at h1 h5
      obtain ⟨d, hd⟩ := Option.isSome_iff_exists.1 h2
      obtain ⟨x, hx⟩ := Option.isSome_iff_exists.1 h3
      obtain ⟨y, hy⟩ := Option.isSome_iff_exists.1 h4
      rw [hd, hx, hy] at h5
      simp only [Option.getD_some] at h5
      have he := price_ed2 hok (u := h) (v := k) (c := (priceV L h k).1) (Prod.ext rfl h1)
      have hh := (dst_both hx).2.2
      obtain ⟨e, hde, hle⟩ := dst_edge (hasV_iff.2 ⟨hok, hh⟩) he
      obtain ⟨f, hf, hfle⟩ := dst_tri hde hy
      obtain ⟨g, hg, hgle⟩ := dst_tri hx hf
      rw [hd] at hg
      obtain rfl := Option.some.inj hg
      rw [hx, hf, hd]
      simp only [Option.getD_some, decide_eq_true_eq]
      refine ⟨by omega, ?_⟩
      rw [hasI_mq, nxt_mem]
      exact ⟨_, y, he, hy, by rw [hf]; simp only [Option.getD_some]; omega⟩
  · rintro ⟨h1, h2⟩
    rw [hasI_mq, nxt_mem] at h2
    obtain ⟨c, y, he, hy, hcy⟩ := h2
    cases hx : dst R L a h with
    | none => rw [hx] at h1; cases h1
    | some x =>
      cases hf : dst R L h b with
      | none => rw [hx, hf] at h1; cases h1
      | some f =>
        rw [hx, hf] at h1
        rw [hf] at hcy
        simp only [Option.getD_some, decide_eq_true_eq] at h1 hcy
        have hok := (dst_both hx).1
        obtain ⟨g, hg, hgle⟩ := dst_tri hx hf
        rw [hg] at h1 ⊢
        simp only [Option.getD_some] at h1 ⊢
        rw [hok, hy, price_edg hok he]
        simp only [Option.isSome_some, Option.getD_some, if_true, true_and]
        omega
/-- The reference's Avoids. -/
noncomputable def raV (R : List Rt) (L : List Lk) (a b r : Int) : Bool := (dst R L a b).isSome && (!(dst R L a r).isSome || (!(dst R L r b).isSome || !decide ((dst R L a r).getD 0 + (dst R L r b).getD 0 = (dst R L a b).getD 0)))
set_option maxRecDepth 100000 in
theorem ra_av (R : List Rt) (L : List Lk) (a b r : Int) : raV R L a b r = avV R L a b r := by
  unfold raV avV psV
  cases hx : dst R L a r with
  | none => simp
  | some x =>
    cases hy : dst R L r b with
    | none => simp
    | some y => simp
end Go.Proofs.Ytlefjdglcdopeaa

/- shortest.Unique. -/
namespace Go.Proofs.Ytlefjdglcdopeaa
open Go.RowKit Go.Maps Bs
/-- All paths to z are unique. -/
noncomputable def unO (R : List Rt) (L : List Lk) (z : Int) : Bool := (ids R).all fun a => decide (pV R L a z ≤ 1)
noncomputable def unV (R : List Rt) (L : List Lk) : Bool := okT R L && (ids R).all (unO R L)
set_option maxRecDepth 100000 in
theorem unO_iff {R : List Rt} {L : List Lk} {z : Int} : unO R L z = true ↔ ∀ x c, cntF R L z x = some c → c ≤ 1 := by
  unfold unO
  rw [List.all_eq_true]
  constructor
  · intro h x c hc
    unfold cntF at hc
    cases hd : dst R L x z with
    | none => rw [hd] at hc; simp at hc
    | some d =>
      rw [hd] at hc
      have hc2 : cnt R L z x = c := by simpa using hc
      have h1 := of_decide_eq_true (h x (dst_both hd).2.1)
      unfold pV at h1
      rw [hd] at h1
      simp only [Option.isSome_some, if_true] at h1
      omega
  · intro h a _
    refine decide_eq_true ?_
    unfold pV
    cases hd : dst R L a z with
    | none => simp
    | some d =>
      simp only [Option.isSome_some, if_true]
      exact h a _ (by unfold cntF; rw [hd]; rfl)
set_option maxRecDepth 100000 in
theorem kZ_same {x y : Int} : (kZ y).sameKey (kZ x) = decide (y = x) := by
  by_cases h : y = x
  · subst h
    rw [decide_eq_true rfl]
    unfold kZ
    simp [Lit.sameKey]
  · rw [decide_eq_false h]
    exact sameKey_ne (kZ_ne h)
/-- What the loops keep. -/
structure UK (w : World) (G : Nat) (T : Tg) (wr : World) : Prop where
  gb : wr.heap[G]? = some (.cells #[.slice T.pR T.R.length T.cR, .slice T.pL T.L.length T.cL] 28 (0, 0))
  t : TgOk wr (· < w.heap.size) T
  gr : w.grownBy wr none
  lt : G = w.heap.size
set_option maxRecDepth 100000 in
theorem UK.keep {w wr w' : World} {G : Nat} {T : Tg} (h : UK w G T wr) (g : wr.grownBy w' none) : UK w G T w' := ⟨kept_row h.gb g (by simp), h.t.keep g, grown_trans h.gr g, h.lt⟩
set_option maxRecDepth 100000 in
theorem UK.step {w wr w' : World} {G r : Nat} {T : Tg} (h : UK w G T wr) (g : wr.grownBy w' (some r)) (hr : G < r) : UK w G T w' :=
  ⟨kept_row h.gb g (fun e => by have := Option.some.inj e; omega), h.t.grown g (fun b hb e => by have := Option.some.inj e; have := h.lt; omega), grown_new h.gr g (by have := h.lt; omega), h.lt⟩
set_option maxRecDepth 100000 in
set_option maxHeartbeats 6400000 in
theorem tun_any (T : Tg) (q : Nat → Prop) (w : World) (hT : TgOk w q T) (h1 : T.R.length ≤ 1000) (h2 : T.L.length ≤ 1000) (hp : T.pL = none → T.cL = 0) :
    Calls Try.prog 22 #[.agg #[.slice T.pR T.R.length T.cR, .slice T.pL T.L.length T.cL]] w fun e w' => e = .returned (.bool (unV T.R T.L)) ∧ w.grownBy w' none := by
  obtain ⟨R, L, pR, cR, pL, cL⟩ := T
  simp only at h1 h2 hp ⊢
  obtain ⟨k1, k2⟩ := tone_box w #[.slice pR R.length cR, .slice pL L.length cL] 28
  obtain ⟨G, hG⟩ : ∃ G, w.heap.size = G := ⟨_, rfl⟩
  have HB : Hid (UK w G ⟨R, L, pR, cR, pL, cL⟩ _) := Lib.hid ⟨by rw [← hG]; exact k1, hT.old.keep k2, k2, hG.symm⟩
  clear k1 k2 hT
  obtain ⟨X, hX⟩ : ∃ X, unV R L = X := ⟨_, rfl⟩
  have HX := Lib.hid hX
  rw [hX]
  clear hX
  go_enter Try.func22, Try.ntmps22
  go_upto_region 1 with fail
  generalize w.alloc _ = wb at *
  (try rw [hG])
  have HG := Lib.hid hG
  clear hG
  obtain ⟨c0, c1⟩ := row_cells HB.out.gb
  obtain ⟨k, hk⟩ : ∃ k, chk R L = k := ⟨_, rfl⟩
  have HK := Lib.hid hk
  clear hk
  go_wp2_with fail
  refine (tcheck_any ⟨R, L, pR, cR, pL, cL⟩ _ wb HB.out.t).mono ?_
  rintro e w1 ⟨rfl, hg⟩
  simp only
  rw [HK.out]
  have HB1 := Lib.hid (HB.out.keep hg)
  clear hg c0 c1 HB
  obtain ⟨c0, c1⟩ := row_cells HB1.out.gb
  by_cases hk0 : k = 0
  rotate_left 1
  · have hk1 : (k != 0) = true := by simpa using hk0
    obtain rfl : X = false := by
      rw [← HX.out]; unfold unV okT; rw [HK.out]
      have : (k == 0) = false := by simpa using hk0
      rw [this]; rfl
    go_wp2_with fail
    go_ret
    exact ⟨rfl, HB1.out.gr⟩
  · subst hk0
    have hok : okT R L = true := by unfold okT; rw [HK.out]; rfl
    have HX2 : Hid ((ids R).all (unO R L) = X) := Lib.hid (by rw [← HX.out]; unfold unV; rw [hok]; rfl)
    clear hok
    have A0 : Hid (((ids R).take 0).all (unO R L) = true) := Lib.hid rfl
    go_wp2_with fail
    go_loopw [13] (fun a wr => ∃ i : Nat, i ≤ R.length ∧ a = .int .i64 (i : Int) ∧ Hid (UK w G ⟨R, L, pR, cR, pL, cL⟩ wr) ∧ Hid (((ids R).take i).all (unO R L) = true)) (fun a _ => R.length - (RowKit.intOf a).toNat)
    case atStart => exact ⟨0, Nat.zero_le _, rfl, HB1, A0⟩
    case round =>
    obtain ⟨w2, rfl⟩ : ∃ w2, w2 = wr := ⟨_, rfl⟩
    obtain ⟨i, hi, rfl, U, HA⟩ := hrel
    clear HB1 A0 c0 c1
    by_cases hlt : i < R.length
    · obtain ⟨y, hy⟩ : ∃ y, R[i]? = some y := ⟨_, List.getElem?_eq_getElem hlt⟩
      obtain ⟨-, bR, oR, rfl, -, hc⟩ := rdr_cells (R := R) U.out.t.r (by omega)
      obtain ⟨a0, a1⟩ := hc i y hy
      have hyi : (ids R)[i]? = some y.id := by unfold ids; rw [List.getElem?_map, hy]; rfl
      have HY := Lib.hid hyi
      have HBX := Lib.hid (heap_alloc_new w2 (.cells #[.int .i64 y.id, .bool y.cap] 63))
      have HGA := Lib.hid (World.grownBy_alloc w2 (.cells #[.int .i64 y.id, .bool y.cap] 63) none)
      clear hc hy hyi
      go_upto_region 6 with fail
      clear a0 a1
      have hgb : G < w2.heap.size := by
        rcases Nat.lt_or_ge G w2.heap.size with h | h
        · exact h
        · have := U.out.gb; rw [Array.getElem?_eq_none h] at this; cases this
      obtain ⟨gy, hgy⟩ : ∃ gy, w2.heap.size = gy := ⟨_, rfl⟩
      generalize w2.alloc _ = w3 at *
      have U3 := Lib.hid (U.out.keep HGA.out)
      (try rw [hgy] at HBX)
      (try rw [hgy] at hgb)
      (try rw [hgy])
      obtain ⟨c0, c1⟩ := row_cells U3.out.gb
      obtain ⟨d0, d1⟩ := row_cells HBX.out
      clear hgy HGA U
      go_wp2_with fail
      refine (tpt_any ⟨R, L, some ⟨bR, oR, none⟩, cR, pL, cL⟩ y.id _ w3 U3.out.t h1 h2 hp).mono ?_
      rintro e w4 ⟨b, n, rfl, hb, hn, ⟨D, hown, hmf⟩, hg⟩
      simp only at hmf
      have U4 := Lib.hid (U3.out.keep hg)
      have HMF := Lib.hid hmf
      have HFB : Hid (∀ x c, cntF R L y.id x = some c → 0 ≤ c) := Lib.hid (fun x c h => by
        unfold cntF at h
        split at h
        · rw [← Option.some.inj h]; exact (cnt_bd R L y.id x).1
        · cases h)
      obtain ⟨f, hf⟩ : ∃ f, cntF R L y.id = f := ⟨_, rfl⟩
      have HF : Hid (unO R L y.id = true ↔ ∀ x c, f x = some c → c ≤ 1) := Lib.hid (by rw [← hf]; exact unO_iff)
      rw [hf] at HMF HFB
      clear hg hb hmf hf U3 c0 c1 d0 d1 HBX
      go_wp2_with (first
        | (at_range; refine wpList_range_own _ rfl _ 69 rfl 3 3 lawZ Try.underlying69 _ b n _ rfl hown ?_; intro w5 hrg0 hg0 hs0)
        | fail)
      go_frame
      have hr4 : G < w4.heap.size := by
        rcases Nat.lt_or_ge G w4.heap.size with h | h
        · exact h
        · have := U4.out.gb; rw [Array.getElem?_eq_none h] at this; cases this
      obtain ⟨r, hr⟩ : ∃ r, w4.heap.size = r := ⟨_, rfl⟩
      (try rw [hr] at hrg0)
      (try rw [hr] at hr4)
      (try rw [hr])
      have U5 := Lib.hid (U4.out.keep hg0)
      have HR0 := Lib.hid hrg0
      have HL0 : Hid (∀ x c, f x = some c → Maps.has D (kZ x) = false → c ≤ 1) := Lib.hid (fun x c hx hh => by
        rw [HMF.out.hs, hx] at hh; cases hh)
      clear hrg0 hg0 hs0 hown U4 hr
      go_loopw [6] (fun _ wr => ∃ (left : Lit → Bool) (cn : Nat), Hid (wr.ranges Try.prog 3 (plainElem Try.prog 3) b r n D left cn) ∧ Hid (UK w G ⟨R, L, some ⟨bR, oR, none⟩, cR, pL, cL⟩ wr) ∧ Hid (∀ x c, f x = some c → left (kZ x) = false → c ≤ 1)) (fun _ wr => wr.rangeLeft b r)
      case atStart => exact ⟨_, _, HR0, U5, HL0⟩
      case round =>
        obtain ⟨w6, rfl⟩ : ∃ w6, w6 = wr := ⟨_, rfl⟩
        obtain ⟨left, cn, HR, U6, HL⟩ := hrel
        clear HR0 U5 HL0
        have hrg := HR.out
        go_wp2_with (first
          | (at_next; refine wpList_next_ranges_ii _ rfl _ rfl 3 3 .i64 .i64 lawZ Try.underlying3 Try.underlying3 b r n _ _ _ rfl hrg ?_ ?_)
          | fail)
        · intro hc0 hl0
          have HA2 : Hid (((ids R).take (i + 1)).all (unO R L) = true) := Lib.hid (by
            rw [List.take_add_one, HY.out, List.all_append, HA.out]
            simp only [Option.toList_some, List.all_cons, List.all_nil, Bool.and_true, Bool.true_and]
            exact HF.out.2 (fun x c hx => HL.out x c hx (hl0 _)))
          clear hl0 hc0 hrg HR
          go_wp2_with fail
          exact ⟨⟨i + 1, by omega, congrArg _ (by omega), U6, HA2⟩, by simp only [RowKit.intOf]; omega⟩
        · intro x c w7 cnt1 hwx hwc hlx hat hrg1 hlt1 hg1 hs1 hen
          have hcx : c = (f x).getD 0 := by
            have h3 := HMF.out.at_ x
            unfold kZ at h3
            rw [hat] at h3
            injection h3 with h3
            injection h3 with _ h3
          have U7 := Lib.hid (U6.out.step hg1 hr4)
          have HC := Lib.hid hcx
          clear hcx
          by_cases hc1 : 1 < c
          · obtain rfl : X = false := by
              rw [← HX2.out, List.all_eq_false]
              refine ⟨y.id, List.mem_of_getElem? HY.out, fun hu => ?_⟩
              cases hfx : f x with
              | none => have := HC.out; rw [hfx] at this; simp at this; omega
              | some c' =>
                have h5 := HF.out.1 hu x c' hfx
                have := HC.out
                rw [hfx] at this
                simp at this
                omega
            clear hat hrg1 hg1 hs1 hlx hrg HR
            go_wp2_with fail
            go_ret
            exact ⟨rfl, U7.out.gr⟩
          · have HL7 : Hid (∀ x' c', f x' = some c' → (left (kZ x') && !(kZ x').sameKey (kZ x)) = false → c' ≤ 1) := Lib.hid (fun x' c' hx' hl => by
              cases hll : left (kZ x') with
              | false => exact HL.out x' c' hx' hll
              | true =>
                rw [hll, kZ_same] at hl
                have he : x' = x := by simpa using hl
                subst he
                have := HC.out
                rw [hx'] at this
                simp at this
                omega)
            have hmeas : w7.rangeLeft b r < w6.rangeLeft b r := by rw [hrg1.left_eq, hrg.left_eq]; exact hlt1
            have HR7 := Lib.hid hrg1
            clear hat hg1 hs1 hlx hrg hrg1 HR
            go_wp2_with fail
            exact ⟨⟨_, _, HR7, U7, HL7⟩, hmeas⟩
    · obtain rfl : i = R.length := by omega
      obtain rfl : X = true := by
        rw [← HX2.out]
        have := HA.out
        rwa [List.take_of_length_le (by unfold ids; rw [List.length_map]; exact Nat.le_refl _)] at this
      obtain ⟨c0, c1⟩ := row_cells U.out.gb
      go_wp2_with fail
      go_ret
      exact ⟨rfl, U.out.gr⟩
end Go.Proofs.Ytlefjdglcdopeaa

/- The reference's place and At; a row of costs of the call's own. -/
namespace Go.Proofs.Ytlefjdglcdopeaa
open Go.RowKit Bs
set_option maxRecDepth 100000 in
theorem ids_len (R : List Rt) : (ids R).length = R.length := by unfold ids; rw [List.length_map]
set_option maxRecDepth 100000 in
theorem ids_at {R : List Rt} {k : Nat} {y : Rt} (h : R[k]? = some y) : (ids R)[k]? = some y.id := by unfold ids; rw [List.getElem?_map, h]; rfl
set_option maxRecDepth 100000 in
theorem ids_nodup {R : List Rt} {L : List Lk} (h : okT R L = true) : (ids R).Nodup := nodup_of_lt (ids_pair h)
set_option maxRecDepth 100000 in
set_option maxHeartbeats 1600000 in
theorem rplace_any (T : Tg) (x : Int) (i : Nat) (q : Nat → Prop) (w : World) (hT : TgOk w q T) (hi : (ids T.R)[i]? = some x) (hn : (ids T.R).Nodup) :
    Calls Try.prog 63 #[.agg #[.slice T.pR T.R.length T.cR, .slice T.pL T.L.length T.cL], .int .i64 x] w fun e w' => e = .returned (.int .i64 (i : Int)) ∧ w.grownBy w' none := by
  have C0 := Lib.hid (CK.start hT)
  have hmR := Nat.le_trans hT.cr.1 hT.cr.2
  clear hT
  obtain ⟨R, L, pR, cR, pL, cL⟩ := T
  simp only at hmR C0 hi hn ⊢
  have HI := Lib.hid (And.intro hi hn)
  have hil : i < R.length := by have := (List.getElem?_eq_some_iff.1 hi).1; rwa [ids_len] at this
  clear hi hn
  go_enter Try.func63, Try.ntmps63
  go_upto_region 1 with fail
  generalize w.alloc _ = wa at *
  go_wp2_with fail
  go_loopw [5] (fun a wr => ∃ k : Nat, k ≤ i ∧ a = .int .i64 (k : Int) ∧ Hid (CK w ⟨R, L, pR, cR, pL, cL⟩ wr)) (fun a _ => R.length - (RowKit.intOf a).toNat)
  case atStart => exact ⟨0, Nat.zero_le _, rfl, C0⟩
  case round =>
    obtain ⟨k, hk, rfl, C⟩ := hrel
    clear C0
    obtain ⟨c0, c1⟩ := row_cells C.out.box
    have hlt : k < R.length := by omega
    obtain ⟨b, off, hp⟩ := ck_pr C.out (show 0 < R.length by omega)
    change pR = _ at hp
    subst hp
    obtain ⟨y, hy⟩ : ∃ y, R[k]? = some y := ⟨_, List.getElem?_eq_getElem hlt⟩
    obtain ⟨a0, a1⟩ := ck_rt C.out hy
    have hyi := ids_at hy
    by_cases e : k = i
    · subst e
      have e1 : y.id = x := by have := HI.out.1; rw [hyi] at this; exact Option.some.inj this
      have e' : (y.id == x) = true := by simpa using e1
      clear hy hyi e1
      go_wp2_with fail
      go_ret
      exact ⟨rfl, C.out.gr⟩
    · have e' : (y.id == x) = false := by
        rw [beq_eq_false_iff_ne]
        intro e1
        exact e (nodup_at HI.out.2 (by rw [hyi, e1]) HI.out.1)
      clear hy hyi
      go_wp2_with fail
      exact ⟨⟨k + 1, by omega, congrArg _ (by omega), C⟩, by simp only [RowKit.intOf]; omega⟩
set_option maxRecDepth 100000 in
set_option maxHeartbeats 1600000 in
theorem rat_any (T : Tg) (D : Int → Int) (x : Int) (A : List Int) (pd : Option Addr) (cd : Nat) (q q2 : Nat → Prop) (w : World) (hT : TgOk w q T) (hA : A = (ids T.R).map D) (hD : Rd w q2 (.slice pd A.length cd) (A.map tv)) :
    Calls Try.prog 48 #[.agg #[.slice T.pR T.R.length T.cR, .slice T.pL T.L.length T.cL], .slice pd A.length cd, .int .i64 x] w fun e w' => e = .returned (.int .i64 (atV T.R D x)) ∧ w.grownBy w' none := by
  have C0 := Lib.hid (CK.start hT)
  have HD := Lib.hid hD
  have hmR := Nat.le_trans hT.cr.1 hT.cr.2
  clear hT hD
  obtain ⟨R, L, pR, cR, pL, cL⟩ := T
  simp only at hmR C0 hA ⊢
  have hAl : A.length = R.length := by rw [hA, List.length_map, ids_len]
  have HA := Lib.hid hA
  clear hA
  go_enter Try.func48, Try.ntmps48
  go_upto_region 1 with fail
  generalize w.alloc _ = wa at *
  go_wp2_with fail
  go_loopw [7] (fun a wr => ∃ k : Nat, k ≤ R.length ∧ a = .int .i64 (k : Int) ∧ Hid (CK w ⟨R, L, pR, cR, pL, cL⟩ wr) ∧ Hid ((R.take k).any (fun r => decide (r.id = x)) = false)) (fun a _ => R.length - (RowKit.intOf a).toNat)
  case atStart => exact ⟨0, Nat.zero_le _, rfl, C0, Lib.hid rfl⟩
  case round =>
    obtain ⟨k, hk, rfl, C, HN⟩ := hrel
    clear C0
    obtain ⟨c0, c1⟩ := row_cells C.out.box
    by_cases hlt : k < R.length
    · obtain ⟨b, off, hp⟩ := ck_pr C.out (show 0 < R.length by omega)
      change pR = _ at hp
      subst hp
      obtain ⟨y, hy⟩ : ∃ y, R[k]? = some y := ⟨_, List.getElem?_eq_getElem hlt⟩
      obtain ⟨a0, a1⟩ := ck_rt C.out hy
      have HY := Lib.hid hy
      clear hy
      by_cases e : y.id = x
      · have e' : (y.id == x) = true := by simpa using e
        have HE := Lib.hid e
        obtain ⟨-, bd, od, rfl, -, hc⟩ := rdi_at (HD.out.keep C.out.gr) (by omega)
        have d0 := hc k (D y.id) (by rw [HA.out, List.getElem?_map, ids_at HY.out]; rfl)
        clear e hc
        go_wp2_with fail
        go_ret
        refine ⟨?_, C.out.gr⟩
        have h1 : x ∈ ids R := ids_has.2 (any_at HY.out (decide_eq_true HE.out))
        unfold atV
        rw [if_pos h1, ← HE.out]
        rfl
      · have e' : (y.id == x) = false := by simpa using e
        have HE := Lib.hid e
        clear e
        go_wp2_with fail
        exact ⟨⟨k + 1, by omega, congrArg _ (by omega), C, Lib.hid (any_take HN.out HY.out (decide_eq_false HE.out))⟩, by simp only [RowKit.intOf]; omega⟩
    · obtain rfl : k = R.length := by omega
      go_wp2_with fail
      go_ret
      have h1 : hasR R x = false := any_end HN.out (Nat.le_refl _)
      unfold atV
      rw [if_neg (fun h => by rw [ids_has.1 h] at h1; cases h1)]
      exact ⟨rfl, C.out.gr⟩
set_option maxRecDepth 100000 in
/-- A row of zeros. -/
theorem made_int (N : Nat) : madeCells #[Value.int .i64 0] N = (List.replicate N (tv 0)).toArray := by
  unfold madeCells
  apply Array.ext'
  rw [Array.toList_map, Array.toList_range]
  apply List.ext_getElem?
  intro i
  rw [List.getElem?_map, List.getElem?_replicate]
  by_cases h : i < N
  · rw [List.getElem?_range h, if_pos h]
    simp [tv, Nat.mod_one]
  · rw [List.getElem?_eq_none (by simpa using h), if_neg h]; rfl
set_option maxRecDepth 100000 in
theorem clV_zero (V : List Int) : clV V (fun _ => 0) = List.replicate V.length (tv 0) := by
  unfold clV
  rw [List.map_const']
set_option maxRecDepth 100000 in
/-- make of ints, as a law for the walk. -/
theorem wpList_make_ints (w : World) {ops : Array Oper} {rest : List Oper} {o : Oper} {a : Act} {Q : Exit → Act → World → Prop} (hg : o.guard = none) (l c : Operand) (hop : o.op = Op.makeSlice 22 l c) (M : Nat)
    (hl : a.eval l = .int .i64 (M : Int)) (hc : a.eval c = .int .i64 (M : Int)) (hM : M ≤ 100000)
    (hK : TRow (w.alloc (.cells (Array.replicate M (tv 0)) 3)) w.heap.size 3 (List.replicate M (tv 0)) → w.grownBy (w.alloc (.cells (Array.replicate M (tv 0)) 3)) none → wpList Try.prog ops Q rest (a.put o.dst (.slice (some ⟨w.heap.size, 0, none⟩) M M)) (w.alloc (.cells (Array.replicate M (tv 0)) 3))) : wpList Try.prog ops Q (o :: rest) a w := by
  obtain ⟨i0, hi, hz0, hz1, hz2⟩ := info_parts info_int
  refine wpList_make_row w hg l c 22 hop 3 i0 (.int .i64 0) Try.underlying22 hi hz0 hz1 rfl .i64 .i64 M hl hc (by rw [hz2]; omega) (by omega) ?_
  rw [made_int, List.toArray_replicate]
  refine hK ?_ (World.grownBy_alloc w _ _)
  unfold TRow
  rw [List.toArray_replicate]
  exact heap_alloc_new w _
/-- What memory holds while costs are relaxed. -/
structure TM (w : World) (T : Tg) (G gd : Nat) (D : Int → Int) (wr : World) : Prop where
  gb : wr.heap[G]? = some (.cells #[.slice T.pR T.R.length T.cR, .slice T.pL T.L.length T.cL] 28 (0, 0))
  t : TgOk wr (· < gd) T
  d : TRow wr gd 3 (clV (ids T.R) D)
  gr : w.grownBy wr none
  lt : G < gd ∧ w.heap.size ≤ G
set_option maxRecDepth 100000 in
theorem TM.keep {w wr w' : World} {T : Tg} {G gd : Nat} {D : Int → Int} (h : TM w T G gd D wr) (g : wr.grownBy w' none) : TM w T G gd D w' :=
  ⟨kept_row h.gb g (by simp), h.t.keep g, h.d.kept g (by simp), grown_trans h.gr g, h.lt⟩
set_option maxRecDepth 100000 in
theorem TM.put {w wr : World} {T : Tg} {G gd : Nat} {D : Int → Int} (h : TM w T G gd D wr) (hn : (ids T.R).Nodup) {i : Nat} {v : Int} (hi : (ids T.R)[i]? = some v) (x : Int) : TM w T G gd (updF D v x) (wr.setCell ⟨gd, i, none⟩ (tv x)) := by
  have g := grown_setCell wr ⟨gd, i, none⟩ (tv x)
  have hlt := h.lt
  refine ⟨kept_row h.gb g (fun e => by have := Option.some.inj e; simp only at this; omega), h.t.grown g (fun b hb e => by have := Option.some.inj e; simp only at this; omega), ?_, grown_new h.gr g (by show w.heap.size ≤ gd; omega), hlt⟩
  have := h.d.set i (tv x)
  rwa [clV_set hn hi] at this
/-- The row while it is filled. -/
def iniF (V : List Int) (z : Int) (i : Nat) : Int → Int := fun u => if u ∈ V.take i then startF z u else 0
set_option maxRecDepth 100000 in
theorem iniF_step {V : List Int} {z v : Int} {i : Nat} (h : V[i]? = some v) : updF (iniF V z i) v (startF z v) = iniF V z (i + 1) := by
  funext u
  unfold updF iniF
  rw [List.take_add_one, h]
  by_cases hu : u = v
  · rw [if_pos hu, hu, if_pos (by simp)]
  · rw [if_neg hu]
    by_cases hm : u ∈ V.take i
    · rw [if_pos hm, if_pos (by simp [hm])]
    · rw [if_neg hm, if_neg (by simp [hm, hu])]
set_option maxRecDepth 100000 in
theorem clV_congr {V : List Int} {D E : Int → Int} (h : ∀ v ∈ V, D v = E v) : clV V D = clV V E := by
  unfold clV
  exact List.map_congr_left (fun v hv => by rw [h v hv])
set_option maxRecDepth 100000 in
theorem iniF_end (V : List Int) (z : Int) : clV V (iniF V z V.length) = clV V (startF z) :=
  clV_congr (fun v hv => by unfold iniF; rw [List.take_length, if_pos hv])
set_option maxRecDepth 100000 in
theorem updF_twice (D : Int → Int) (v x y : Int) : updF (updF D v x) v y = updF D v y := by
  funext u
  unfold updF
  by_cases h : u = v
  · rw [if_pos h, if_pos h]
  · rw [if_neg h, if_neg h, if_neg h]
end Go.Proofs.Ytlefjdglcdopeaa

/- Parts of the proof, packed: ToBri, ToCuts, ToAwake, ToLimM, ToTopK. -/
import Derived.Test.YtiencdgmnkphjaaLim11
import Derived.Test.YtiencdgmnkphjaaLim9
import Derived.Deep.AppendLies
import Derived.Test.YtiencdgmnkphjaaLim6
import Derived.Test.YtiencdgmnkphjaaLim8
import Derived.Test.YtiencdgmnkphjaaLim1
import Derived.Deep.Onto
import Derived.Laws.OwnMore
/- topology: Bridges. -/
namespace Go.Proofs.Ytiencdgmnkphjaa
open Go.RowKit Bs
/-- Without the hop of a link. -/
def brF (l : Lk) : Fl := ⟨[⟨l.a, l.b⟩], [], none, 0, none, 0⟩
def isBr (R : List Rt) (L : List Lk) (l : Lk) : Bool := !conn (woR (brF l) R) (woL (brF l) L) l.a l.b
def hopOf (l : Lk) : Hp := ⟨l.a, l.b⟩
def bridges (R : List Rt) (L : List Lk) : List Hp := if okT R L then (L.filter (isBr R L)).map hopOf else []
theorem bri_take {R : List Rt} {L : List Lk} {k : Nat} {x : Lk} (h : L[k]? = some x) : ((L.take (k + 1)).filter (isBr R L)).map hopOf = ((L.take k).filter (isBr R L)).map hopOf ++ (if isBr R L x then [hopOf x] else []) := by
  rw [filter_snoc h, List.map_append]
  split <;> rfl
/-- While bridges are found. -/
structure BM (w0 : World) (R : List Rt) (L : List Lk) (pR : Option Addr) (cR : Nat) (pL : Option Addr) (cL : Nat) (Hs : List Hp) (va : Value) (w : World) : Prop where
  topo : w.heap[w0.heap.size]? = some (.cells #[.slice pR R.length cR, .slice pL L.length cL] 26 (0, 0))
  ok : TgOk w (· < w0.heap.size) ⟨R, L, pR, cR, pL, cL⟩
  own : w.ownsRow (w0.heap.size + 1) 70 2 va Hs.length (Hs.flatMap hpC)
  size : w0.heap.size + 1 ≤ w.heap.size
  gr : w0.grownBy w none
theorem BM.keep {w0 w w' : World} {R : List Rt} {L : List Lk} {pR pL : Option Addr} {cR cL : Nat} {Hs : List Hp} {va : Value} (h : BM w0 R L pR cR pL cL Hs va w) (g : w.grownBy w' none) : BM w0 R L pR cR pL cL Hs va w' :=
  ⟨kept_row h.topo g (by simp), h.ok.keep g, h.own.kept g (by cases hv : va.ownBlock <;> simp), Nat.le_trans h.size g.size, grown_trans h.gr g⟩
theorem BM.app {w0 w w1 : World} {R : List Rt} {L : List Lk} {pR pL : Option Addr} {cR cL : Nat} {Hs : List Hp} {va v' : Value} {x : Hp} {o : Obj} (h : BM w0 R L pR cR pL cL Hs va w)
    (hown : w1.ownsRow (w0.heap.size + 1) 70 2 v' (Hs.length + 1) (Hs.flatMap hpC ++ [.int .i64 x.f, .int .i64 x.t])) (hg : (w.alloc o).grownBy w1 va.ownBlock) : BM w0 R L pR cR pL cL (Hs ++ [x]) v' w1 := by
  have k0 := World.grownBy_alloc w o none
  have hne : ∀ b, b < w0.heap.size + 1 → some b ≠ va.ownBlock := fun b hb e => by
    have := (h.own.lt b e.symm).1
    omega
  have hk := h.keep k0
  refine ⟨kept_row hk.topo hg (hne _ (by omega)), hk.ok.grown hg (fun b hb => hne b (by omega)), ?_, Nat.le_trans hk.size hg.size, grown_any hk.gr hg (fun b hb => hne b (by omega))⟩
  rw [List.length_append, List.flatMap_append]
  exact hown
/-- What returns hops that can be read. -/
def THPost (Hs : List Hp) (w : World) (e : Ending) (w' : World) : Prop := ∃ p c, e = .returned (.slice p Hs.length c) ∧ RdH w' (w.heap.size ≤ ·) (.slice p Hs.length c) Hs ∧ (Hs.length ≤ c ∧ c ≤ 9223372036854775807) ∧ w.grownBy w' none
theorem BM.ret {w0 w : World} {R : List Rt} {L : List Lk} {pR pL : Option Addr} {cR cL : Nat} {Hs : List Hp} {va : Value} (h : BM w0 R L pR cR pL cL Hs va w) : THPost Hs w0 (.returned va) w := by
  obtain ⟨p, c, rfl, h1, h2⟩ := own_shape h.own
  exact ⟨p, c, rfl, (rdf_of_own2 h.own).mono (fun b hb => by have := hb.1; show _ ≤ b; omega), ⟨h1, h2⟩, h.gr⟩
theorem fl_one (w : World) (a b : Int) : FlOk (w.alloc (.cells #[.int .i64 a, .int .i64 b] 70)).drew (fun _ => True) ⟨[⟨a, b⟩], [], some ⟨w.heap.size, 0, none⟩, 1, none, 0⟩ := by
  have h0 : (w.alloc (.cells #[.int .i64 a, .int .i64 b] 70)).drew.heap[w.heap.size]? = some (.cells #[.int .i64 a, .int .i64 b] 70 (0, 0)) := heap_alloc_new w _
  obtain ⟨c0, c1⟩ := row_cells h0
  refine ⟨⟨some ⟨w.heap.size, 0, none⟩, 1, rfl, fun _ => ⟨w.heap.size, 0, rfl, trivial, fun i x hi => ?_⟩⟩, ⟨none, 0, rfl, fun h => absurd rfl h⟩, ⟨Nat.le_refl _, by show 1 ≤ _; omega⟩, ⟨Nat.le_refl _, by show 0 ≤ _; omega⟩⟩
  match i, hi with
  | 0, hi =>
    obtain rfl : Value.int .i64 a = x := by simpa [hpC] using hi
    exact c0
  | 1, hi =>
    obtain rfl : Value.int .i64 b = x := by simpa [hpC] using hi
    exact c1
theorem twb_any {R : List Rt} {L : List Lk} (hv : okT R L = true) (x : Lk) (pR pL : Option Addr) (cR cL g : Nat) (q q2 : Nat → Prop) (w : World) (hT : TgOk w q ⟨R, L, pR, cR, pL, cL⟩) (hF : FlOk w q2 ⟨[⟨x.a, x.b⟩], [], some ⟨g, 0, none⟩, 1, none, 0⟩) :
    Calls Try.prog 31 #[.agg #[.slice pR R.length cR, .slice pL L.length cL], .agg #[.slice (some ⟨g, 0, none⟩) 1 1, .slice none 0 0]] w fun e w' => TWPost (woR (brF x) R) (woL (brF x) L) w e w' := by
  have h := twithout_any ⟨R, L, pR, cR, pL, cL⟩ _ q q2 w hT hF
  simp only [hv, if_true] at h
  exact h
theorem tcb_any {R : List Rt} {L : List Lk} (x : Lk) (pR pL : Option Addr) (cR cL : Nat) (q : Nat → Prop) (w : World) (h12 : R.length ≤ 12) (hT : TgOk w q ⟨woR (brF x) R, woL (brF x) L, pR, cR, pL, cL⟩) :
    Calls Try.prog 39 #[.agg #[.slice pR (woR (brF x) R).length cR, .slice pL (woL (brF x) L).length cL], .int .i64 x.a, .int .i64 x.b] w fun e w' => ∃ B, e = .returned (.bool B) ∧ Hid (isBr R L x = !B) ∧ w.grownBy w' none := by
  refine (tconn_any ⟨woR (brF x) R, woL (brF x) L, pR, cR, pL, cL⟩ x.a x.b q w hT (fun _ => Nat.le_trans (List.length_filter_le _ _) h12)).mono ?_
  rintro e w' ⟨rfl, hg⟩
  exact ⟨_, rfl, Lib.hid rfl, hg⟩
set_option maxRecDepth 100000 in
theorem info_hop : (Try.prog.info? 70).map (fun i => (i.zero, i.size, i.bytes)) = some (some (.agg #[.int .i64 0, .int .i64 0]), 2, 16) := by kernel_rfl
set_option maxRecDepth 100000 in
set_option maxHeartbeats 6400000 in
theorem tbri_any (T : Tg) (q : Nat → Prop) (w : World) (hT : TgOk w q T) (h12 : okT T.R T.L = true → T.R.length ≤ 12) :
    Calls Try.prog 41 #[.agg #[.slice T.pR T.R.length T.cR, .slice T.pL T.L.length T.cL]] w fun e w' => THPost (bridges T.R T.L) w e w' := by
  obtain ⟨ii, hii, hi0, hi1, hi2⟩ := info_parts info_hop
  obtain ⟨R, L, pR, cR, pL, cL⟩ := T
  obtain ⟨k1, k2⟩ := tone_box w #[.slice pR R.length cR, .slice pL L.length cL] 26
  have S0 : Hid (BM w R L pR cR pL cL [] (.slice none 0 0) (w.alloc (.cells #[.slice pR R.length cR, .slice pL L.length cL] 26))) := Lib.hid ⟨k1, hT.old.keep k2, World.ownsRow_nil _ _ _ _, by simp, k2⟩
  have hmL := Nat.le_trans hT.cl.1 hT.cl.2
  simp only at h12 hmL ⊢
  clear hT k1 k2
  obtain ⟨Hr, hHr⟩ : ∃ Hr, bridges R L = Hr := ⟨_, rfl⟩
  rw [hHr]
  have HHR := Lib.hid hHr
  clear hHr
  go_enter Try.func41, Try.ntmps41
  go_upto_region 1 with fail
  generalize w.alloc _ = wa at *
  obtain ⟨c0, c1⟩ := row_cells S0.out.topo
  go_wp2_with fail
  refine (tvalid_any ⟨R, L, pR, cR, pL, cL⟩ _ wa S0.out.ok).mono ?_
  rintro e w1 ⟨rfl, hg⟩
  simp only
  have S1 := Lib.hid (S0.out.keep hg)
  clear hg S0 c0 c1
  cases hv : okT R L
  · obtain rfl : Hr = [] := by have := HHR.out; unfold bridges at this; rw [hv] at this; exact this.symm
    go_wp2_with fail
    go_ret
    exact ⟨none, 0, rfl, rdf_nil _ _ _ _, ⟨Nat.le_refl _, by show 0 ≤ _; omega⟩, S1.out.gr⟩
  have HV := Lib.hid hv
  obtain ⟨h24, h60⟩ := okT_len hv
  replace h12 := h12 hv
  have HH2 : Hid ((L.filter (isBr R L)).map hopOf = Hr) := Lib.hid (by have := HHR.out; unfold bridges at this; rw [hv] at this; exact this)
  clear hv HHR
  have M0 : Hid (BM w R L pR cR pL cL (((L.take 0).filter (isBr R L)).map hopOf) (.slice none 0 0) w1) := S1
  obtain ⟨c0, c1⟩ := row_cells S1.out.topo
  clear S1
  go_wp2_with fail
  go_loopw [3, 13] (fun va a wr => ∃ (k : Nat), k ≤ L.length ∧ a = .int .i64 (k : Int) ∧ Hid (BM w R L pR cR pL cL (((L.take k).filter (isBr R L)).map hopOf) va wr)) (fun _ a _ => L.length - (intOf a).toNat)
  case atStart => exact ⟨0, Nat.zero_le _, rfl, M0⟩
  case round =>
    obtain ⟨k, hk, rfl, M⟩ := hrel
    clear M0 c0 c1
    by_cases hlt : k < L.length
    · obtain ⟨-, b, off, rfl, hq, hc⟩ := rdl_cells (L := L) M.out.ok.l (by omega)
      obtain ⟨x, hx⟩ : ∃ x, L[k]? = some x := ⟨_, List.getElem?_eq_getElem hlt⟩
      obtain ⟨a0, a1, a2, a3, a4⟩ := hc k x hx
      have HK := Lib.hid (bri_take (R := R) hx)
      have hln : ((((L.take k).filter (isBr R L)).map hopOf)).length ≤ 60 := by
        rw [List.length_map]
        have := List.length_filter_le (isBr R L) (L.take k)
        have := List.length_take_le k L
        omega
      have gal := World.grownBy_alloc wr (.cells #[.int .i64 x.a, .int .i64 x.b, .int .i64 x.ca, .int .i64 x.cb, .int .i64 x.cp] 68) none
      have hbx := heap_alloc_new wr (.cells #[.int .i64 x.a, .int .i64 x.b, .int .i64 x.ca, .int .i64 x.cb, .int .i64 x.cp] 68)
      have M2 := Lib.hid (M.out.keep gal)
      clear hc hx gal M
      obtain ⟨Hs, hHs⟩ : ∃ Hs, (((L.take k).filter (isBr R L)).map hopOf) = Hs := ⟨_, rfl⟩
      rw [hHs] at M2 HK hln
      clear hHs
      go_upto_region 7 with fail
      clear a0 a1 a2 a3 a4
      generalize wr.alloc _ = wy at *
      obtain ⟨d0, d1, d2, d3, d4⟩ := lk_facts hbx
      have gal := World.grownBy_alloc wy (.cells #[.int .i64 x.a, .int .i64 x.b] 70) none
      have hbh := heap_alloc_new wy (.cells #[.int .i64 x.a, .int .i64 x.b] 70)
      have hbx2 := kept_row hbx gal (by simp)
      have M3 := Lib.hid (M2.out.keep gal)
      have HZ := Lib.hid (And.intro M3.out.topo (And.intro hbx2 (And.intro hbh M3.out.ok)))
      clear gal hbh hbx hbx2 M2
      go_upto_region 8 with fail
      clear d0 d1 d2 d3 d4
      generalize wy.alloc _ = wz at *
      refine wp_region_held_drew (S := fun w' => Hid (wz.grownBy w' none)) (by kernel_rfl) (Lib.hid (grown_drew (grown_refl _ _))) (fun hHeld => ?_)
      refine wpAnyH_take (i := 0) (oi := { dst := some 22, op := Op.load 26 (Operand.tmp 1), type := 26, pos := "topology.go:165", after := #[], guard := none }) (v := ?_) rfl (by kernel_rfl) (by kernel_rfl) (by kernel_rfl) (fun _ _ _ h => h) (Or.inl ⟨by rfl, ?_⟩) hHeld ?_
      rotate_left 1
      · intro u hSu
        obtain ⟨z0, z1⟩ := row_cells (kept_row HZ.out.1 hSu.out (by simp))
        obtain ⟨z2, z3, z4, z5, z6⟩ := lk_facts (kept_row HZ.out.2.1 hSu.out (by simp))
        obtain ⟨z7, z8⟩ := row_cells (kept_row HZ.out.2.2.1 hSu.out (by simp))
        go_simp
        first | done | with_reducible rfl
      (try simp only [Act.put, List.setIfInBounds_toArray, List.set_cons_zero, List.set_cons_succ])
      refine wpAnyH_take (i := 1) (oi := { dst := some 23, op := Op.load 70 (Operand.tmp 6), type := 70, pos := "topology.go:165", after := #[], guard := none }) (v := ?_) rfl (by kernel_rfl) (by kernel_rfl) (by kernel_rfl) (fun _ _ _ h => h) (Or.inl ⟨by rfl, ?_⟩) hHeld ?_
      rotate_left 1
      · intro u hSu
        obtain ⟨z0, z1⟩ := row_cells (kept_row HZ.out.1 hSu.out (by simp))
        obtain ⟨z2, z3, z4, z5, z6⟩ := lk_facts (kept_row HZ.out.2.1 hSu.out (by simp))
        obtain ⟨z7, z8⟩ := row_cells (kept_row HZ.out.2.2.1 hSu.out (by simp))
        go_simp
        first | done | with_reducible rfl
      (try simp only [Act.put, List.setIfInBounds_toArray, List.set_cons_zero, List.set_cons_succ])
      refine wpAnyH_take (i := 5) (oi := { dst := some 27, op := Op.fieldAddr 68 (Operand.tmp 5) 0, type := 0, pos := "topology.go:165", after := #[], guard := none }) (v := ?_) rfl (by kernel_rfl) (by kernel_rfl) (by kernel_rfl) (fun _ _ _ h => h) (Or.inl ⟨by rfl, ?_⟩) hHeld ?_
      rotate_left 1
      · intro u hSu
        obtain ⟨z0, z1⟩ := row_cells (kept_row HZ.out.1 hSu.out (by simp))
        obtain ⟨z2, z3, z4, z5, z6⟩ := lk_facts (kept_row HZ.out.2.1 hSu.out (by simp))
        obtain ⟨z7, z8⟩ := row_cells (kept_row HZ.out.2.2.1 hSu.out (by simp))
        go_simp
        first | done | with_reducible rfl
      (try simp only [Act.put, List.setIfInBounds_toArray, List.set_cons_zero, List.set_cons_succ])
      refine wpAnyH_take (i := 6) (oi := { dst := some 28, op := Op.load 3 (Operand.tmp 27), type := 3, pos := "topology.go:165", after := #[{ on := 5, ground := Ground.data }], guard := none }) (v := ?_) rfl (by kernel_rfl) (by kernel_rfl) (by kernel_rfl) (fun _ _ _ h => h) (Or.inl ⟨by rfl, ?_⟩) hHeld ?_
      rotate_left 1
      · intro u hSu
        obtain ⟨z0, z1⟩ := row_cells (kept_row HZ.out.1 hSu.out (by simp))
        obtain ⟨z2, z3, z4, z5, z6⟩ := lk_facts (kept_row HZ.out.2.1 hSu.out (by simp))
        obtain ⟨z7, z8⟩ := row_cells (kept_row HZ.out.2.2.1 hSu.out (by simp))
        go_simp
        first | done | with_reducible rfl
      (try simp only [Act.put, List.setIfInBounds_toArray, List.set_cons_zero, List.set_cons_succ])
      refine wpAnyH_take (i := 7) (oi := { dst := some 29, op := Op.fieldAddr 68 (Operand.tmp 5) 1, type := 0, pos := "topology.go:165", after := #[], guard := none }) (v := ?_) rfl (by kernel_rfl) (by kernel_rfl) (by kernel_rfl) (fun _ _ _ h => h) (Or.inl ⟨by rfl, ?_⟩) hHeld ?_
      rotate_left 1
      · intro u hSu
        obtain ⟨z0, z1⟩ := row_cells (kept_row HZ.out.1 hSu.out (by simp))
        obtain ⟨z2, z3, z4, z5, z6⟩ := lk_facts (kept_row HZ.out.2.1 hSu.out (by simp))
        obtain ⟨z7, z8⟩ := row_cells (kept_row HZ.out.2.2.1 hSu.out (by simp))
        go_simp
        first | done | with_reducible rfl
      (try simp only [Act.put, List.setIfInBounds_toArray, List.set_cons_zero, List.set_cons_succ])
      refine wpAnyH_take (i := 8) (oi := { dst := some 30, op := Op.load 3 (Operand.tmp 29), type := 3, pos := "topology.go:165", after := #[{ on := 7, ground := Ground.data }], guard := none }) (v := ?_) rfl (by kernel_rfl) (by kernel_rfl) (by kernel_rfl) (fun _ _ _ h => h) (Or.inl ⟨by rfl, ?_⟩) hHeld ?_
      rotate_left 1
      · intro u hSu
        obtain ⟨z0, z1⟩ := row_cells (kept_row HZ.out.1 hSu.out (by simp))
        obtain ⟨z2, z3, z4, z5, z6⟩ := lk_facts (kept_row HZ.out.2.1 hSu.out (by simp))
        obtain ⟨z7, z8⟩ := row_cells (kept_row HZ.out.2.2.1 hSu.out (by simp))
        go_simp
        first | done | with_reducible rfl
      (try simp only [Act.put, List.setIfInBounds_toArray, List.set_cons_zero, List.set_cons_succ])
      refine wpAnyH_ready (rs := [2]) (by kernel_rfl) (by simp) ?_
      refine AllReadyH.cons (o := { dst := some 24, op := Op.buildSlice 45 1 #[(0, Operand.tmp 23)], type := 45, pos := "topology.go:165", after := #[{ on := 1, ground := Ground.data }], guard := none }) rfl (fun K hK => ?_) AllReadyH.nil
      go_simp
      refine hK.out _ _ (hid_more hHeld (World.grownBy_alloc _ _ _)) (fun hH2 => ?_)
      clear hK K hHeld
      have hHeld := hH2
      clear hH2
      (try simp only [Act.put, List.setIfInBounds_toArray, List.set_cons_zero, List.set_cons_succ])
      refine wpAnyH_take (i := 3) (oi := { dst := some 25, op := Op.build 47 #[(0, Operand.tmp 24)], type := 47, pos := "topology.go:165", after := #[{ on := 2, ground := Ground.data }], guard := none }) (v := ?_) rfl (by kernel_rfl) (by kernel_rfl) (by kernel_rfl) (fun _ _ _ h => h) (Or.inl ⟨by rfl, ?_⟩) hHeld ?_
      rotate_left 1
      · intro u hSu
        obtain ⟨z0, z1⟩ := row_cells (kept_row HZ.out.1 hSu.out (by simp))
        obtain ⟨z2, z3, z4, z5, z6⟩ := lk_facts (kept_row HZ.out.2.1 hSu.out (by simp))
        obtain ⟨z7, z8⟩ := row_cells (kept_row HZ.out.2.2.1 hSu.out (by simp))
        go_simp
        first | done | with_reducible rfl
      (try simp only [Act.put, List.setIfInBounds_toArray, List.set_cons_zero, List.set_cons_succ])
      refine wpAnyH_ready (rs := [4]) (by kernel_rfl) (by simp) ?_
      refine AllReadyH.cons (o := { dst := some 26, op := Op.call { callee := Callee.value (Operand.func 31), args := #[Operand.tmp 22, Operand.tmp 25], argTypes := #[26, 47] }, type := 26, pos := "topology.go:165", after := #[{ on := 0, ground := Ground.data }, { on := 3, ground := Ground.data }], guard := none }) rfl (fun K hK => ?_) AllReadyH.nil
      go_simp
      go_at_call 31
      refine (twb_any HV.out x pR (some ⟨b, off, none⟩) cR cL wz.heap.size _ _ _ (HZ.out.2.2.2.keep hHeld.out) (fl_one wz x.a x.b)).mono ?_
      rintro e w2 ⟨pR2, cR2, pL2, cL2, rfl, hT2, hg2⟩
      have HT2 := Lib.hid hT2
      clear hT2
      refine hK.out _ _ (Lib.hid (grown_trans hHeld.out hg2)) (fun hH2 => ?_)
      clear hK K hHeld
      have hHeld := hH2
      clear hH2
      (try simp only [Act.put, List.setIfInBounds_toArray, List.set_cons_zero, List.set_cons_succ])
      refine wpAnyH_ready (rs := [9]) (by kernel_rfl) (by simp) ?_
      refine AllReadyH.cons (o := { dst := some 31, op := Op.call { callee := Callee.value (Operand.func 39), args := #[Operand.tmp 26, Operand.tmp 28, Operand.tmp 30], argTypes := #[26, 3, 3] }, type := 4, pos := "topology.go:165", after := #[{ on := 4, ground := Ground.data }, { on := 6, ground := Ground.data }, { on := 8, ground := Ground.data }, { on := 4, ground := Ground.chain }], guard := none }) rfl (fun K hK => ?_) AllReadyH.nil
      go_simp
      go_at_call 39
      refine (tcb_any x pR2 pL2 cR2 cL2 _ _ h12 HT2.out).mono ?_
      rintro e w3 ⟨B, rfl, hB, hg3⟩
      refine hK.out _ _ (Lib.hid (grown_trans hHeld.out hg3)) (fun hH2 => ?_)
      clear hK K hHeld
      have hHeld := hH2
      clear hH2
      (try simp only [Act.put, List.setIfInBounds_toArray, List.set_cons_zero, List.set_cons_succ])
      refine wpAnyH_take (i := 10) (oi := { dst := some 32, op := Op.unOp UnOp.not 4 (Operand.tmp 31), type := 4, pos := "topology.go:165", after := #[{ on := 9, ground := Ground.data }], guard := none }) (v := ?_) rfl (by kernel_rfl) (by kernel_rfl) (by kernel_rfl) (fun _ _ _ h => h) (Or.inl ⟨by rfl, ?_⟩) hHeld ?_
      rotate_left 1
      · intro u hSu
        obtain ⟨z0, z1⟩ := row_cells (kept_row HZ.out.1 hSu.out (by simp))
        obtain ⟨z2, z3, z4, z5, z6⟩ := lk_facts (kept_row HZ.out.2.1 hSu.out (by simp))
        obtain ⟨z7, z8⟩ := row_cells (kept_row HZ.out.2.2.1 hSu.out (by simp))
        go_simp
        first | done | with_reducible rfl
      (try simp only [Act.put, List.setIfInBounds_toArray, List.set_cons_zero, List.set_cons_succ])
      refine wpAnyH_done (by kernel_rfl) ?_ _
      have M4 := Lib.hid (M3.out.keep hHeld.out)
      obtain ⟨z7, z8⟩ := row_cells (kept_row HZ.out.2.2.1 hHeld.out (by simp))
      clear M3 HZ HT2 hHeld
      cases B
      · have HB : Hid (((L.take (k + 1)).filter (isBr R L)).map hopOf = Hs ++ [hopOf x]) := Lib.hid (by rw [HK.out, hB.out]; rfl)
        have hown := M4.out.own
        have hsz4 := M4.out.size
        go_wp2_with (at_builtin; refine wpList_append_own _ rfl _ _ 45 rfl (w.heap.size + 1) 70 ii (.agg #[.int .i64 0, .int .i64 0]) 2 16 Try.underlying45 hii hi0 hi1 hi2 rfl (by decide) _ _ _ rfl (hown.alloc _) ⟨w3.heap.size, 0, none⟩ 1 1 [.int .i64 x.a, .int .i64 x.b] rfl rfl ?c1 ?c2 ?c3 ?c4 ?c5 ?_)
        try (case c1 => exact cells2 _ _ _ _)
        case c2 => intro u hu; simp at hu; rcases hu with rfl | rfl <;> rfl
        case c3 => first | omega | (unfold maxLen; omega)
        case c4 => omega
        case c5 => first | omega | (simp; omega)
        intro v' w4 hown' hg _
        have M5 := Lib.hid (M4.out.app (x := hopOf x) hown' hg)
        clear hown' hg hown z7 z8
        go_wp2_with fail
        refine ⟨⟨k + 1, by omega, congrArg _ (by omega), Lib.hid ?_⟩, by simp only [intOf]; omega⟩
        rw [HB.out]
        exact M5.out
      · have HB : Hid (((L.take (k + 1)).filter (isBr R L)).map hopOf = Hs) := Lib.hid (by rw [HK.out, hB.out]; simp)
        go_wp2_with fail
        refine ⟨⟨k + 1, by omega, congrArg _ (by omega), Lib.hid ?_⟩, by simp only [intOf]; omega⟩
        rw [HB.out]
        exact M4.out

    · obtain rfl : k = L.length := by omega
      go_wp2_with fail
      go_ret
      have hM := M.out
      rw [List.take_length, HH2.out] at hM
      exact hM.ret
end Go.Proofs.Ytiencdgmnkphjaa

/- topology: Cuts. -/
namespace Go.Proofs.Ytiencdgmnkphjaa
open Go.RowKit Bs
/-- Without a router. -/
def cutF (r : Rt) : Fl := ⟨[], [r.id], none, 0, none, 0⟩
def isCut (R : List Rt) (L : List Lk) (r : Rt) : Bool := decide ((comps R L).length < (comps (woR (cutF r) R) (woL (cutF r) L)).length)
def cuts (R : List Rt) (L : List Lk) : List Int := if okT R L then (R.filter (isCut R L)).map Rt.id else []
theorem cut_take {R : List Rt} {L : List Lk} {k : Nat} {x : Rt} (h : R[k]? = some x) : ((R.take (k + 1)).filter (isCut R L)).map Rt.id = ((R.take k).filter (isCut R L)).map Rt.id ++ (if isCut R L x then [x.id] else []) := by
  rw [filter_snoc h, List.map_append]
  split <;> rfl
/-- While cuts are found. -/
structure CUM (w0 : World) (R : List Rt) (L : List Lk) (pR : Option Addr) (cR : Nat) (pL : Option Addr) (cL : Nat) (Xs : List Int) (va : Value) (w : World) : Prop where
  topo : w.heap[w0.heap.size]? = some (.cells #[.slice pR R.length cR, .slice pL L.length cL] 26 (0, 0))
  ok : TgOk w (· < w0.heap.size) ⟨R, L, pR, cR, pL, cL⟩
  own : w.ownsRow (w0.heap.size + 1) 3 1 va Xs.length (Xs.map tv)
  size : w0.heap.size + 1 ≤ w.heap.size
  gr : w0.grownBy w none
theorem CUM.keep {w0 w w' : World} {R : List Rt} {L : List Lk} {pR pL : Option Addr} {cR cL : Nat} {Xs : List Int} {va : Value} (h : CUM w0 R L pR cR pL cL Xs va w) (g : w.grownBy w' none) : CUM w0 R L pR cR pL cL Xs va w' :=
  ⟨kept_row h.topo g (by simp), h.ok.keep g, h.own.kept g (by cases hv : va.ownBlock <;> simp), Nat.le_trans h.size g.size, grown_trans h.gr g⟩
theorem CUM.app {w0 w w1 : World} {R : List Rt} {L : List Lk} {pR pL : Option Addr} {cR cL : Nat} {Xs : List Int} {va v' : Value} {x : Int} {o : Obj} (h : CUM w0 R L pR cR pL cL Xs va w)
    (hown : w1.ownsRow (w0.heap.size + 1) 3 1 v' (Xs.length + 1) (Xs.map tv ++ [.int .i64 x])) (hg : (w.alloc o).grownBy w1 va.ownBlock) : CUM w0 R L pR cR pL cL (Xs ++ [x]) v' w1 := by
  have k0 := World.grownBy_alloc w o none
  have hne : ∀ b, b < w0.heap.size + 1 → some b ≠ va.ownBlock := fun b hb e => by
    have := (h.own.lt b e.symm).1
    omega
  have hk := h.keep k0
  refine ⟨kept_row hk.topo hg (hne _ (by omega)), hk.ok.grown hg (fun b hb => hne b (by omega)), ?_, Nat.le_trans hk.size hg.size, grown_any hk.gr hg (fun b hb => hne b (by omega))⟩
  rw [List.length_append, List.map_append]
  exact hown
theorem CUM.ret {w0 w : World} {R : List Rt} {L : List Lk} {pR pL : Option Addr} {cR cL : Nat} {Xs : List Int} {va : Value} (h : CUM w0 R L pR cR pL cL Xs va w) : TRet Xs w0 (.returned va) w := by
  have hr := rd_of_own h.own
  rcases Joins.ownsRow_forms h.own with ⟨e, e0⟩ | ⟨g, cap, e⟩
  · subst e
    obtain rfl := List.eq_nil_of_length_eq_zero e0
    exact ⟨none, 0, rfl, hr.mono (fun b hb => by show _ ≤ b; omega), ⟨Nat.le_refl _, by omega⟩, fun _ => rfl, h.gr⟩
  · subst e
    have := own_cap h.own
    unfold maxLen at this
    exact ⟨_, cap, rfl, hr.mono (fun b hb => by show _ ≤ b; omega), ⟨this.1, by omega⟩, (fun e => by cases e), h.gr⟩
theorem fl_oneX (w : World) (a : Int) : FlOk (w.alloc (.cells #[.int .i64 a] 3)) (fun _ => True) ⟨[], [a], none, 0, some ⟨w.heap.size, 0, none⟩, 1⟩ := by
  have h0 : (w.alloc (.cells #[.int .i64 a] 3)).heap[w.heap.size]? = some (.cells #[.int .i64 a] 3 (0, 0)) := heap_alloc_new w _
  refine ⟨⟨none, 0, rfl, fun h => absurd rfl h⟩, ⟨some ⟨w.heap.size, 0, none⟩, 1, rfl, fun _ => ⟨w.heap.size, 0, rfl, trivial, fun i x hi => ?_⟩⟩, ⟨Nat.le_refl _, by show 0 ≤ _; omega⟩, ⟨Nat.le_refl _, by show 1 ≤ _; omega⟩⟩
  match i, hi with
  | 0, hi =>
    obtain rfl : tv a = x := by simpa using hi
    rw [cell_of_row _ _ _ _ _ _ h0]; rfl
theorem twc_any {R : List Rt} {L : List Lk} (hv : okT R L = true) (x : Rt) (pR pL : Option Addr) (cR cL g : Nat) (q q2 : Nat → Prop) (w : World) (n : Int) (hn : x.id = n) (hT : TgOk w q ⟨R, L, pR, cR, pL, cL⟩) (hF : FlOk w q2 ⟨[], [n], none, 0, some ⟨g, 0, none⟩, 1⟩) :
    Calls Try.prog 31 #[.agg #[.slice pR R.length cR, .slice pL L.length cL], .agg #[.slice none 0 0, .slice (some ⟨g, 0, none⟩) 1 1]] w fun e w' => TWPost (woR (cutF x) R) (woL (cutF x) L) w e w' := by
  subst hn
  have h := twithout_any ⟨R, L, pR, cR, pL, cL⟩ _ q q2 w hT hF
  simp only [hv, if_true] at h
  exact h
set_option maxRecDepth 100000 in
set_option maxHeartbeats 6400000 in
theorem tcuts_any (T : Tg) (q : Nat → Prop) (w : World) (hT : TgOk w q T) (h12 : okT T.R T.L = true → T.R.length ≤ 12) :
    Calls Try.prog 42 #[.agg #[.slice T.pR T.R.length T.cR, .slice T.pL T.L.length T.cL]] w fun e w' => TRet (cuts T.R T.L) w e w' := by
  obtain ⟨ii, hii, hi0, hi1, hi2⟩ := info_parts info_int
  obtain ⟨R, L, pR, cR, pL, cL⟩ := T
  obtain ⟨k1, k2⟩ := tone_box w #[.slice pR R.length cR, .slice pL L.length cL] 26
  have S0 : Hid (CUM w R L pR cR pL cL [] (.slice none 0 0) (w.alloc (.cells #[.slice pR R.length cR, .slice pL L.length cL] 26))) := Lib.hid ⟨k1, hT.old.keep k2, World.ownsRow_nil _ _ _ _, by simp, k2⟩
  have hmR := Nat.le_trans hT.cr.1 hT.cr.2
  simp only at h12 hmR ⊢
  clear hT k1 k2
  obtain ⟨Xr, hXr⟩ : ∃ Xr, cuts R L = Xr := ⟨_, rfl⟩
  rw [hXr]
  have HXR := Lib.hid hXr
  clear hXr
  go_enter Try.func42, Try.ntmps42
  go_upto_region 1 with fail
  generalize w.alloc _ = wa at *
  obtain ⟨c0, c1⟩ := row_cells S0.out.topo
  go_wp2_with fail
  refine (tvalid_any ⟨R, L, pR, cR, pL, cL⟩ _ wa S0.out.ok).mono ?_
  rintro e w1 ⟨rfl, hg⟩
  simp only
  have S1 := Lib.hid (S0.out.keep hg)
  clear hg S0 c0 c1
  cases hv : okT R L
  · obtain rfl : Xr = [] := by have := HXR.out; unfold cuts at this; rw [hv] at this; exact this.symm
    go_wp2_with fail
    go_ret
    exact ⟨none, 0, rfl, ⟨none, 0, rfl, fun h => absurd rfl h⟩, ⟨Nat.le_refl _, by show 0 ≤ _; omega⟩, fun _ => rfl, S1.out.gr⟩
  have HV := Lib.hid hv
  obtain ⟨h24, h60⟩ := okT_len hv
  replace h12 := h12 hv
  have HH2 : Hid ((R.filter (isCut R L)).map Rt.id = Xr) := Lib.hid (by have := HXR.out; unfold cuts at this; rw [hv] at this; exact this)
  clear hv HXR
  obtain ⟨c0, c1⟩ := row_cells S1.out.topo
  go_wp2_with fail
  refine (tcomps_any ⟨R, L, pR, cR, pL, cL⟩ _ w1 S1.out.ok (fun _ => h12)).mono ?_
  rintro e w2 ⟨pC, cC, valsC, rfl, -, -, -, -, hg⟩
  have M0 : Hid (CUM w R L pR cR pL cL (((R.take 0).filter (isCut R L)).map Rt.id) (.slice none 0 0) w2) := Lib.hid (S1.out.keep hg)
  clear hg S1 c0 c1
  obtain ⟨N, hN⟩ : ∃ N, (comps R L).length = N := ⟨_, rfl⟩
  simp only
  try rw [hN]
  have HN := Lib.hid hN
  clear hN
  obtain ⟨c0, c1⟩ := row_cells M0.out.topo
  go_wp2_with fail
  go_loopw [3, 16] (fun va a wr => ∃ (k : Nat), k ≤ R.length ∧ a = .int .i64 (k : Int) ∧ Hid (CUM w R L pR cR pL cL (((R.take k).filter (isCut R L)).map Rt.id) va wr)) (fun _ a _ => R.length - (intOf a).toNat)
  case atStart => exact ⟨0, Nat.zero_le _, rfl, M0⟩
  case round =>
    obtain ⟨k, hk, rfl, M⟩ := hrel
    clear M0 c0 c1
    by_cases hlt : k < R.length
    · obtain ⟨-, b, off, rfl, hq, hc⟩ := rdr_cells (R := R) M.out.ok.r (by omega)
      obtain ⟨x, hx⟩ : ∃ x, R[k]? = some x := ⟨_, List.getElem?_eq_getElem hlt⟩
      obtain ⟨a0, a1⟩ := hc k x hx
      have HK := Lib.hid (cut_take (L := L) hx)
      have hln : ((((R.take k).filter (isCut R L)).map Rt.id)).length ≤ 24 := by
        rw [List.length_map]
        have := List.length_filter_le (isCut R L) (R.take k)
        have := List.length_take_le k R
        omega
      have gal := World.grownBy_alloc wr (.cells #[.int .i64 x.id, .bool x.cap] 73) none
      have hbx := heap_alloc_new wr (.cells #[.int .i64 x.id, .bool x.cap] 73)
      have M2 := Lib.hid (M.out.keep gal)
      clear hc hx gal M
      obtain ⟨Xs, hXs⟩ : ∃ Xs, (((R.take k).filter (isCut R L)).map Rt.id) = Xs := ⟨_, rfl⟩
      rw [hXs] at M2 HK hln
      clear hXs
      go_upto_region 8 with fail
      clear a0 a1
      generalize wr.alloc _ = wy at *
      obtain ⟨d0, d1⟩ := row_cells hbx
      obtain ⟨c0, c1⟩ := row_cells M2.out.topo
      have HBX := Lib.hid hbx
      have gal := World.grownBy_alloc wy (.cells #[.int .i64 x.id] 3) none
      have hT2 := M2.out.ok.keep gal
      have hF2 := fl_oneX wy x.id
      have HTF := Lib.hid (And.intro hT2 (And.intro hF2 gal))
      clear hbx gal hT2 hF2
      go_wp2_with fail
      refine (twc_any HV.out x (some ⟨b, off, none⟩) pL cR cL wy.heap.size _ _ _ x.id rfl HTF.out.1 HTF.out.2.1).mono ?_
      rintro e w3 ⟨pR2, cR2, pL2, cL2, rfl, hT3, hg3⟩
      have HT3 := Lib.hid hT3
      have M3 := Lib.hid (M2.out.keep (grown_trans HTF.out.2.2 hg3))
      have HBX3 := Lib.hid (kept_row HBX.out (grown_trans HTF.out.2.2 hg3) (by simp))
      clear hT3 hg3 HTF M2 HBX c0 c1 d0 d1
      go_wp2_with fail
      refine (tcomps_any ⟨woR (cutF x) R, woL (cutF x) L, pR2, cR2, pL2, cL2⟩ _ w3 HT3.out (fun _ => Nat.le_trans (List.length_filter_le _ _) h12)).mono ?_
      rintro e w4 ⟨pC2, cC2, vals2, rfl, -, -, hcap2, -, hg4⟩
      obtain ⟨N2, hN2⟩ : ∃ N2, (comps (woR (cutF x) R) (woL (cutF x) L)).length = N2 := ⟨_, rfl⟩
      simp only at hcap2 ⊢
      rw [hN2] at hcap2 ⊢
      have HC : Hid (isCut R L x = decide (N < N2)) := Lib.hid (by unfold isCut; rw [HN.out, hN2])
      have M4 := Lib.hid (M3.out.keep hg4)
      have HBX4 := Lib.hid (kept_row HBX3.out hg4 (by simp))
      obtain ⟨d0, d1⟩ := row_cells HBX4.out
      have hown := M4.out.own
      have hsz4 := M4.out.size
      clear hg4 M3 HBX3 HT3 hN2
      by_cases hlt2 : N < N2
      · have HB : Hid (((R.take (k + 1)).filter (isCut R L)).map Rt.id = Xs ++ [x.id]) := Lib.hid (by rw [HK.out, HC.out, decide_eq_true hlt2]; rfl)
        go_wp2_with (at_builtin; refine wpList_append_own _ rfl _ _ 22 rfl (w.heap.size + 1) 3 ii (.int .i64 0) 1 8 Try.underlying22 hii hi0 hi1 hi2 rfl (by decide) _ _ _ rfl (hown.alloc _) ⟨w4.heap.size, 0, none⟩ 1 1 [.int .i64 x.id] rfl rfl ?c1 ?c2 ?c3 ?c4 ?c5 ?_)
        try (case c1 => exact cell_one _ _ _)
        case c2 => first | rfl | (intro u hu; simp at hu; subst hu; rfl)
        case c3 => first | omega | (unfold maxLen; omega)
        case c4 => omega
        case c5 => first | omega | (simp; omega)
        intro v' w5 hown' hg _
        have M5 := Lib.hid (M4.out.app (x := x.id) hown' hg)
        clear hown' hg hown d0 d1
        go_wp2_with fail
        refine ⟨⟨k + 1, by omega, congrArg _ (by omega), Lib.hid ?_⟩, by simp only [intOf]; omega⟩
        rw [HB.out]
        exact M5.out
      · have HB : Hid (((R.take (k + 1)).filter (isCut R L)).map Rt.id = Xs) := Lib.hid (by rw [HK.out, HC.out, decide_eq_false hlt2]; simp)
        go_wp2_with fail
        refine ⟨⟨k + 1, by omega, congrArg _ (by omega), Lib.hid ?_⟩, by simp only [intOf]; omega⟩
        rw [HB.out]
        exact M4.out
    · obtain rfl : k = R.length := by omega
      go_wp2_with fail
      go_ret
      have hM := M.out
      rw [List.take_length, HH2.out] at hM
      exact hM.ret
end Go.Proofs.Ytiencdgmnkphjaa

/- The laws of topology: the example. -/
namespace Go.Proofs.Ytiencdgmnkphjaa
open Go.RowKit Bs
def exR : List Rt := [⟨1, false⟩, ⟨2, false⟩, ⟨3, false⟩, ⟨4, false⟩]
def exL : List Lk := [⟨1, 2, 1, 1, 0⟩, ⟨2, 3, 1, 1, 0⟩, ⟨2, 4, 1, 1, 0⟩, ⟨3, 4, 1, 1, 0⟩]
set_option maxRecDepth 100000 in
theorem ex_bri : bridges exR exL = [⟨1, 2⟩] := by kernel_rfl
set_option maxRecDepth 100000 in
theorem ex_cut : cuts exR exL = [2] := by kernel_rfl
set_option maxRecDepth 100000 in
theorem ex_chk : chk exR exL = 0 := by kernel_rfl
theorem rdf_row {w : World} {g : Nat} {t : TypeId} {n c : Nat} {xs : List Value} (h : w.heap[g]? = some (.cells xs.toArray t (0, 0))) : RdF w (· = g) (.slice (some ⟨g, 0, none⟩) n c) n xs :=
  ⟨some ⟨g, 0, none⟩, c, rfl, fun _ => ⟨g, 0, rfl, rfl, fun i x hi => by
    rw [cell_of_row _ _ _ _ _ _ h, Nat.zero_add]
    simpa using hi⟩⟩
set_option maxRecDepth 100000 in
set_option maxHeartbeats 3200000 in
theorem ex_any (w : World) : Calls Try.prog 65 #[] w fun e w' => TWPost exR exL w e w' := by
  go_enter Try.func65, Try.ntmps65
  go_upto_region 1 with fail
  go_wp2_with fail
  obtain ⟨wb, hwb, b1, b2, b3, b4, b5⟩ := boxes3 w #[.slice (some ⟨w.heap.size + 1, 0, none⟩) 4 4, .slice (some ⟨w.heap.size + 1 + 1, 0, none⟩) 4 4] (exR.flatMap rtC).toArray (exL.flatMap lkC).toArray 26 73 68
  subst hwb
  refine bodyPost_ret (res_topo rfl _ _ w.heap.size _ _ rfl b1) rfl ?_
  refine ⟨some ⟨w.heap.size + 1, 0, none⟩, 4, some ⟨w.heap.size + 1 + 1, 0, none⟩, 4, rfl, ⟨(rdf_row b2).mono (fun b hb => ?_), (rdf_row b3).mono (fun b hb => ?_), ⟨(by decide : 4 ≤ 4), (by decide : 4 ≤ 9223372036854775807)⟩, (by decide : 4 ≤ 4), (by decide : 4 ≤ 9223372036854775807)⟩, b4⟩
  · subst hb; show w.heap.size ≤ w.heap.size + 1; omega
  · subst hb; show w.heap.size ≤ w.heap.size + 2; omega
set_option maxRecDepth 100000 in
set_option maxHeartbeats 1600000 in
theorem rints_any (r : List Int) (p1 p2 : Option Addr) (c1 c2 : Nat) (q1 q2 : Nat → Prop) (w : World) (h1 : Rd w q1 (.slice p1 r.length c1) (r.map tv)) (h2 : Rd w q2 (.slice p2 r.length c2) (r.map tv)) (hm : r.length ≤ 9223372036854775807) :
    Calls Try.prog 24 #[.slice p1 r.length c1, .slice p2 r.length c2] w fun e w' => e = .returned (.bool true) ∧ w.grownBy w' none := by
  have H := Lib.hid (And.intro h1 h2)
  clear h1 h2
  go_enter Try.func24, Try.ntmps24
  go_wp2_with fail
  go_loopw [5] (fun a wr => ∃ k : Nat, k ≤ r.length ∧ a = .int .i64 (k : Int) ∧ w.grownBy wr none) (fun a _ => r.length - (intOf a).toNat)
  case atStart => exact ⟨0, Nat.zero_le _, rfl, grown_refl _ _⟩
  case round =>
    obtain ⟨k, hk, rfl, hG⟩ := hrel
    by_cases hlt : k < r.length
    · obtain ⟨-, b1, o1, rfl, _, hc1⟩ := rdi_at (H.out.1.keep hG) (by omega)
      obtain ⟨-, b2, o2, rfl, _, hc2⟩ := rdi_at (H.out.2.keep hG) (by omega)
      obtain ⟨y, hy⟩ : ∃ y, r[k]? = some y := ⟨_, List.getElem?_eq_getElem hlt⟩
      have e1 := hc1 k y hy
      have e2 := hc2 k y hy
      clear hy
      have HG := Lib.hid hG
      clear hc1 hc2 hG
      go_wp2_with fail
      go_region
      have HG2 := Lib.hid (grown_drew HG.out)
      clear HG e1 e2
      change Exit.then _ _ _ _ wr.drew
      generalize wr.drew = w2 at *
      go_wp2_with fail
      exact ⟨⟨k + 1, by omega, congrArg _ (by omega), HG2.out⟩, by simp only [intOf]; omega⟩
    · obtain rfl : k = r.length := by omega
      have HG := Lib.hid hG
      clear hG
      go_wp2_with fail
      go_ret
      exact ⟨rfl, HG.out⟩
set_option maxRecDepth 100000 in
set_option maxHeartbeats 6400000 in
theorem tawake_any (w : World) : Calls Try.prog 16 #[] w fun e w' => e = .returned (.bool true) ∧ w.grownBy w' none := by
  go_enter Try.func16, Try.ntmps16
  go_wp2_with fail
  refine (ex_any w).mono ?_
  rintro e w1 ⟨pR, cR, pL, cL, rfl, hT, hg⟩
  have HT := Lib.hid hT
  have G1 := Lib.hid hg
  clear hT hg
  go_wp2_with fail
  refine (tbri_any ⟨exR, exL, pR, cR, pL, cL⟩ _ w1 HT.out (fun _ => (show 4 ≤ 12 by decide))).mono ?_
  rw [show (Tg.mk exR exL pR cR pL cL).R = exR from rfl, show (Tg.mk exR exL pR cR pL cL).L = exL from rfl, ex_bri]
  rintro e w2 ⟨pB, cB, rfl, hH, hcB, hg⟩
  have G2 := Lib.hid (grown_trans G1.out hg)
  have HH := Lib.hid hH
  clear hH hg G1 HT
  obtain ⟨-, bH, oH, rfl, -, hcH⟩ := rdh_cells HH.out (by decide)
  obtain ⟨z0, z1⟩ := hcH 0 ⟨1, 2⟩ rfl
  simp only [Nat.zero_mul, Nat.add_zero] at z0 z1
  have HZ := Lib.hid (And.intro z0 z1)
  clear hcH z0 z1 HH
  go_wp2_with fail
  refine (ex_any w2).mono ?_
  rintro e w3 ⟨pR3, cR3, pL3, cL3, rfl, hT, hg⟩
  have HT := Lib.hid hT
  have G3 := Lib.hid hg
  clear hT hg
  go_wp2_with fail
  refine (tcheck_any ⟨exR, exL, pR3, cR3, pL3, cL3⟩ _ w3 HT.out).mono ?_
  rw [show (Tg.mk exR exL pR3 cR3 pL3 cL3).R = exR from rfl, show (Tg.mk exR exL pR3 cR3 pL3 cL3).L = exL from rfl, ex_chk]
  rintro e w4 ⟨rfl, hg⟩
  have G4 := Lib.hid (grown_trans G2.out (grown_trans G3.out hg))
  have z0 := (grown_trans G3.out hg).cell HZ.out.1 (by simp)
  have z1 := (grown_trans G3.out hg).cell HZ.out.2 (by simp)
  clear hg G3 G2 HT HZ
  go_wp2_with fail
  refine (ex_any w4).mono ?_
  rintro e w5 ⟨pR5, cR5, pL5, cL5, rfl, hT, hg⟩
  have HT := Lib.hid hT
  have G5 := Lib.hid (grown_trans G4.out hg)
  clear hT hg z0 z1 G4
  go_wp2_with fail
  refine (tcuts_any ⟨exR, exL, pR5, cR5, pL5, cL5⟩ _ w5 HT.out (fun _ => (show 4 ≤ 12 by decide))).mono ?_
  rw [show (Tg.mk exR exL pR5 cR5 pL5 cL5).R = exR from rfl, show (Tg.mk exR exL pR5 cR5 pL5 cL5).L = exL from rfl, ex_cut]
  rintro e w6 ⟨pX, cX, rfl, hX, -, -, hg⟩
  obtain ⟨k1, k2⟩ := tone_box w6 #[.int .i64 2] 3
  have G7 := Lib.hid (grown_trans G5.out (grown_trans hg k2))
  have HX := Lib.hid (hX.keep k2)
  have H1 : Hid (Rd (w6.alloc (.cells #[.int .i64 2] 3)) (fun _ => True) (.slice (some ⟨w6.heap.size, 0, none⟩) 1 1) ([(2 : Int)].map tv)) := Lib.hid ⟨some ⟨w6.heap.size, 0, none⟩, 1, rfl, fun _ => ⟨w6.heap.size, 0, rfl, trivial, fun i x hi => by
    match i, hi with
    | 0, hi =>
      obtain rfl : tv 2 = x := by simpa using hi
      rw [cell_of_row _ _ _ _ _ _ k1]; rfl⟩⟩
  clear hX hg k1 k2 HT G5
  go_wp2_with fail
  refine (rints_any [2] pX (some ⟨w6.heap.size, 0, none⟩) cX 1 _ _ _ HX.out H1.out (by decide)).mono ?_
  rintro e w8 ⟨rfl, hg⟩
  have G8 := Lib.hid (grown_trans G7.out hg)
  clear hg
  go_wp2_with fail
  go_ret
  exact ⟨rfl, G8.out⟩
end Go.Proofs.Ytiencdgmnkphjaa

/- The law Limits: as many routers and links as are possible; append onto a slice without room. -/
namespace Go.Proofs.Ytiencdgmnkphjaa
open Go.RowKit Bs
/-- append onto a slice whose row is full: a new row. -/
theorem wpList_append_full {α : Type} (f : α → List Value) (size bytes : Nat) (hsz : 0 < size) (hf : ∀ x, (f x).length = size) (e t : TypeId) (i : TypeInfo) (z : Value)
    (ht : Try.prog.underlying t = some (.slice e)) (hi : Try.prog.info? e = some i) (hz : i.zero = some z) (hsize : i.size = size) (hby : i.bytes = bytes) (hzs : z.cells.size = size) (hb40 : bytes ≤ 1000)
    {w : World} {ops : Array Oper} {rest : List Oper} {o : Oper} {a : Act} {Q : Exit → Act → World → Prop} (hgd : o.guard = none) (s x : Operand)
    (ho : o.op = .call { callee := .builtin .append, args := #[s, x], argTypes := #[t, t] }) (g n : Nat) (l : List α) (hn : n = l.length) (hs : a.eval s = .slice (some ⟨g, 0, none⟩) n n) (hl : ∀ j u, (l.flatMap f)[j]? = some u → w.cell? ((⟨g, 0, none⟩ : Addr).add j) = some u)
    (ad : Addr) (c : Nat) (y : α) (hx : a.eval x = .slice (some ad) 1 c) (hy : ∀ j u, (f y)[j]? = some u → w.cell? (ad.add j) = some u) (h63 : n ≤ 100000)
    (h : ∀ v' w', w'.ownsRow w.heap.size e size v' (l ++ [y]).length ((l ++ [y]).flatMap f) → w.grownBy w' none → wpList Try.prog ops Q rest (a.put o.dst v') w') : wpList Try.prog ops Q (o :: rest) a w := by
  subst hn
  subst hsize
  subst hby
  have hll : (l.flatMap f).length = l.length * i.size := flat_len f i.size hf l
  have hyl : (f y).length = 1 * i.size := by rw [hf, Nat.one_mul]
  refine wpList_plain hgd fun K hK => ?_
  have h9 : (l.length + 1) * i.bytes ≤ 140737488355328 := Nat.le_trans (Nat.mul_le_mul (show l.length + 1 ≤ 100001 by omega) hb40) (by decide)
  have hr := run_append_grow (P := Try.prog) w t o.type e i z ht hi hz ⟨g, 0, none⟩ l.length l.length (l.flatMap f) hll hl ad 1 c (f y) hyl hy (by omega) (by omega) (growslice_fits (by omega) h9)
  have hge := grownCap_ge w (l.length + 1) l.length e
  have hcm : grownCap w (l.length + 1) l.length e ≤ maxLen := grownCap_le_maxLen w (l.length + 1) l.length e (by unfold maxLen; omega)
  have hlen : (l ++ [y]).length = l.length + 1 := by simp
  have hfl : (l ++ [y]).flatMap f = l.flatMap f ++ f y := by simp
  obtain ⟨v', w', hrun, h1, h2⟩ : ∃ v' w', (Builtin.append_ #[t, t] o.type #[.slice (some ⟨g, 0, none⟩) l.length l.length, .slice (some ad) 1 c]).run Try.prog w = .ok v' w' ∧ w'.ownsRow w.heap.size e i.size v' (l ++ [y]).length ((l ++ [y]).flatMap f) ∧ w.grownBy w' none := by
    refine ⟨_, _, hr, ?_, ⟨rfl, rfl, rfl, by simp, fun k hk _ => Below.heap_alloc w.drew _ k hk⟩⟩
    rw [hlen, hfl]
    refine ⟨by rw [List.length_append, hll, hyl, Nat.add_mul], .inr ⟨w.heap.size, _, _, rfl, Nat.le_refl _, heap_alloc_new w.drew _, hge, hcm, ?_, ?_⟩⟩
    · rw [Array.size_append, Array.size_append, List.size_toArray, List.size_toArray, size_zeroCells, hzs, hll, hyl, ← Nat.add_mul, ← Nat.add_mul, show l.length + 1 + (grownCap w (l.length + 1) l.length e - (l.length + 1)) = grownCap w (l.length + 1) l.length e by omega]
    · have e1 : (l.length + 1) * i.size = (l.flatMap f ++ f y).length := by rw [List.length_append, hll, hyl, Nat.add_mul]
      rw [Array.toList_append, Array.toList_append, e1]
      exact List.take_left
  clear hr
  unfold Oper.wp
  simp [execOp, ho, resolve, invoke, builtin, hs, hx, hrun, Result.andThen]
  exact hK _ _ (h v' w' h1 h2)
end Go.Proofs.Ytiencdgmnkphjaa

/- While the tape makes a topology. -/
namespace Go.Proofs.Ytiencdgmnkphjaa
open Go.RowKit Bs
/-- While a topology is made: its block holds uR, uL; the routers and the links lie in rows of the call's own, vR and vL. -/
structure TK (a : Nat) (W : World) (uR uL vR vL : Value) (R : List Rt) (L : List Lk) (w : World) : Prop where
  gb : w.heap[W.heap.size + 1]? = some (.cells #[uR, uL] 26 (0, 0))
  rb : w.heap[W.heap.size]? = some (.cells #[.slice none 0 0, .slice none 0 0] 26 (0, 0))
  oR : w.ownsRow (W.heap.size + 2) 73 2 vR R.length (R.flatMap rtC)
  oL : w.ownsRow (W.heap.size + 2) 68 5 vL L.length (L.flatMap lkC)
  ap : ∀ g, vR.ownBlock = some g → vL.ownBlock ≠ some g
  st : St a W w
  sz : W.heap.size + 2 ≤ w.heap.size
theorem own_other {w w' : World} {base size n b : Nat} {e : TypeId} {v : Value} {xs : List Value} (h : w.ownsRow base e size v n xs) (g : w.grownBy w' (some b)) (hb : b < base) : w'.ownsRow base e size v n xs :=
  h.kept g (by
    cases hv : v.ownBlock with
    | none => exact .inl rfl
    | some k => exact .inr (fun e => by have e2 := Option.some.inj e; have := (h.lt k hv).1; omega))
theorem St.storeT {a b : Nat} {W w w1 : World} (h : St a W w) (g : w.grownBy w1 (some b)) (hb : W.heap.size ≤ b) (ha : a < W.heap.size) : St a W w1 := by
  refine ⟨⟨g.os.trans h.1.os, g.tape.trans h.1.tape, g.output.trans h.1.output, Nat.le_trans h.1.size g.size, fun i hi hia => (g.block i (Nat.lt_of_lt_of_le hi h.1.size) (fun e => by have := Option.some.inj e; omega)).trans (h.1.block i hi hia)⟩, ?_⟩
  obtain ⟨v, n, i, T⟩ := h.2
  have hlt : a < w.heap.size := Nat.lt_of_lt_of_le ha h.1.size
  have hk : w1.heap[a]? = w.heap[a]? := g.block a hlt (fun e => by have := Option.some.inj e; omega)
  refine ⟨v, n, i, (World.cell?_of_block (a := ⟨a, 0, none⟩) hk).trans T.l, (World.cell?_of_block (a := ⟨a, 1, none⟩) hk).trans T.p, (World.frozen?_of_block (a := ⟨a, 1, none⟩) hk).trans T.fr, ?_, T.le, T.len⟩
  obtain ⟨p, c, hv, hc⟩ := T.ints
  refine ⟨p, c, hv, fun hn => ?_⟩
  obtain ⟨b1, off, hp, hb1, hx⟩ := hc hn
  refine ⟨b1, off, hp, hb1, fun i hi => ?_⟩
  obtain ⟨x, hx1, hcell⟩ := hx i hi
  exact ⟨x, hx1, g.cell hcell (fun e => by have : b1 = b := Option.some.inj e; omega)⟩
section
variable {a : Nat} {W w w1 : World} {uR uL vR vL v' : Value} {R : List Rt} {L : List Lk}
theorem TK.keep (h : TK a W uR uL vR vL R L w) (g : w.grownBy w1 none) : TK a W uR uL vR vL R L w1 :=
  ⟨kept_row h.gb g (by simp), kept_row h.rb g (by simp), h.oR.kept g (by cases hv : vR.ownBlock <;> simp), h.oL.kept g (by cases hv : vL.ownBlock <;> simp), h.ap, h.st.trans ⟨grown_none g _, h.st.2.keep g⟩, Nat.le_trans h.sz g.size⟩
theorem TK.tape (h : TK a W uR uL vR vL R L w) (ha : a < W.heap.size) (k : St a w w1) : TK a W uR uL vR vL R L w1 :=
  ⟨kept_row h.gb k.1 (fun e => by have := Option.some.inj e; omega), kept_row h.rb k.1 (fun e => by have := Option.some.inj e; omega), own_other h.oR k.1 (by omega), own_other h.oL k.1 (by omega), h.ap, h.st.trans k, Nat.le_trans h.sz k.1.size⟩
theorem TK.start (hT : Tp w a) : TK a w (.slice none 0 0) (.slice none 0 0) (.slice none 0 0) (.slice none 0 0) [] [] ((w.alloc (.cells #[.slice none 0 0, .slice none 0 0] 26)).alloc (.cells #[.slice none 0 0, .slice none 0 0] 26)) := by
  obtain ⟨k1, k2, k3, _⟩ := two_boxes w #[.slice none 0 0, .slice none 0 0] #[.slice none 0 0, .slice none 0 0] 26 26
  exact ⟨k2, k1, World.ownsRow_nil _ _ _ _, World.ownsRow_nil _ _ _ _, fun g hg => (by cases hg), ⟨grown_none k3 _, hT.keep k3⟩, by simp⟩
theorem St.rowT {a base size n : Nat} {W w w1 : World} {e : TypeId} {v : Value} {xs : List Value} (h : St a W w) (ho : w.ownsRow base e size v n xs) (hb : W.heap.size ≤ base) (ha : a < W.heap.size) (k : w.grownBy w1 v.ownBlock) : St a W w1 := by
  cases hv : v.ownBlock with
  | none => rw [hv] at k; exact ⟨grown_trans h.1 (grown_none k _), h.2.keep k⟩
  | some g => rw [hv] at k; exact h.storeT k (Nat.le_trans hb (ho.lt g hv).1) ha
theorem TK.addR {g n cap : Nat} {y : Rt} (h : TK a W uR uL vR vL R L w) (ha : a < W.heap.size) (hown : w1.ownsRow (W.heap.size + 2) 73 2 (.slice (some ⟨g, 0, none⟩) n cap) (R.length + 1) (R.flatMap rtC ++ [.int .i64 y.id, .bool y.cap])) (hg : w.grownBy w1 vR.ownBlock) (hat : vR.ownBlock = some g ∨ g = w.heap.size) :
    TK a W uR uL (.slice (some ⟨g, 0, none⟩) n cap) vL (R ++ [y]) L w1 := by
  have hne : ∀ k, k < W.heap.size + 2 → some k ≠ vR.ownBlock := fun k hk e => by
    have := (h.oR.lt k e.symm).1
    omega
  refine ⟨kept_row h.gb hg (hne _ (by omega)), kept_row h.rb hg (hne _ (by omega)), ?_, h.oL.kept hg ?_, ?_, h.st.rowT h.oR (by omega) ha hg, Nat.le_trans h.sz hg.size⟩
  · rw [List.length_append, List.flatMap_append]; exact hown
  · cases hv : vL.ownBlock with
    | none => exact .inl rfl
    | some k => exact .inr (fun e => h.ap k e.symm hv)
  · intro g2 hg2 e
    obtain rfl : g = g2 := by simpa [Value.ownBlock] using hg2
    rcases hat with hat | hat
    · exact h.ap g hat e
    · have := (h.oL.lt g e).2
      omega
theorem TK.addL {g n cap : Nat} {y : Lk} (h : TK a W uR uL vR vL R L w) (ha : a < W.heap.size) (hown : w1.ownsRow (W.heap.size + 2) 68 5 (.slice (some ⟨g, 0, none⟩) n cap) (L.length + 1) (L.flatMap lkC ++ [.int .i64 y.a, .int .i64 y.b, .int .i64 y.ca, .int .i64 y.cb, .int .i64 y.cp])) (hg : w.grownBy w1 vL.ownBlock) (hat : vL.ownBlock = some g ∨ g = w.heap.size) :
    TK a W uR uL vR (.slice (some ⟨g, 0, none⟩) n cap) R (L ++ [y]) w1 := by
  have hne : ∀ k, k < W.heap.size + 2 → some k ≠ vL.ownBlock := fun k hk e => by
    have := (h.oL.lt k e.symm).1
    omega
  refine ⟨kept_row h.gb hg (hne _ (by omega)), kept_row h.rb hg (hne _ (by omega)), h.oR.kept hg ?_, ?_, ?_, h.st.rowT h.oL (by omega) ha hg, Nat.le_trans h.sz hg.size⟩
  · cases hv : vR.ownBlock with
    | none => exact .inl rfl
    | some k => exact .inr (fun e => h.ap k hv e.symm)
  · rw [List.length_append, List.flatMap_append]; exact hown
  · intro g2 hg2 e
    obtain rfl : g = g2 := by simpa [Value.ownBlock] using e
    rcases hat with hat | hat
    · exact h.ap g hg2 hat
    · have := (h.oR.lt g hg2).2
      omega
theorem TK.put0 (h : TK a W uR uL vR vL R L w) (ha : a < W.heap.size) : TK a W vR uL vR vL R L (w.setCell ⟨W.heap.size + 1, 0, none⟩ vR) := by
  have k : w.grownBy (w.setCell ⟨W.heap.size + 1, 0, none⟩ vR) (some (W.heap.size + 1)) := grown_setCell w ⟨W.heap.size + 1, 0, none⟩ vR
  exact ⟨heap_setCell_same w _ 0 _ _ vR h.gb, kept_row h.rb k (fun e => by have : W.heap.size = W.heap.size + 1 := Option.some.inj e; omega), own_other h.oR k (by omega), own_other h.oL k (by omega), h.ap, h.st.storeT k (by omega) ha, Nat.le_trans h.sz k.size⟩
theorem TK.put1 (h : TK a W uR uL vR vL R L w) (ha : a < W.heap.size) : TK a W uR vL vR vL R L (w.setCell ⟨W.heap.size + 1, 1, none⟩ vL) := by
  have k : w.grownBy (w.setCell ⟨W.heap.size + 1, 1, none⟩ vL) (some (W.heap.size + 1)) := grown_setCell w ⟨W.heap.size + 1, 1, none⟩ vL
  exact ⟨heap_setCell_same w _ 1 _ _ vL h.gb, kept_row h.rb k (fun e => by have : W.heap.size = W.heap.size + 1 := Option.some.inj e; omega), own_other h.oR k (by omega), own_other h.oL k (by omega), h.ap, h.st.storeT k (by omega) ha, Nat.le_trans h.sz k.size⟩
theorem TK.newL {O : List Lk} (h : TK a W uR uL vR vL R L w) (hown : w1.ownsRow w.heap.size 68 5 v' O.length (O.flatMap lkC)) (g : w.grownBy w1 none) : TK a W uR uL vR v' R O w1 := by
  have h1 := h.keep g
  refine ⟨h1.gb, h1.rb, h1.oR, hown.mono h.sz, fun k hk e => ?_, h1.st, h1.sz⟩
  have := (hown.lt k e).1
  have := (h.oR.lt k hk).2
  omega
theorem flat_set : ∀ (L : List Lk) (k j : Nat) (x : Int), k < L.length → j < 5 → ∃ L' : List Lk, L'.length = L.length ∧ L'.flatMap lkC = (L.flatMap lkC).set (k * 5 + j) (.int .i64 x)
  | [], k, _, _, hk, _ => absurd hk (Nat.not_lt_zero k)
  | m :: t, 0, j, x, _, hj => by
    rcases (show j = 0 ∨ j = 1 ∨ j = 2 ∨ j = 3 ∨ j = 4 by omega) with rfl | rfl | rfl | rfl | rfl
    · exact ⟨⟨x, m.b, m.ca, m.cb, m.cp⟩ :: t, rfl, rfl⟩
    · exact ⟨⟨m.a, x, m.ca, m.cb, m.cp⟩ :: t, rfl, rfl⟩
    · exact ⟨⟨m.a, m.b, x, m.cb, m.cp⟩ :: t, rfl, rfl⟩
    · exact ⟨⟨m.a, m.b, m.ca, x, m.cp⟩ :: t, rfl, rfl⟩
    · exact ⟨⟨m.a, m.b, m.ca, m.cb, x⟩ :: t, rfl, rfl⟩
  | m :: t, k + 1, j, x, hk, hj => by
    obtain ⟨L', h1, h2⟩ := flat_set t k j x (by simpa using hk) hj
    refine ⟨m :: L', by simp [h1], ?_⟩
    rw [List.flatMap_cons, h2, List.flatMap_cons]
    have e : (k + 1) * 5 + j = (lkC m).length + (k * 5 + j) := by
      show (k + 1) * 5 + j = 5 + (k * 5 + j)
      omega
    rw [e, List.set_append_right _ _ (Nat.le_add_right _ _), Nat.add_sub_cancel_left]
theorem TK.setL {g n cap k j : Nat} {x : Int} (h : TK a W uR uL vR (.slice (some ⟨g, 0, none⟩) n cap) R L w) (ha : a < W.heap.size) (hk : k < L.length) (hj : j < 5) :
    ∃ L', L'.length = L.length ∧ TK a W uR uL vR (.slice (some ⟨g, 0, none⟩) n cap) R L' (w.setCell ⟨g, k * 5 + j, none⟩ (.int .i64 x)) := by
  obtain ⟨L', hl, hf⟩ := flat_set L k j x hk hj
  obtain ⟨-, -, -⟩ : True ∧ True ∧ True := ⟨trivial, trivial, trivial⟩
  have hg0 := (h.oL.lt g rfl).1
  have hn : n = L.length := by
    obtain ⟨p, c, e, _⟩ := own_shape h.oL
    injection e
  subst hn
  obtain ⟨s1, s2⟩ := h.oL.stored (k * 5 + j) (.int .i64 x)
  refine ⟨L', hl, kept_row h.gb s2 (fun e => by have : W.heap.size + 1 = g := Option.some.inj e; omega), kept_row h.rb s2 (fun e => by have : W.heap.size = g := Option.some.inj e; omega), h.oR.kept s2 ?_, ?_, h.ap, h.st.storeT s2 (by omega) ha, Nat.le_trans h.sz s2.size⟩
  · cases hv : vR.ownBlock with
    | none => exact .inl rfl
    | some k => exact .inr (fun e => h.ap k hv (by rw [e]; rfl))
  · rw [hl, hf]; exact s1
end
/-- What returns a topology of the tape's. -/
def TopoPost (a : Nat) (most : Nat) (n : Int) (w : World) (e : Ending) (w' : World) : Prop :=
  ∃ (R : List Rt) (L : List Lk) (vR vL : Value), e = .returned (.agg #[vR, vL]) ∧ w'.ownsRow w.heap.size 73 2 vR R.length (R.flatMap rtC) ∧ w'.ownsRow w.heap.size 68 5 vL L.length (L.flatMap lkC) ∧ (∀ g, vR.ownBlock = some g → vL.ownBlock ≠ some g) ∧ TopOf most n R L ∧ St a w w'
theorem tg_of_own {w : World} {base : Nat} {vR vL : Value} {R : List Rt} {L : List Lk} (hR : w.ownsRow base 73 2 vR R.length (R.flatMap rtC)) (hL : w.ownsRow base 68 5 vL L.length (L.flatMap lkC)) :
    ∃ pR cR pL cL, vR = .slice pR R.length cR ∧ vL = .slice pL L.length cL ∧ TgOk w (fun b => base ≤ b ∧ b < w.heap.size) ⟨R, L, pR, cR, pL, cL⟩ := by
  obtain ⟨pR, cR, rfl, h1, h2⟩ := own_shape hR
  obtain ⟨pL, cL, rfl, h3, h4⟩ := own_shape hL
  exact ⟨pR, cR, pL, cL, rfl, rfl, rdf_of_own2 hR, rdf_of_own2 hL, ⟨h1, h2⟩, ⟨h3, h4⟩⟩
end Go.Proofs.Ytiencdgmnkphjaa

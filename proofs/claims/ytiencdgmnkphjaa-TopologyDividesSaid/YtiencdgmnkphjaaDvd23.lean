/- Parts of the proof, packed: ToDiLaw. -/
import Derived.Test.YtiencdgmnkphjaaDvd21
import Derived.Test.YtiencdgmnkphjaaDvd22
import Derived.BigQuiet
/- The law TopologyDivides. -/
namespace Go.Proofs.Ytiencdgmnkphjaa
open Go.RowKit Go.Maps Bs
theorem lawI : Keyed Try.prog 3 := int_keyed Try.underlying3
set_option maxRecDepth 100000 in
theorem zeroI (w : World) : (zeroValue 3).run Try.prog w = .ok (.int .i64 0) w := by kernel_rfl
abbrev OwnM (w : World) (b n : Nat) (D : DataW Unit) : Prop := w.ownsMap Try.prog 3 (plainElem Try.prog 3) b n D
theorem wfI {x : Int} (h1 : -1000000 ≤ x) (h2 : x ≤ 9223372036854775807) : (Lit.int .i64 x).wf = true := by
  simp [Lit.wf, IntKind.min, IntKind.max, IntKind.bits, IntKind.signed]
  omega
set_option maxRecDepth 100000 in
/-- A look-up of a number that is there. -/
theorem look_at {w : World} {b n : Nat} {D : DataW Unit} {V : List Int} {f : Int → Int} (h : OwnM w b n D) (hM : MO D V f) {x : Int} (hx : x ∈ V) (h1 : 0 ≤ x ∧ x < 100) :
    (Instr.lookup 76 (.map (some b)) (.int .i64 x) false).run Try.prog w = .ok (.int .i64 (f x)) w := by
  obtain ⟨c, hrun, hat, -⟩ := h.lookup_int (t := 76) lawI Try.underlying76 Try.underlying3 (zeroI _) (key := .int .i64 x) (kl := kI x) (keyOf_int_mk Try.underlying3 (wfI (by omega) (by omega)))
  have := hM.at_ x hx
  rw [show (DataW.lit (kI 0) : DataW Unit) = .lit (.int .i64 0) from rfl, hat] at this
  unfold kI at this
  injection this with this
  injection this with _ this
  rw [hrun, this]
theorem block_lt {w : World} {b : Nat} {o : Obj} (h : w.heap[b]? = some o) : b < w.heap.size := by
  rcases Nat.lt_or_ge b w.heap.size with h1 | h1
  · exact h1
  · rw [Array.getElem?_eq_none h1] at h
    cases h
/-- What is kept while the map is written: its block is Bm. -/
structure DW (w : World) (G Bm : Nat) (T : Tg) (p : Option Addr) (c : Nat) (Cs : List (List Int)) (vs : List Value) (wr : World) : Prop where
  gb : wr.heap[G]? = some (.cells #[.slice T.pR T.R.length T.cR, .slice T.pL T.L.length T.cL] 26 (0, 0))
  t : TgOk wr (· < Bm) T
  cl : CL wr (· < Bm) p c Cs vs
  gr : w.grownBy wr none
  lt : G < Bm ∧ w.heap.size ≤ Bm
theorem CL.grown {w w' : World} {q : Nat → Prop} {p : Option Addr} {c : Nat} {Cs : List (List Int)} {vals : List Value} {r : Option Nat} (h : CL w q p c Cs vals) (g : w.grownBy w' r) (hq : ∀ b, q b → some b ≠ r) : CL w' q p c Cs vals :=
  ⟨h.rd.grown g hq, h.len, h.cap, fun i C x h1 h2 => by
    obtain ⟨p, c, e, hr, hc⟩ := h.at_ i C x h1 h2
    exact ⟨p, c, e, hr.grown g hq, hc⟩⟩
theorem CL.old {w : World} {q : Nat → Prop} {p : Option Addr} {c : Nat} {Cs : List (List Int)} {vals : List Value} (h : CL w q p c Cs vals) : CL w (· < w.heap.size) p c Cs vals :=
  ⟨h.rd.old, h.len, h.cap, fun i C x h1 h2 => by
    obtain ⟨p, c, e, hr, hc⟩ := h.at_ i C x h1 h2
    exact ⟨p, c, e, hr.old, hc⟩⟩
theorem DW.keep {w wr w' : World} {G Bm : Nat} {T : Tg} {p : Option Addr} {c : Nat} {Cs : List (List Int)} {vs : List Value} (h : DW w G Bm T p c Cs vs wr) (g : wr.grownBy w' none) : DW w G Bm T p c Cs vs w' :=
  ⟨kept_row h.gb g (by simp), h.t.keep g, h.cl.keep g, grown_trans h.gr g, h.lt⟩
theorem DW.put {w wr w' : World} {G Bm : Nat} {T : Tg} {p : Option Addr} {c : Nat} {Cs : List (List Int)} {vs : List Value} (h : DW w G Bm T p c Cs vs wr) (g : wr.grownBy w' (some Bm)) : DW w G Bm T p c Cs vs w' :=
  ⟨kept_row h.gb g (fun e => by have := Option.some.inj e; have := h.lt; omega), h.t.grown g (fun b hb e => by have := Option.some.inj e; omega), h.cl.grown g (fun b hb e => by have := Option.some.inj e; omega), grown_new h.gr g h.lt.2, h.lt⟩
theorem DW.list {w wr : World} {G Bm : Nat} {T : Tg} {c : Nat} {Cs : List (List Int)} {vs : List Value} {b off k : Nat} {C : List Int} (h : DW w G Bm T (some ⟨b, off, none⟩) c Cs vs wr) (hC : Cs[k]? = some C) :
    ∃ p2 c2, wr.cell? ⟨b, off + k, none⟩ = some (.slice p2 C.length c2) ∧ (∀ u, DW w G Bm T (some ⟨b, off, none⟩) c Cs vs u → u.cell? ⟨b, off + k, none⟩ = some (.slice p2 C.length c2) ∧ Rd u (· < Bm) (.slice p2 C.length c2) (C.map tv)) ∧ (C.length ≤ c2 ∧ c2 ≤ 9223372036854775807) := by
  have hk := (List.getElem?_eq_some_iff.1 hC).1
  have hl := h.cl.len
  obtain ⟨x, hx⟩ : ∃ x, vs[k]? = some x := ⟨_, List.getElem?_eq_getElem (by omega)⟩
  obtain ⟨p2, c2, rfl, hr, hc⟩ := h.cl.at_ k C x hC hx
  have all : ∀ u, DW w G Bm T (some ⟨b, off, none⟩) c Cs vs u → u.cell? ⟨b, off + k, none⟩ = some (.slice p2 C.length c2) ∧ Rd u (· < Bm) (.slice p2 C.length c2) (C.map tv) := fun u hu => by
    obtain ⟨-, b', off', e, -, k1⟩ := rdv_cells hu.cl.rd (by omega)
    injection e with e
    injection e with e1 e2
    subst e1
    subst e2
    refine ⟨k1 k _ hx, ?_⟩
    obtain ⟨p3, c3, e3, hr3, -⟩ := hu.cl.at_ k C _ hC hx
    injection e3 with e4 e5 e6
    subst e4
    subst e6
    exact hr3
  exact ⟨p2, c2, (all wr h).1, all, hc⟩
theorem DW.rt {w wr : World} {G Bm : Nat} {R : List Rt} {L : List Lk} {pL p : Option Addr} {c cR cL b off k : Nat} {Cs : List (List Int)} {vs : List Value} {m : Rt} (h : DW w G Bm ⟨R, L, some ⟨b, off, none⟩, cR, pL, cL⟩ p c Cs vs wr) (hm : R[k]? = some m) :
    wr.cell? ⟨b, off + k * 2, none⟩ = some (.int .i64 m.id) ∧ wr.cell? ⟨b, off + k * 2 + 1, none⟩ = some (.bool m.cap) := by
  have h1 := (List.getElem?_eq_some_iff.1 hm).1
  obtain ⟨-, b', off', e, -, hc⟩ := rdr_cells (R := R) h.t.r (by omega)
  injection e with e
  injection e with e4 e5
  subst e4
  subst e5
  exact hc k m hm
set_option maxRecDepth 100000 in
set_option maxHeartbeats 6400000 in
theorem tdivides_walk (v : Value) (w : World) (hv : IntsIn w v) :
    Calls Try.prog 9 #[v] w fun e w' => e = .returned (.bool true) ∧ w.grownBy w' none := by
  have hmm := @run_makeMap Try.prog
  go_enter Try.func9, Try.ntmps9
  go_wp2_with fail
  refine (new_any v w hv).mono ?_
  rintro e w2 ⟨rfl, hg1, hT1⟩
  have H2 := Lib.hid (And.intro hg1 hT1)
  obtain ⟨a, ha⟩ : ∃ a, a = w.heap.size := ⟨_, rfl⟩
  rw [← ha] at H2
  have HA := Lib.hid ha
  clear hg1 hT1 hv
  rw [← HA.out]
  clear ha
  go_wp2_with fail
  refine (topo_tg a 8 0 (by decide) (by decide) (by unfold I64; omega) w2 H2.out.2).mono ?_
  rintro e w3 ⟨T, rfl, hT, hO, hs3⟩
  obtain ⟨R, L, pR, cR, pL, cL⟩ := T
  simp only at hO ⊢
  have gal := World.grownBy_alloc w3 (.cells #[.slice pR R.length cR, .slice pL L.length cL] 26) none
  have ha2 : a < w2.heap.size := H2.out.2.lt
  have ha3 : a < w3.heap.size := Nat.lt_of_lt_of_le ha2 hs3.1.size
  have HW4 : Hid (w.grownBy (w3.alloc (.cells #[.slice pR R.length cR, .slice pL L.length cL] 26)) none) := Lib.hid (grown_trans (grown_tape H2.out.1 (by rw [← HA.out]; exact hs3.1)) gal)
  have HG : Hid ((w3.alloc (.cells #[.slice pR R.length cR, .slice pL L.length cL] 26)).heap[w3.heap.size]? = some (.cells #[.slice pR R.length cR, .slice pL L.length cL] 26 (0, 0)) ∧ TgOk (w3.alloc (.cells #[.slice pR R.length cR, .slice pL L.length cL] 26)) (fun b => w2.heap.size ≤ b ∧ b < w3.heap.size) ⟨R, L, pR, cR, pL, cL⟩ ∧ Tp (w3.alloc (.cells #[.slice pR R.length cR, .slice pL L.length cL] 26)) a ∧ w3.heap.size < (w3.alloc (.cells #[.slice pR R.length cR, .slice pL L.length cL] 26)).heap.size) :=
    Lib.hid ⟨heap_alloc_new w3 _, hT.keep gal, hs3.2.keep gal, by simp⟩
  have hm1 := Nat.le_trans hT.cr.1 hT.cr.2
  have hm2 := Nat.le_trans hT.cl.1 hT.cl.2
  simp only at hm1 hm2
  have HOT := Lib.hid hO
  clear hT hs3 gal hO
  go_upto_region 3 with fail
  generalize w3.alloc _ = w4 at *
  have HQ : Hid (∀ (u : World), w4.grownBy u (some a) → Tp u a → (TgOk u (fun b => w2.heap.size ≤ b ∧ b < w3.heap.size) ⟨R, L, pR, cR, pL, cL⟩ ∧ (∀ b, (w2.heap.size ≤ b ∧ b < w3.heap.size) → b ≠ a ∧ b < u.heap.size))) :=
    Lib.hid (fun u g _ => ⟨HG.out.2.1.grown g (fun b hb e => by have := Option.some.inj e; omega), fun b hb => ⟨by omega, Nat.lt_of_lt_of_le hb.2 (Nat.le_trans (Nat.le_of_lt HG.out.2.2.2) g.size)⟩⟩)
  refine region_until (S := fun w' => Hid (w4.grownBy w' (some a) ∧ Tp w' a)) (fun j => j == 5) (by kernel_rfl) (Lib.hid ⟨grown_drew (grown_refl _ _), HG.out.2.2.1.drew⟩) (fun hHeld => ?_)
  refine anyU_take (i := 0) (oi := { dst := some 18, op := Op.load 26 (Operand.tmp 4), type := 26, pos := "law.go:136", after := #[], guard := none }) (v := ?_) rfl (by kernel_rfl) (by kernel_rfl) (by kernel_rfl) (by kernel_rfl) (by kernel_rfl) (fun _ _ _ h => h) (Or.inl ⟨by rfl, ?_⟩) hHeld ?_
  rotate_left 1
  · intro u hSu
    obtain ⟨q0, q1⟩ := row_cells (kept_row HG.out.1 hSu.out.1 (fun e => by have := Option.some.inj e; omega))
    go_simp
    first | done | with_reducible rfl
  (try simp only [Act.put, List.setIfInBounds_toArray, List.set_cons_zero, List.set_cons_succ])
  refine anyU_take (i := 1) (oi := { dst := some 19, op := Op.move (Operand.tmp 3), type := 27, pos := "law.go:136", after := #[], guard := none }) (v := ?_) rfl (by kernel_rfl) (by kernel_rfl) (by kernel_rfl) (by kernel_rfl) (by kernel_rfl) (fun _ _ _ h => h) (Or.inl ⟨by rfl, ?_⟩) hHeld ?_
  rotate_left 1
  · intro u hSu
    obtain ⟨q0, q1⟩ := row_cells (kept_row HG.out.1 hSu.out.1 (fun e => by have := Option.some.inj e; omega))
    go_simp
    first | done | with_reducible rfl
  (try simp only [Act.put, List.setIfInBounds_toArray, List.set_cons_zero, List.set_cons_succ])
  refine anyU_take (i := 2) (oi := { dst := some 20, op := Op.load 26 (Operand.tmp 4), type := 26, pos := "law.go:136", after := #[], guard := none }) (v := ?_) rfl (by kernel_rfl) (by kernel_rfl) (by kernel_rfl) (by kernel_rfl) (by kernel_rfl) (fun _ _ _ h => h) (Or.inl ⟨by rfl, ?_⟩) hHeld ?_
  rotate_left 1
  · intro u hSu
    obtain ⟨q0, q1⟩ := row_cells (kept_row HG.out.1 hSu.out.1 (fun e => by have := Option.some.inj e; omega))
    go_simp
    first | done | with_reducible rfl
  (try simp only [Act.put, List.setIfInBounds_toArray, List.set_cons_zero, List.set_cons_succ])
  refine anyU_ready (rs := [3]) (by kernel_rfl) (by simp) ?_
  refine EachU.cons (o := { dst := some 21, op := Op.call { callee := Callee.value (Operand.func 30), args := #[Operand.tmp 19, Operand.tmp 20], argTypes := #[27, 26] }, type := 47, pos := "law.go:136", after := #[{ on := 1, ground := Ground.data }, { on := 2, ground := Ground.data }], guard := none }) rfl (fun Kz hK => ?_) EachU.nil
  go_simp
  go_at_call 30
  refine (fails_any a ⟨R, L, pR, cR, pL, cL⟩ _ _ (HQ.out _ hHeld.out.1 hHeld.out.2).1 (HQ.out _ hHeld.out.1 hHeld.out.2).2 hHeld.out.2).mono ?_
  rintro e w6 ⟨Hh, Xh, vh, vx, rfl, hH, hX, -, -, hs⟩
  obtain ⟨F, rfl, rfl, hF⟩ := fl_of_own hH hX
  have HF := Lib.hid hF
  clear hH hX hF
  refine hK.out _ _ (fun _ => Lib.hid ⟨grown_trans hHeld.out.1 hs.1, hs.2⟩) (fun hH2 => ?_)
  clear hK Kz hHeld
  have hHeld := hH2 rfl
  clear hH2
  (try simp only [Act.put, List.setIfInBounds_toArray, List.set_cons_zero, List.set_cons_succ])
  refine anyU_ready (rs := [4]) (by kernel_rfl) (by simp) ?_
  refine EachU.cons (o := { dst := some 22, op := Op.call { callee := Callee.value (Operand.func 33), args := #[Operand.tmp 18, Operand.tmp 21], argTypes := #[26, 47] }, type := 26, pos := "law.go:136", after := #[{ on := 0, ground := Ground.data }, { on := 3, ground := Ground.data }, { on := 3, ground := Ground.chain }], guard := none }) rfl (fun Kz hK => ?_) EachU.nil
  go_simp
  go_at_call 33
  refine (rwithout_any ⟨R, L, pR, cR, pL, cL⟩ F _ _ _ (HQ.out _ hHeld.out.1 hHeld.out.2).1 HF.out).mono ?_
  rintro e w7 ⟨pu, cu, pv, cv, rfl, hTr, hg⟩
  simp only at hTr ⊢
  obtain ⟨Rw, hRw⟩ : ∃ Rw, (if okT R L = true then woR F R else []) = Rw := ⟨_, rfl⟩
  obtain ⟨Lw, hLw⟩ : ∃ Lw, (if okT R L = true then woL F L else []) = Lw := ⟨_, rfl⟩
  have HOK : Hid (okT Rw Lw = true ∧ Rw.length ≤ 9) := Lib.hid (by
  have hc : chk Rw Lw = 0 := by rw [← hRw, ← hLw]; exact wo_chk F R L
  refine ⟨by unfold okT; simpa using hc, ?_⟩
  rw [← hRw]
  split
  · rename_i hok
    obtain ⟨h24, -⟩ := okT_len hok
    have h0 := HOT.out.2.1
    have h1 : (woR F R).length ≤ R.length := List.length_filter_le _ _
    omega
  · exact Nat.zero_le _)
  rw [hRw, hLw] at hTr
  rw [hRw, hLw]
  have h67 := hHeld.out.1
  have hsz6 := h67.size
  have hTr2 := hTr.mono (q' := fun b => b ≠ a ∧ b ≠ w3.heap.size) (fun b hb => by have := HG.out.2.2.2; constructor <;> omega)
  have HT7 := Lib.hid hTr2
  clear hRw hLw hTr hTr2 h67
  refine hK.out _ _ (fun _ => Lib.hid ⟨grown_trans hHeld.out.1 (grown_none hg _), hHeld.out.2.keep hg⟩) (fun hH2 => ?_)
  clear hK Kz hHeld
  have hHeld := hH2 rfl
  clear hH2
  (try simp only [Act.put, List.setIfInBounds_toArray, List.set_cons_zero, List.set_cons_succ])
  refine anyU_ready (rs := [5]) (by kernel_rfl) (by simp) ?_
  refine EachU.cons (o := { dst := none, op := Op.store 26 (Operand.tmp 4) (Operand.tmp 22), type := 0, pos := "law.go:136", after := #[{ on := 4, ground := Ground.data }, { on := 4, ground := Ground.chain }, { on := 0, ground := Ground.phase }, { on := 1, ground := Ground.phase }, { on := 2, ground := Ground.phase }, { on := 3, ground := Ground.phase }, { on := 4, ground := Ground.phase }], guard := none }) rfl (fun Kz hK => ?_) EachU.nil
  have hb5 := kept_row HG.out.1 hHeld.out.1 (fun e => by have := Option.some.inj e; omega)
  obtain ⟨z0, z1⟩ := row_cells hb5
  have y0 := frozen_of_row _ _ 0 _ _ hb5
  have y1 := frozen_of_row _ _ 1 _ _ hb5
  clear hb5
  go_simp
  refine hK.out _ _ (fun h => by cases h) (fun _ => ?_)
  clear hK Kz
  (try simp only [Act.put, List.setIfInBounds_toArray, List.set_cons_zero, List.set_cons_succ])
  refine anyU_done (by kernel_rfl) ?_ _
  have hb7 := kept_row HG.out.1 hHeld.out.1 (fun e => by have := Option.some.inj e; omega)
  have hst := grown_store2 w7 w3.heap.size (.slice pu Rw.length cu) (.slice pv Lw.length cv)
  have HP : Hid (PW w a w3.heap.size ⟨Rw, Lw, pu, cu, pv, cv⟩ ((w7.setCell ⟨w3.heap.size, 0, none⟩ (.slice pu Rw.length cu)).setCell ⟨w3.heap.size, 1, none⟩ (.slice pv Lw.length cv))) := Lib.hid ⟨store2 hb7, (HT7.out.grown hst (fun b hb e => hb.2 (Option.some.inj e))).mono (fun b hb => hb.1), hHeld.out.2.other hst (by omega), grown_new (grown_new HW4.out hHeld.out.1 (by have := HA.out; omega)) hst (by have := HW4.out.size; have := HA.out; omega), ⟨by have := HA.out; omega, by omega⟩⟩
  have hmu := Nat.le_trans HT7.out.cr.1 HT7.out.cr.2
  have hmv := Nat.le_trans HT7.out.cl.1 HT7.out.cl.2
  simp only at hmu hmv
  clear hHeld hb7 hst HT7 HF HQ HG HW4 H2 HOT
  try clear z0 z1 y0 y1
  generalize (w7.setCell _ _).setCell _ _ = wp at *
  obtain ⟨G, hG⟩ : ∃ G, G = w3.heap.size := ⟨_, rfl⟩
  rw [← hG] at HP
  rw [← hG]
  clear hG ha3
  obtain ⟨c0, c1⟩ := row_cells HP.out.gb
  go_wp2_with fail
  refine (tcomps_any ⟨Rw, Lw, pu, cu, pv, cv⟩ _ _ HP.out.t (fun _ => Nat.le_trans HOK.out.2 (by decide))).mono ?_
  rintro e w8 hpost
  obtain ⟨p1, c1, vs1, rfl, hCA0, hg⟩ := hpost.cl
  have HP8 := Lib.hid (HP.out.keep hg)
  have HCA := Lib.hid hCA0.old
  have hcm := Nat.le_trans hCA0.cap.1 hCA0.cap.2
  simp only
  obtain ⟨Cs, hCs⟩ : ∃ Cs, comps Rw Lw = Cs := ⟨_, rfl⟩
  have HCE : Hid (Cs.flatten.Nodup ∧ Cs.flatten.length = Rw.length ∧ (∀ x, x ∈ Cs.flatten ↔ ∃ r ∈ Rw, r.id = x) ∧ comps Rw Lw = Cs) := Lib.hid (by
    obtain ⟨h1, h2, h3⟩ := comps_perm HOK.out.1
    rw [hCs] at h1 h2 h3
    exact ⟨h1, h2, h3, hCs⟩)
  rw [hCs] at HCA hcm ⊢
  clear hpost hCA0 hg hCs HP c0
  go_upto_region 6 with fail
  have gam := World.grownBy_alloc w8 (.map #[] 0) none
  have HD0 : Hid (DW w G w8.heap.size ⟨Rw, Lw, pu, cu, pv, cv⟩ p1 c1 Cs vs1 (w8.alloc (.map #[] 0))) := Lib.hid ⟨kept_row HP8.out.gb gam (by simp), HP8.out.t.old.keep gam, HCA.out.keep gam, grown_trans HP8.out.gr gam, ⟨block_lt HP8.out.gb, HP8.out.gr.size⟩⟩
  have HM0 : Hid (OwnM (w8.alloc (.map #[] 0)) w8.heap.size (gone Cs 0 [] 0).length (.map []) ∧ MO (.map []) (gone Cs 0 [] 0) (cix Cs)) := Lib.hid ⟨World.ownsMap_made _ _ _ _, MO.nil _⟩
  generalize w8.alloc _ = w9 at *
  obtain ⟨Bm, hBm⟩ : ∃ Bm, w8.heap.size = Bm := ⟨_, rfl⟩
  rw [hBm] at HD0 HM0 ⊢
  clear hBm gam HP8 HCA
  have hb0 : ∀ i C k, Hid (i ≤ Cs.length) → (gone Cs i C k).length ≤ 9 + k := fun i C k _ => by
    have h1 := HCE.out.2.1
    have h2 := HOK.out.2
    unfold gone
    rw [List.length_append, List.length_take]
    have h3 : (Cs.take i).flatten.length ≤ Cs.flatten.length := by
      conv => rhs; rw [← List.take_append_drop i Cs, List.flatten_append, List.length_append]
      omega
    omega
  have HB0 := Lib.hid hb0
  clear hb0
  go_wp2_with fail
  go_loopw [7, 8] (fun nn i wr => ∃ (j : Nat) (D : DataW Unit), j ≤ Cs.length ∧ i = .int .i64 (j : Int) ∧ nn = .int .i64 ((gone Cs j [] 0).length : Int) ∧ Hid (DW w G Bm ⟨Rw, Lw, pu, cu, pv, cv⟩ p1 c1 Cs vs1 wr) ∧ Hid (OwnM wr Bm (gone Cs j [] 0).length D ∧ MO D (gone Cs j [] 0) (cix Cs))) (fun _ i _ => Cs.length - (intOf i).toNat)
  case atStart => exact ⟨0, _, Nat.zero_le _, rfl, rfl, HD0, HM0⟩
  case round =>
  obtain ⟨w10, rfl⟩ : ∃ w10, w10 = wr := ⟨_, rfl⟩
  obtain ⟨j, D, hj, rfl, rfl, HD, HM⟩ := hrel
  clear HD0 HM0
  by_cases hlt : j < Cs.length
  · have hv1 := HD.out.cl.len
    obtain ⟨-, b1, o1, rfl, -, -⟩ := rdv_cells HD.out.cl.rd (by omega)
    obtain ⟨C, hC⟩ : ∃ C, Cs[j]? = some C := ⟨_, List.getElem?_eq_getElem hlt⟩
    obtain ⟨p2, c2, -, hall, hc2⟩ := HD.out.list hC
    have HALL := Lib.hid hall
    have HC := Lib.hid hC
    have hcm2 := Nat.le_trans hc2.1 hc2.2
    have i0 : (0 : Int) ≤ (j : Int) := by omega
    have i1 : (j : Int) < (Cs.length : Int) := by omega
    have HM1 : Hid (OwnM w10 Bm (gone Cs j C 0).length D ∧ MO D (gone Cs j C 0) (cix Cs)) := Lib.hid (by have := HM.out; unfold gone at this ⊢; exact this)
    have hg0 : ((gone Cs j [] 0).length : Int) = ((gone Cs j C 0).length : Int) := by unfold gone; rfl
    have HJ := Lib.hid hj
    rw [hg0]
    clear hall hC hv1 HM hg0
    go_wp2_with fail
    go_loopw [7, 9] (fun nn i wr => ∃ (k : Nat) (D : DataW Unit) (N : Nat), k ≤ C.length ∧ i = .int .i64 (k : Int) ∧ nn = .int .i64 (N : Int) ∧ N = (gone Cs j C k).length ∧ Hid (DW w G Bm ⟨Rw, Lw, pu, cu, pv, cv⟩ (some ⟨b1, o1, none⟩) c1 Cs vs1 wr) ∧ Hid (OwnM wr Bm N D ∧ MO D (gone Cs j C k) (cix Cs))) (fun _ i _ => C.length - (intOf i).toNat)
    case atStart => exact ⟨0, D, _, Nat.zero_le _, rfl, rfl, rfl, HD, HM1⟩
    case round =>
    obtain ⟨k, D', N, hk, rfl, rfl, hN, HD', HM'⟩ := hrel
    clear HD HM1
    have HNN := Lib.hid hN
    obtain ⟨d0, hrd⟩ := HALL.out _ HD'.out
    by_cases hkt : k < C.length
    · have hN8 : N ≤ 9 + k := by rw [hN]; exact HB0.out j C k HJ
      have hC8 : C.length ≤ 9 := by
        have h1 := HB0.out (j + 1) [] 0 (Lib.hid hlt)
        rw [← gone_next HC.out] at h1
        unfold gone at h1
        rw [List.length_append, List.take_length] at h1
        omega
      obtain ⟨-, b2, o2, rfl, -, hcc⟩ := rdi_at hrd (by omega)
      obtain ⟨x, hx⟩ : ∃ x, C[k]? = some x := ⟨_, List.getElem?_eq_getElem hkt⟩
      have d1 := hcc k x hx
      have HX := Lib.hid hx
      have hxr : 0 ≤ x ∧ x < 100 := by
        obtain ⟨r, hr, e⟩ := (HCE.out.2.2.1 x).1 (List.mem_flatten.2 ⟨C, List.mem_of_getElem? HC.out, List.mem_of_getElem? hx⟩)
        obtain ⟨n, en, hn⟩ := rt_nat HOK.out.1 hr
        omega
      have HXR := Lib.hid hxr
      obtain ⟨g1, g2⟩ := gone_new HCE.out.1 HC.out hx
      have HG12 := Lib.hid (And.intro g1 g2)
      have hval : (cix Cs x) = (j : Int) := cix_at HCE.out.1 HC.out (List.mem_of_getElem? hx)
      have HVAL := Lib.hid hval
      have k0 : (0 : Int) ≤ (k : Int) := by omega
      have k1 : (k : Int) < (C.length : Int) := by omega
      have hown := HM'.out.1
      have hj8 : (j : Int) ≤ 9223372036854775807 := by omega
      clear hcc hx g1 g2 hval hrd hN hxr
      go_wp2_with (first | (at_mapUpdate; refine hold_on ?_))
      refine Lib.hid ?_
      refine wpList_mapUpdate_own _ rfl _ _ _ 76 rfl 3 3 lawI Try.underlying76 _ Bm N _ rfl hown (by unfold maxLen; omega) _ _ (kI x) rfl rfl (keyOf_int_mk Try.underlying3 (wfI (by have := HXR.out; omega) (by have := HXR.out; omega))) _ [] (plainElem_int Try.underlying3 (wfI (by omega) hj8)) ?_
      intro w11 hown1 hgrow1
      have HD11 := Lib.hid (HD'.out.put hgrow1)
      have HM11 : Hid (OwnM w11 Bm (N + 1) (D'.put (kI x) (.lit (kI (cix Cs x)))) ∧ MO (D'.put (kI x) (.lit (kI (cix Cs x)))) (gone Cs j C (k + 1)) (cix Cs)) := Lib.hid (by
        refine ⟨by rw [HVAL.out]; exact hown1, ?_⟩
        rw [HG12.out.2]
        exact HM'.out.2.put HG12.out.1)
      have HN1 : Hid (N + 1 = (gone Cs j C (k + 1)).length) := Lib.hid (by rw [HG12.out.2, List.length_append, HNN.out]; rfl)
      clear hown hown1 hgrow1 HD' HM' d0 d1 k0 k1
      go_wp2_with fail
      exact ⟨⟨k + 1, _, N + 1, by omega, congrArg _ (by omega), congrArg _ (by omega), HN1.out, HD11, HM11⟩, by simp only [intOf]; omega⟩
    · obtain rfl : k = C.length := by omega
      have e := gone_next (D := []) HC.out
      rw [e] at hN HM'
      subst hN
      clear hrd HNN e
      go_wp2_with fail
      exact ⟨⟨j + 1, D', by omega, congrArg _ (by omega), rfl, HD', HM'⟩, by simp only [intOf]; omega⟩
  · obtain rfl : j = Cs.length := by omega
    rw [gone_end] at HM ⊢
    have hlen := HCE.out.2.1
    have hsz := HM.out.2.sz
    have hrun := fun ty => HM.out.1.len (t := 76) Try.underlying76 ty
    rw [hsz] at hrun
    rw [hlen] at hrun HM ⊢
    have HF := Lib.hid hlen
    obtain ⟨c0, c1'⟩ := row_cells HD.out.gb
    have hne : ((Rw.length : Int) != (Rw.length : Int)) = false := by simp
    clear hlen hsz
    go_upto_region 17 with fail
    clear hrun c0 c1'
    go_wp2_with fail
    go_loopw [10] (fun i wr => ∃ j : Nat, j ≤ Rw.length ∧ i = .int .i64 (j : Int) ∧ Hid (DW w G Bm ⟨Rw, Lw, pu, cu, pv, cv⟩ p1 c1 Cs vs1 wr ∧ OwnM wr Bm Rw.length D)) (fun i _ => Rw.length - (intOf i).toNat)
    case atStart => exact ⟨0, Nat.zero_le _, rfl, Lib.hid ⟨HD.out, HM.out.1⟩⟩
    case round =>
    obtain ⟨j, hj, rfl, HK⟩ := hrel
    clear HD
    obtain ⟨c0, c1'⟩ := row_cells HK.out.1.gb
    by_cases hlt : j < Rw.length
    · obtain ⟨-, b1, o1, rfl, -, -⟩ := rdr_cells (R := Rw) HK.out.1.t.r (by omega)
      obtain ⟨m, hm⟩ : ∃ m, Rw[j]? = some m := ⟨_, List.getElem?_eq_getElem hlt⟩
      have HMM := Lib.hid hm
      have i0 : (0 : Int) ≤ (j : Int) := by omega
      have i1 : (j : Int) < (Rw.length : Int) := by omega
      clear hm
      go_wp2_with fail
      go_loopw [11] (fun i wr => ∃ k : Nat, k ≤ Rw.length ∧ i = .int .i64 (k : Int) ∧ Hid (DW w G Bm ⟨Rw, Lw, some ⟨b1, o1, none⟩, cu, pv, cv⟩ p1 c1 Cs vs1 wr ∧ OwnM wr Bm Rw.length D)) (fun i _ => Rw.length - (intOf i).toNat)
      case atStart => exact ⟨0, Nat.zero_le _, rfl, HK⟩
      case round =>
      obtain ⟨k, hk, rfl, HK'⟩ := hrel
      clear HK c0 c1'
      obtain ⟨c0, c1'⟩ := row_cells HK'.out.1.gb
      by_cases hkt : k < Rw.length
      · obtain ⟨m2, hm2⟩ : ∃ m, Rw[k]? = some m := ⟨_, List.getElem?_eq_getElem hkt⟩
        have HMM2 := Lib.hid hm2
        have k0 : (0 : Int) ≤ (k : Int) := by omega
        have k1 : (k : Int) < (Rw.length : Int) := by omega
        obtain ⟨a0, a1⟩ := HK'.out.1.rt HMM.out
        obtain ⟨e0, e1⟩ := HK'.out.1.rt hm2
        have N5 : ∀ n, Hid (DW w G Bm ⟨Rw, Lw, some ⟨b1, o1, none⟩, cu, pv, cv⟩ p1 c1 Cs vs1 (wr.drewN n) ∧ OwnM (wr.drewN n) Bm Rw.length D) := fun n => Lib.hid ⟨HK'.out.1.keep (grown_drewN _ n _), HK'.out.2.kept (grown_drewN _ n none) (by simp)⟩
        clear hm2 HK'
        go_upto_region 23 with fail
        go_quiet (fail)
        have M5 := N5 nq
        clear N5 c0 c1' a0 a1 e0 e1
        generalize wr.drewN nq = wq at *
        have HMA : Hid (m.id ∈ Cs.flatten ∧ 0 ≤ m.id ∧ m.id < 100) := Lib.hid (by
          have hmm := List.mem_of_getElem? HMM.out
          obtain ⟨n, en, hn⟩ := rt_nat HOK.out.1 hmm
          exact ⟨(HCE.out.2.2.1 _).2 ⟨m, hmm, rfl⟩, by omega, by omega⟩)
        have HMB : Hid (m2.id ∈ Cs.flatten ∧ 0 ≤ m2.id ∧ m2.id < 100) := Lib.hid (by
          have hmm := List.mem_of_getElem? HMM2.out
          obtain ⟨n, en, hn⟩ := rt_nat HOK.out.1 hmm
          exact ⟨(HCE.out.2.2.1 _).2 ⟨m2, hmm, rfl⟩, by omega, by omega⟩)
        have hcx : conn Rw Lw m.id m2.id = (cix Cs m.id == cix Cs m2.id) := by
          rw [conn_cix HOK.out.1 ⟨m, List.mem_of_getElem? HMM.out, rfl⟩ ⟨m2, List.mem_of_getElem? HMM2.out, rfl⟩, HCE.out.2.2.2]
        obtain ⟨z, hz⟩ : ∃ z, conn Rw Lw m.id m2.id = z := ⟨_, rfl⟩
        have HZ := Lib.hid (And.intro hz (hcx.symm.trans hz))
        clear hcx hz
        have MD : Hid (DW w G Bm ⟨Rw, Lw, some ⟨b1, o1, none⟩, cu, pv, cv⟩ p1 c1 Cs vs1 wq.drew ∧ OwnM wq.drew Bm Rw.length D) := Lib.hid ⟨M5.out.1.keep (grown_drew (grown_refl _ _)), M5.out.2.drew⟩
        go_upto_region 24 with fail
        refine wp_region_held_drew (S := fun w' => Hid (DW w G Bm ⟨Rw, Lw, some ⟨b1, o1, none⟩, cu, pv, cv⟩ p1 c1 Cs vs1 w' ∧ OwnM w' Bm Rw.length D)) (by kernel_rfl) (MD) (fun hHeld => ?_)
        refine wpAnyH_take (i := 0) (oi := { dst := some 89, op := Op.load 26 (Operand.tmp 4), type := 26, pos := "law.go:152", after := #[], guard := none }) (v := ?_) rfl (by kernel_rfl) (by kernel_rfl) (by kernel_rfl) (fun _ _ _ h => h) (Or.inl ⟨by rfl, ?_⟩) hHeld ?_
        rotate_left 1
        · intro u hSu
          obtain ⟨q0, q1⟩ := row_cells hSu.out.1.gb
          have q2 := look_at hSu.out.2 HM.out.2 HMA.out.1 HMA.out.2
          have q3 := look_at hSu.out.2 HM.out.2 HMB.out.1 HMB.out.2
          go_simp
          first | done | with_reducible rfl
        (try simp only [Act.put, List.setIfInBounds_toArray, List.set_cons_zero, List.set_cons_succ])
        refine wpAnyH_take (i := 1) (oi := { dst := some 90, op := Op.move (Operand.tmp 12), type := 3, pos := "law.go:152", after := #[], guard := none }) (v := ?_) rfl (by kernel_rfl) (by kernel_rfl) (by kernel_rfl) (fun _ _ _ h => h) (Or.inl ⟨by rfl, ?_⟩) hHeld ?_
        rotate_left 1
        · intro u hSu
          obtain ⟨q0, q1⟩ := row_cells hSu.out.1.gb
          have q2 := look_at hSu.out.2 HM.out.2 HMA.out.1 HMA.out.2
          have q3 := look_at hSu.out.2 HM.out.2 HMB.out.1 HMB.out.2
          go_simp
          first | done | with_reducible rfl
        (try simp only [Act.put, List.setIfInBounds_toArray, List.set_cons_zero, List.set_cons_succ])
        refine wpAnyH_take (i := 2) (oi := { dst := some 91, op := Op.move (Operand.tmp 13), type := 3, pos := "law.go:152", after := #[], guard := none }) (v := ?_) rfl (by kernel_rfl) (by kernel_rfl) (by kernel_rfl) (fun _ _ _ h => h) (Or.inl ⟨by rfl, ?_⟩) hHeld ?_
        rotate_left 1
        · intro u hSu
          obtain ⟨q0, q1⟩ := row_cells hSu.out.1.gb
          have q2 := look_at hSu.out.2 HM.out.2 HMA.out.1 HMA.out.2
          have q3 := look_at hSu.out.2 HM.out.2 HMB.out.1 HMB.out.2
          go_simp
          first | done | with_reducible rfl
        (try simp only [Act.put, List.setIfInBounds_toArray, List.set_cons_zero, List.set_cons_succ])
        refine wpAnyH_take (i := 4) (oi := { dst := some 93, op := Op.move (Operand.tmp 6), type := 76, pos := "law.go:152", after := #[], guard := none }) (v := ?_) rfl (by kernel_rfl) (by kernel_rfl) (by kernel_rfl) (fun _ _ _ h => h) (Or.inl ⟨by rfl, ?_⟩) hHeld ?_
        rotate_left 1
        · intro u hSu
          obtain ⟨q0, q1⟩ := row_cells hSu.out.1.gb
          have q2 := look_at hSu.out.2 HM.out.2 HMA.out.1 HMA.out.2
          have q3 := look_at hSu.out.2 HM.out.2 HMB.out.1 HMB.out.2
          go_simp
          first | done | with_reducible rfl
        (try simp only [Act.put, List.setIfInBounds_toArray, List.set_cons_zero, List.set_cons_succ])
        refine wpAnyH_take (i := 5) (oi := { dst := some 94, op := Op.move (Operand.tmp 12), type := 3, pos := "law.go:152", after := #[], guard := none }) (v := ?_) rfl (by kernel_rfl) (by kernel_rfl) (by kernel_rfl) (fun _ _ _ h => h) (Or.inl ⟨by rfl, ?_⟩) hHeld ?_
        rotate_left 1
        · intro u hSu
          obtain ⟨q0, q1⟩ := row_cells hSu.out.1.gb
          have q2 := look_at hSu.out.2 HM.out.2 HMA.out.1 HMA.out.2
          have q3 := look_at hSu.out.2 HM.out.2 HMB.out.1 HMB.out.2
          go_simp
          first | done | with_reducible rfl
        (try simp only [Act.put, List.setIfInBounds_toArray, List.set_cons_zero, List.set_cons_succ])
        refine wpAnyH_take (i := 6) (oi := { dst := some 95, op := Op.lookup 76 (Operand.tmp 93) (Operand.tmp 94) false, type := 3, pos := "law.go:152", after := #[{ on := 4, ground := Ground.data }, { on := 5, ground := Ground.data }], guard := none }) (v := ?_) rfl (by kernel_rfl) (by kernel_rfl) (by kernel_rfl) (fun _ _ _ h => h) (Or.inl ⟨by rfl, ?_⟩) hHeld ?_
        rotate_left 1
        · intro u hSu
          obtain ⟨q0, q1⟩ := row_cells hSu.out.1.gb
          have q2 := look_at hSu.out.2 HM.out.2 HMA.out.1 HMA.out.2
          have q3 := look_at hSu.out.2 HM.out.2 HMB.out.1 HMB.out.2
          go_simp
          first | done | with_reducible rfl
        (try simp only [Act.put, List.setIfInBounds_toArray, List.set_cons_zero, List.set_cons_succ])
        refine wpAnyH_take (i := 7) (oi := { dst := some 96, op := Op.move (Operand.tmp 6), type := 76, pos := "law.go:152", after := #[], guard := none }) (v := ?_) rfl (by kernel_rfl) (by kernel_rfl) (by kernel_rfl) (fun _ _ _ h => h) (Or.inl ⟨by rfl, ?_⟩) hHeld ?_
        rotate_left 1
        · intro u hSu
          obtain ⟨q0, q1⟩ := row_cells hSu.out.1.gb
          have q2 := look_at hSu.out.2 HM.out.2 HMA.out.1 HMA.out.2
          have q3 := look_at hSu.out.2 HM.out.2 HMB.out.1 HMB.out.2
          go_simp
          first | done | with_reducible rfl
        (try simp only [Act.put, List.setIfInBounds_toArray, List.set_cons_zero, List.set_cons_succ])
        refine wpAnyH_take (i := 8) (oi := { dst := some 97, op := Op.move (Operand.tmp 13), type := 3, pos := "law.go:152", after := #[], guard := none }) (v := ?_) rfl (by kernel_rfl) (by kernel_rfl) (by kernel_rfl) (fun _ _ _ h => h) (Or.inl ⟨by rfl, ?_⟩) hHeld ?_
        rotate_left 1
        · intro u hSu
          obtain ⟨q0, q1⟩ := row_cells hSu.out.1.gb
          have q2 := look_at hSu.out.2 HM.out.2 HMA.out.1 HMA.out.2
          have q3 := look_at hSu.out.2 HM.out.2 HMB.out.1 HMB.out.2
          go_simp
          first | done | with_reducible rfl
        (try simp only [Act.put, List.setIfInBounds_toArray, List.set_cons_zero, List.set_cons_succ])
        refine wpAnyH_take (i := 9) (oi := { dst := some 98, op := Op.lookup 76 (Operand.tmp 96) (Operand.tmp 97) false, type := 3, pos := "law.go:152", after := #[{ on := 7, ground := Ground.data }, { on := 8, ground := Ground.data }], guard := none }) (v := ?_) rfl (by kernel_rfl) (by kernel_rfl) (by kernel_rfl) (fun _ _ _ h => h) (Or.inl ⟨by rfl, ?_⟩) hHeld ?_
        rotate_left 1
        · intro u hSu
          obtain ⟨q0, q1⟩ := row_cells hSu.out.1.gb
          have q2 := look_at hSu.out.2 HM.out.2 HMA.out.1 HMA.out.2
          have q3 := look_at hSu.out.2 HM.out.2 HMB.out.1 HMB.out.2
          go_simp
          first | done | with_reducible rfl
        (try simp only [Act.put, List.setIfInBounds_toArray, List.set_cons_zero, List.set_cons_succ])
        refine wpAnyH_take (i := 10) (oi := { dst := some 99, op := Op.binOp BinOp.eql 3 (Operand.tmp 95) (Operand.tmp 98) 3, type := 4, pos := "law.go:152", after := #[{ on := 6, ground := Ground.data }, { on := 9, ground := Ground.data }], guard := none }) (v := (.bool z)) rfl (by kernel_rfl) (by kernel_rfl) (by kernel_rfl) (fun _ _ _ h => h) (Or.inl ⟨by rfl, ?_⟩) hHeld ?_
        · intro u hSu
          obtain ⟨q0, q1⟩ := row_cells hSu.out.1.gb
          have q2 := look_at hSu.out.2 HM.out.2 HMA.out.1 HMA.out.2
          have q3 := look_at hSu.out.2 HM.out.2 HMB.out.1 HMB.out.2
          go_simp
          first | done | (rw [HZ.out.2]; done) | (rw [HZ.out.2]; with_reducible rfl) | (simp [HZ.out.2]; done)
        (try simp only [Act.put, List.setIfInBounds_toArray, List.set_cons_zero, List.set_cons_succ])
        refine wpAnyH_ready (rs := [3]) (by kernel_rfl) (by simp) ?_
        refine AllReadyH.cons (o := { dst := some 92, op := Op.call { callee := Callee.value (Operand.func 39), args := #[Operand.tmp 89, Operand.tmp 90, Operand.tmp 91], argTypes := #[26, 3, 3] }, type := 4, pos := "law.go:152", after := #[{ on := 0, ground := Ground.data }, { on := 1, ground := Ground.data }, { on := 2, ground := Ground.data }], guard := none }) rfl (fun Kz hK => ?_) AllReadyH.nil
        go_simp
        go_at_call 39
        refine (tconn_any ⟨Rw, Lw, some ⟨b1, o1, none⟩, cu, pv, cv⟩ m.id m2.id _ _ hHeld.out.1.t (fun _ => Nat.le_trans HOK.out.2 (by decide))).mono ?_
        simp only
        rw [HZ.out.1]
        rintro e w12 ⟨rfl, hg⟩
        refine hK.out _ _ (Lib.hid ⟨hHeld.out.1.keep hg, hHeld.out.2.kept hg (by simp)⟩) (fun hH2 => ?_)
        clear hK Kz hHeld
        have hHeld := hH2
        clear hH2
        (try simp only [Act.put, List.setIfInBounds_toArray, List.set_cons_zero, List.set_cons_succ])
        refine wpAnyH_take (i := 11) (oi := { dst := some 100, op := Op.binOp BinOp.neq 4 (Operand.tmp 92) (Operand.tmp 99) 4, type := 4, pos := "law.go:152", after := #[{ on := 3, ground := Ground.data }, { on := 10, ground := Ground.data }], guard := none }) (v := (.bool false)) rfl (by kernel_rfl) (by kernel_rfl) (by kernel_rfl) (fun _ _ _ h => h) (Or.inl ⟨by rfl, ?_⟩) hHeld ?_
        · intro u hSu
          obtain ⟨q0, q1⟩ := row_cells hSu.out.1.gb
          have q2 := look_at hSu.out.2 HM.out.2 HMA.out.1 HMA.out.2
          have q3 := look_at hSu.out.2 HM.out.2 HMB.out.1 HMB.out.2
          go_simp
          first | done | (cases z <;> rfl) | (simp; done)
        (try simp only [Act.put, List.setIfInBounds_toArray, List.set_cons_zero, List.set_cons_succ])
        refine wpAnyH_done (by kernel_rfl) ?_ _
        have H9 := Lib.hid hHeld.out
        clear hHeld MD M5 HMA HMB HZ
        go_wp2_with fail
        exact ⟨⟨k + 1, by omega, congrArg _ (by omega), H9⟩, by simp only [intOf]; omega⟩
      · obtain rfl : k = Rw.length := by omega
        go_wp2_with fail
        exact ⟨⟨j + 1, by omega, congrArg _ (by omega), HK'⟩, by simp only [intOf]; omega⟩
    · obtain rfl : j = Rw.length := by omega
      go_wp2_with fail
      refine (tawake_any wr).mono ?_
      rintro e w9 ⟨rfl, hg⟩
      have HE := Lib.hid (grown_trans HK.out.1.gr hg)
      clear hg
      go_wp2_with fail
      go_ret
      exact ⟨rfl, HE.out⟩
end Go.Proofs.Ytiencdgmnkphjaa

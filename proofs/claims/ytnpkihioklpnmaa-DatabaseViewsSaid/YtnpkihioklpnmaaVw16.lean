/- Parts of the proof, packed: ToSameT, DbVwLaw, AdOpn, DbOpn. -/
import Derived.Test.YtnpkihioklpnmaaVw4
import Derived.BigQuiet
import Derived.Test.YtnpkihioklpnmaaVw15
import Derived.Laws.StructEq
import Derived.Deep.CutBlock
import Derived.Deep.CutRange
import Derived.Test.YtnpkihioklpnmaaVw1
import Derived.Test.YtnpkihioklpnmaaVw5
/- The reference's Same, of equal topologies. -/
namespace Go.Proofs.Ytnpkihioklpnmaa
open Go.RowKit Bs
/-- Two equal topologies in two boxes. -/
structure S2 (w : World) (R : List Rt) (L : List Lk) (pR pL pR2 pL2 : Option Addr) (cR cL cR2 cL2 : Nat) (wr : World) : Prop where
  b1 : wr.heap[w.heap.size]? = some (.cells #[.slice pR R.length cR, .slice pL L.length cL] 59 (0, 0))
  b2 : wr.heap[w.heap.size + 1]? = some (.cells #[.slice pR2 R.length cR2, .slice pL2 L.length cL2] 59 (0, 0))
  t1 : TgOk wr (fun _ => True) ⟨R, L, pR, cR, pL, cL⟩
  t2 : TgOk wr (fun _ => True) ⟨R, L, pR2, cR2, pL2, cL2⟩
  gr : w.grownBy wr none
set_option maxRecDepth 100000 in
theorem S2.keep {w wr w' : World} {R : List Rt} {L : List Lk} {pR pL pR2 pL2 : Option Addr} {cR cL cR2 cL2 : Nat} (h : S2 w R L pR pL pR2 pL2 cR cL cR2 cL2 wr) (g : wr.grownBy w' none) : S2 w R L pR pL pR2 pL2 cR cL cR2 cL2 w' :=
  ⟨kept_row h.b1 g (by simp), kept_row h.b2 g (by simp), h.t1.keep g, h.t2.keep g, grown_trans h.gr g⟩
set_option maxRecDepth 100000 in
set_option maxHeartbeats 3200000 in
theorem rsameT_any (T U : Tg) (hRR : U.R = T.R) (hLL : U.L = T.L) (q q2 : Nat → Prop) (w : World) (hT : TgOk w q T) (hU : TgOk w q2 U) :
    Calls Try.prog 33 #[.agg #[.slice T.pR T.R.length T.cR, .slice T.pL T.L.length T.cL], .agg #[.slice U.pR U.R.length U.cR, .slice U.pL U.L.length U.cL]] w fun e w' => e = .returned (.bool true) ∧ w.grownBy w' none := by
  obtain ⟨R, L, pR, cR, pL, cL⟩ := T
  obtain ⟨R2, L2, pR2, cR2, pL2, cL2⟩ := U
  simp only at hRR hLL
  subst hRR
  subst hLL
  simp only
  have hm1 := Nat.le_trans hT.cr.1 hT.cr.2
  have hm2 := Nat.le_trans hT.cl.1 hT.cl.2
  simp only at hm1 hm2
  obtain ⟨k1, k2, k3, _⟩ := two_boxes w #[.slice pR R2.length cR, .slice pL L2.length cL] #[.slice pR2 R2.length cR2, .slice pL2 L2.length cL2] 59 59
  have H0 : Hid (S2 w R2 L2 pR pL pR2 pL2 cR cL cR2 cL2 _) := Lib.hid ⟨k1, k2, (hT.mono (fun _ _ => trivial)).keep k3, (hU.mono (fun _ _ => trivial)).keep k3, k3⟩
  clear k1 k2 k3 hT hU
  go_enter Try.func33, Try.ntmps33
  go_upto_region 1 with fail
  generalize ((w.alloc _).alloc _) = wa at *
  obtain ⟨c0, c1⟩ := row_cells H0.out.b1
  obtain ⟨c2, c3⟩ := row_cells H0.out.b2
  go_wp2_with fail
  go_loopw [5] (fun a wr => ∃ k : Nat, k ≤ R2.length ∧ a = .int .i64 (k : Int) ∧ Hid (S2 w R2 L2 pR pL pR2 pL2 cR cL cR2 cL2 wr)) (fun a _ => R2.length - (RowKit.intOf a).toNat)
  case atStart => exact ⟨0, Nat.zero_le _, rfl, H0⟩
  case round =>
  obtain ⟨k, hk, rfl, HK⟩ := hrel
  clear H0 c0 c1 c2 c3
  by_cases hlt : k < R2.length
  case pos =>
    obtain ⟨-, g1, o1, e1, -, hc1⟩ := rdr_cells HK.out.t1.r (by show 0 < R2.length; omega)
    obtain ⟨-, g2, o2, e2, -, hc2⟩ := rdr_cells HK.out.t2.r (by show 0 < R2.length; omega)
    simp only at e1 e2
    subst e1
    subst e2
    obtain ⟨y, hy⟩ : ∃ y, R2[k]? = some y := ⟨_, List.getElem?_eq_getElem hlt⟩
    obtain ⟨a0, a1⟩ := hc1 k y hy
    obtain ⟨a2, a3⟩ := hc2 k y hy
    obtain ⟨c0, c1⟩ := row_cells HK.out.b1
    obtain ⟨c2, c3⟩ := row_cells HK.out.b2
    have i0 : (0 : Int) ≤ (k : Int) := by omega
    have i1 : (k : Int) < (R2.length : Int) := by omega
    have HN : ∀ n, Hid (S2 w R2 L2 (some ⟨g1, o1, none⟩) pL (some ⟨g2, o2, none⟩) pL2 cR cL cR2 cL2 (wr.drewN n)) := fun n => Lib.hid (HK.out.keep (grown_drewN _ n _))
    clear hc1 hc2 hy HK
    go_wp2_with fail
    go_quiet (fail)
    clear a0 a1 a2 a3
    go_wp2_with fail
    exact ⟨⟨k + 1, by omega, congrArg _ (by omega), HN _⟩, by simp only [RowKit.intOf]; omega⟩
  obtain rfl : k = R2.length := by omega
  obtain ⟨c0, c1⟩ := row_cells HK.out.b1
  obtain ⟨c2, c3⟩ := row_cells HK.out.b2
  go_wp2_with fail
  go_loopw [6] (fun a wr => ∃ k : Nat, k ≤ L2.length ∧ a = .int .i64 (k : Int) ∧ Hid (S2 w R2 L2 pR pL pR2 pL2 cR cL cR2 cL2 wr)) (fun a _ => L2.length - (RowKit.intOf a).toNat)
  case atStart => exact ⟨0, Nat.zero_le _, rfl, HK⟩
  case round =>
  obtain ⟨k, hk, rfl, HK⟩ := hrel
  clear c0 c1 c2 c3
  by_cases hlt : k < L2.length
  case pos =>
    obtain ⟨-, g1, o1, e1, -, hc1⟩ := rdl_cells HK.out.t1.l (by show 0 < L2.length; omega)
    obtain ⟨-, g2, o2, e2, -, hc2⟩ := rdl_cells HK.out.t2.l (by show 0 < L2.length; omega)
    simp only at e1 e2
    subst e1
    subst e2
    obtain ⟨y, hy⟩ : ∃ y, L2[k]? = some y := ⟨_, List.getElem?_eq_getElem hlt⟩
    obtain ⟨a0, a1, a2, a3, a4⟩ := hc1 k y hy
    obtain ⟨d0, d1, d2, d3, d4⟩ := hc2 k y hy
    obtain ⟨c0, c1⟩ := row_cells HK.out.b1
    obtain ⟨c2, c3⟩ := row_cells HK.out.b2
    have i0 : (0 : Int) ≤ (k : Int) := by omega
    have i1 : (k : Int) < (L2.length : Int) := by omega
    have HN : ∀ n, Hid (S2 w R2 L2 pR (some ⟨g1, o1, none⟩) pR2 (some ⟨g2, o2, none⟩) cR cL cR2 cL2 (wr.drewN n)) := fun n => Lib.hid (HK.out.keep (grown_drewN _ n _))
    clear hc1 hc2 hy HK
    go_wp2_with fail
    go_quiet (fail)
    clear a0 a1 a2 a3 a4 d0 d1 d2 d3 d4
    go_wp2_with fail
    exact ⟨⟨k + 1, by omega, congrArg _ (by omega), HN _⟩, by simp only [RowKit.intOf]; omega⟩
  obtain rfl : k = L2.length := by omega
  obtain ⟨c0, c1⟩ := row_cells HK.out.b1
  obtain ⟨c2, c3⟩ := row_cells HK.out.b2
  go_wp2_with fail
  go_ret
  exact ⟨rfl, HK.out.gr⟩
end Go.Proofs.Ytnpkihioklpnmaa

/- The law DatabaseViews. -/
namespace Go.Proofs.Ytnpkihioklpnmaa
open Go.RowKit Bs
set_option maxRecDepth 100000 in
theorem neq_owned (a b c d : Int) (w : World) : (binOp .neq 64 (.agg #[.int .i64 a, .int .i64 b, .int .i64 c, .int .i64 d]) (.agg #[.int .i64 a, .int .i64 b, .int .i64 c, .int .i64 d])).run Try.prog w = .ok (.bool false) w := by
  go_simp
set_option maxRecDepth 100000 in
theorem clm_len (l : List Ad) (r : Int) : (clmV l r).length ≤ 8 * l.length := by
  unfold clmV
  by_cases h : okD l = true
  · have ho := okD_OkD h
    have key : ∀ M : List Ad, (∀ A ∈ M, A ∈ l) → ((M.filter (cpV l r)).flatMap clA).length ≤ 8 * M.length := by
      intro M
      induction M with
      | nil => intro _; exact Nat.le_refl _
      | cons A t ih =>
        intro hM
        have ih := ih (fun B hB => hM B (List.mem_cons_of_mem _ hB))
        have h8 := vAd_cl (ho.v A (hM A List.mem_cons_self))
        rw [List.filter_cons]
        split
        · rw [List.flatMap_cons, List.length_append, List.length_cons]
          have : (clA A).length = A.C.length := by unfold clA; rw [List.length_map]
          omega
        · rw [List.length_cons]; omega
    exact key l (fun A hA => hA)
  · have e : l.filter (cpV l r) = [] := by
      rw [List.filter_eq_nil_iff]
      intro A _ hc
      exact h (cpV_ok hc)
    rw [e]
    exact Nat.zero_le _
set_option maxRecDepth 100000 in
theorem sm_ofV {rl : List Ad} {rp p1 p2 : Option Addr} {rc c1 c2 : Nat} {l1 l2 : List Ad} (hb : bigD rl = false) (h1 : l1.length ≤ 7 ∧ DL l1) (h2 : l2.length ≤ 7 ∧ DL l2) : ∀ x ∈ [⟨l1, p1, c1⟩, ⟨l2, p2, c2⟩, (⟨rl, rp, rc⟩ : Dv)], x.Sm := by
  intro x hx
  simp only [List.mem_cons, List.not_mem_nil, or_false] at hx
  rcases hx with rfl | rfl | rfl
  · exact ⟨by have := h1.1; simp only; omega, fun A hA => by have := h1.2 A hA; omega⟩
  · exact ⟨by have := h2.1; simp only; omega, fun A hA => by have := h2.2 A hA; omega⟩
  · exact ⟨(big_sm hb).1, (big_sm hb).2⟩
set_option maxRecDepth 100000 in
theorem ow_at {w : World} {q : Nat → Prop} {p : Option Addr} {n c k : Nat} {M : List Ow} {o : Ow} (h : RdF w q (.slice p n c) M.length (M.flatMap owC)) (hx : M[k]? = some o) : ∃ b off, p = some ⟨b, off, none⟩ ∧ w.cell? ⟨b, off + k * 4, none⟩ = some (.int .i64 o.r) ∧ w.cell? ⟨b, off + k * 4 + 1, none⟩ = some (.int .i64 o.x.a) ∧ w.cell? ⟨b, off + k * 4 + 2, none⟩ = some (.int .i64 o.x.b) ∧ w.cell? ⟨b, off + k * 4 + 3, none⟩ = some (.int .i64 o.x.c) := by
  obtain ⟨-, b, off, hp, -, hc⟩ := RdF.cells (f := owC) (k := 4) ow_len (by decide) h (by have := (List.getElem?_eq_some_iff.1 hx).1; omega)
  exact ⟨b, off, hp, hc k o hx 0 _ rfl, hc k o hx 1 _ rfl, hc k o hx 2 _ rfl, hc k o hx 3 _ rfl⟩
set_option maxRecDepth 100000 in
theorem RdF.keepF {w w' : World} {q : Nat → Prop} {v : Value} {n : Nat} {xs : List Value} (h : RdF w q v n xs) (g : w.grownBy w' none) : RdF w' (fun _ => True) v n xs := (h.grown g (fun _ _ => by simp)).mono (fun _ _ => trivial)
set_option maxRecDepth 100000 in
set_option maxHeartbeats 25600000 in
theorem views_walk (v : Value) (rl : List Ad) (rp : Option Addr) (rc : Nat) (r : Int) (w : World) (hv : IntsIn w v) (hR : RdA w (· < w.heap.size) (.slice rp rl.length rc) rl) (hm : rl.length ≤ 9223372036854775807) :
    Calls Try.prog 7 #[v, .agg #[.slice rp rl.length rc], .int .i64 r] w fun e w' => e = .returned (.bool true) ∧ w.grownBy w' none := by
  obtain ⟨k1, k2⟩ := tone_box w #[.slice rp rl.length rc] 25
  have hlt := World.lt_of_row' k1
  have H0 := Lib.hid (And.intro k1 (And.intro k2 (And.intro (hR.keep k2) hlt)))
  have HVV := Lib.hid (intsIn_grown hv k2)
  clear k1 k2 hR hv hlt
  go_enter Try.func7, Try.ntmps7
  go_upto_region 1 with fail
  generalize w.alloc _ = w0 at *
  go_wp2_with fail
  refine (new_any v w0 HVV.out).mono ?_
  rintro e w1 ⟨rfl, hg1, hT1⟩
  have H1 : Hid (LW w w0.heap.size ⟨rl, rp, rc⟩ [⟨rl, rp, rc⟩] w1) := Lib.hid ⟨fun x hx => (by
    rw [List.mem_singleton] at hx
    subst hx
    exact (H0.out.2.2.1.keep hg1).mono (fun b hb => by have := H0.out.2.2.2; omega)), kept_row H0.out.1 hg1 (by simp), grown_trans H0.out.2.1 hg1, hT1, H0.out.2.2.2⟩
  clear hg1 hT1 H0 HVV
  obtain ⟨a, ha⟩ : ∃ a, w0.heap.size = a := ⟨_, rfl⟩
  rw [ha] at H1 ⊢
  clear ha
  go_upto_region 2 with fail
  have HD := Lib.hid (H1.out.keep (grown_drew (grown_refl w1 none)))
  clear H1
  refine region_until (S := fun w' => Hid (w'.heap[w.heap.size]? = some (.cells #[.slice rp rl.length rc] 25 (0, 0)))) (fun j => j == 5 || j == 6) (by kernel_rfl) (Lib.hid HD.out.bx) (fun hHeld => ?_)
  refine anyU_take (i := 0) (oi := { dst := some 16, op := Op.move (Operand.tmp 7), type := 26, pos := "law.go:118", after := #[], guard := none }) (v := ?_) rfl (by kernel_rfl) (by kernel_rfl) (by kernel_rfl) (by kernel_rfl) (by kernel_rfl) (fun _ _ _ h => h) (Or.inl ⟨by rfl, ?_⟩) hHeld ?_
  rotate_left 1
  · intro u hSu
    have q0 := (cell_of_row _ _ 0 _ _ _ hSu.out)
    go_simp
    first | done | with_reducible rfl
  (try simp only [Act.put, List.setIfInBounds_toArray, List.set_cons_zero, List.set_cons_succ])
  refine anyU_take (i := 2) (oi := { dst := some 18, op := Op.move (Operand.tmp 7), type := 26, pos := "law.go:118", after := #[], guard := none }) (v := ?_) rfl (by kernel_rfl) (by kernel_rfl) (by kernel_rfl) (by kernel_rfl) (by kernel_rfl) (fun _ _ _ h => h) (Or.inl ⟨by rfl, ?_⟩) hHeld ?_
  rotate_left 1
  · intro u hSu
    have q0 := (cell_of_row _ _ 0 _ _ _ hSu.out)
    go_simp
    first | done | with_reducible rfl
  (try simp only [Act.put, List.setIfInBounds_toArray, List.set_cons_zero, List.set_cons_succ])
  refine anyU_take (i := 4) (oi := { dst := some 20, op := Op.load 25 (Operand.tmp 4), type := 25, pos := "law.go:118", after := #[], guard := none }) (v := ?_) rfl (by kernel_rfl) (by kernel_rfl) (by kernel_rfl) (by kernel_rfl) (by kernel_rfl) (fun _ _ _ h => h) (Or.inl ⟨by rfl, ?_⟩) hHeld ?_
  rotate_left 1
  · intro u hSu
    have q0 := (cell_of_row _ _ 0 _ _ _ hSu.out)
    go_simp
    first | done | with_reducible rfl
  (try simp only [Act.put, List.setIfInBounds_toArray, List.set_cons_zero, List.set_cons_succ])
  refine anyU_ready (rs := [1]) (by kernel_rfl) (by simp) ?_
  refine EachU.cons (o := { dst := some 17, op := Op.call { callee := Callee.value (Operand.func 12), args := #[Operand.tmp 16, Operand.const (Value.int IntKind.i64 8)], argTypes := #[26, 3] }, type := 25, pos := "law.go:118", after := #[{ on := 0, ground := Ground.data }], guard := none }) rfl (fun Kz hK => ?_) EachU.nil
  go_simp
  go_at_call 12
  refine (tdb_any a 8 (by unfold I64; omega) _ HD.out.tp).mono ?_
  rintro e w5 ⟨l1, p1, c1, rfl, h7, hdl, -, hrd, -, -, hs⟩
  have HDn := Lib.hid (HD.out.add hs (x := ⟨l1, p1, c1⟩) hrd)
  have HB1 := Lib.hid (And.intro h7 hdl)
  clear hs hrd h7 hdl HD
  have HD := HDn
  clear HDn
  refine hK.out _ _ (fun _ => Lib.hid HD.out.bx) (fun hH2 => ?_)
  clear hK Kz hHeld
  have hHeld := hH2 rfl
  clear hH2
  (try simp only [Act.put, List.setIfInBounds_toArray, List.set_cons_zero, List.set_cons_succ])
  refine anyU_ready (rs := [3]) (by kernel_rfl) (by simp) ?_
  refine EachU.cons (o := { dst := some 19, op := Op.call { callee := Callee.value (Operand.func 12), args := #[Operand.tmp 18, Operand.const (Value.int IntKind.i64 0)], argTypes := #[26, 3] }, type := 25, pos := "law.go:118", after := #[{ on := 2, ground := Ground.data }, { on := 1, ground := Ground.chain }], guard := none }) rfl (fun Kz hK => ?_) EachU.nil
  go_simp
  go_at_call 12
  refine (tdb_any a 0 (by unfold I64; omega) _ HD.out.tp).mono ?_
  rintro e w5 ⟨l2, p2, c2, rfl, h7, hdl, -, hrd, -, -, hs⟩
  have HDn := Lib.hid (HD.out.add hs (x := ⟨l2, p2, c2⟩) hrd)
  have HB2 := Lib.hid (And.intro h7 hdl)
  clear hs hrd h7 hdl HD
  have HD := HDn
  clear HDn
  refine hK.out _ _ (fun _ => Lib.hid HD.out.bx) (fun hH2 => ?_)
  clear hK Kz hHeld
  have hHeld := hH2 rfl
  clear hH2
  (try simp only [Act.put, List.setIfInBounds_toArray, List.set_cons_zero, List.set_cons_succ])
  refine anyU_ready (rs := [5]) (by kernel_rfl) (by simp) ?_
  refine EachU.cons (o := { dst := some 21, op := Op.buildSlice 29 3 #[(0, Operand.tmp 17), (1, Operand.tmp 19), (2, Operand.tmp 20)], type := 29, pos := "law.go:118", after := #[{ on := 1, ground := Ground.data }, { on := 3, ground := Ground.data }, { on := 4, ground := Ground.data }], guard := none }) rfl (fun Kz hK => ?_) EachU.nil
  go_simp
  have HQ := Lib.hid (OW.start HD.out)
  refine hK.out _ _ (fun h => by cases h) (fun _ => ?_)
  clear hK Kz
  (try simp only [Act.put, List.setIfInBounds_toArray, List.set_cons_zero, List.set_cons_succ])
  refine anyU_ready (rs := [6]) (by kernel_rfl) (by simp) ?_
  refine EachU.cons (o := { dst := some 8, op := Op.assign (Operand.tmp 21), type := 29, pos := "law.go:118", after := #[{ on := 5, ground := Ground.data }, { on := 3, ground := Ground.chain }, { on := 0, ground := Ground.phase }, { on := 1, ground := Ground.phase }, { on := 2, ground := Ground.phase }, { on := 3, ground := Ground.phase }, { on := 4, ground := Ground.phase }, { on := 5, ground := Ground.phase }], guard := none }) rfl (fun Kz hK => ?_) EachU.nil
  go_simp
  refine hK.out _ _ (fun h => by cases h) (fun _ => ?_)
  clear hK Kz
  (try simp only [Act.put, List.setIfInBounds_toArray, List.set_cons_zero, List.set_cons_succ])
  refine anyU_done (by kernel_rfl) ?_ _
  have HSM : Hid (bigD rl = false → ∀ x ∈ [⟨l1, p1, c1⟩, ⟨l2, p2, c2⟩, (⟨rl, rp, rc⟩ : Dv)], x.Sm) := Lib.hid (fun hb => sm_ofV hb HB1.out HB2.out)
  have hRM : (⟨rl, rp, rc⟩ : Dv) ∈ [⟨l1, p1, c1⟩, ⟨l2, p2, c2⟩, (⟨rl, rp, rc⟩ : Dv)] := by simp
  obtain ⟨X, hX⟩ : ∃ X, [⟨l1, p1, c1⟩, ⟨l2, p2, c2⟩, (⟨rl, rp, rc⟩ : Dv)] = X := ⟨_, rfl⟩
  have hX3 : X.length = 3 := by rw [← hX]; rfl
  rw [hX] at HQ HSM hRM
  have HRM := Lib.hid hRM
  clear hX hRM HB1 HB2 HD hHeld
  go_upto_block 0 with fail
  generalize w5.alloc _ = w3 at *
  generalize w5.heap.size = D at *
  go_wp2_with fail
  go_loopw [9] (fun x wr => ∃ i : Nat, i ≤ 3 ∧ x = .int .i64 (i : Int) ∧ Hid (OW w a D ⟨rl, rp, rc⟩ X wr)) (fun x _ => 3 - (RowKit.intOf x).toNat)
  case atStart => exact ⟨0, Nat.zero_le _, rfl, HQ⟩
  case round =>
  obtain ⟨i, hi, rfl, K⟩ := hrel
  clear HQ
  have c0 : wr.cell? ⟨w.heap.size, 0, none⟩ = some (.slice rp rl.length rc) := K.out.b.e0
  by_cases hlt : i < 3
  · have hltI : (i : Int) < 3 := by omega
    go_wp2_with fail
    refine (dbig_any rl rp rc _ wr (K.out.b.ok _ HRM.out) hm).mono ?_
    rintro e w4 ⟨rfl, hg⟩
    have K1 := Lib.hid (K.out.keep hg)
    clear hg K c0
    obtain ⟨bb, hbb⟩ : ∃ bb, bigD rl = bb := ⟨_, rfl⟩
    rw [hbb]
    cases bb with
    | true =>
      clear hbb
      go_wp2_with fail
      refine (dawake_any w4).mono ?_
      rintro e w5 ⟨rfl, hg⟩
      have HG := Lib.hid (grown_trans K1.out.b.gr hg)
      clear hg K1
      go_wp2_with fail
      go_ret
      exact ⟨rfl, HG.out⟩
    | false =>
      obtain ⟨x, hx⟩ : ∃ x, X[i]? = some x := ⟨_, List.getElem?_eq_getElem (by omega)⟩
      have HXX := Lib.hid (And.intro hx (List.mem_of_getElem? hx))
      have HXS := Lib.hid (HSM.out hbb x HXX.out.2)
      have hxn : x.l.length ≤ 900 := by have := HXS.out.n; omega
      clear hx hbb
      go_wp2_with fail
      refine (range_any a 0 7 (by omega) (by omega) (by omega) (by omega) w4 K1.out.b.tp).mono ?_
      rintro e w5 ⟨R, rfl, -, hs⟩
      have K2 := Lib.hid (K1.out.tape hs)
      clear hs K1
      go_wp2_with fail
      refine (one_any a 6 (by unfold I64; omega) w5 K2.out.b.tp).mono ?_
      rintro e w6 ⟨ob, rfl, hs⟩
      have K3 := Lib.hid (K2.out.tape hs)
      clear hs K2
      go_upto_if 36 with fail
      go_cut [10] from 37 to 37 (fun u wx => ∃ z : Int, u = .int .i64 z ∧ Hid (OW w a D ⟨rl, rp, rc⟩ X wx))
      case first =>
        cases ob with
        | true =>
          go_wp2_with fail
          go_meet
          exact ⟨r, rfl, K3⟩
        | false =>
          go_wp2_with fail
          go_meet
          exact ⟨R, rfl, K3⟩
      case rest =>
      obtain ⟨z, rfl, K4⟩ := hcut
      clear K3
      obtain ⟨M, hM⟩ : ∃ M, clmV x.l z = M := ⟨_, rfl⟩
      have HM := Lib.hid hM
      have hMl : M.length ≤ 7200 := by have := clm_len x.l z; rw [hM] at this; omega
      clear hM
      go_upto_region 9 with fail
      have HD := Lib.hid (K4.out.keep (grown_drew (grown_refl _ none)))
      clear K4
      refine wp_region_held_drew (S := fun w' => Hid (OW w a D ⟨rl, rp, rc⟩ X w')) (by kernel_rfl) (HD) (fun hHeld => ?_)
      refine wpAnyH_take (i := 0) (oi := { dst := some 38, op := Op.move (Operand.tmp 8), type := 29, pos := "law.go:124", after := #[], guard := none }) (v := ?_) rfl (by kernel_rfl) (by kernel_rfl) (by kernel_rfl) (fun _ _ _ h => h) (Or.inl ⟨by rfl, ?_⟩) hHeld ?_
      rotate_left 1
      · intro u hSu
        have q0 := hSu.out.row i x HXX.out.1
        go_simp
        first | done | with_reducible rfl
      (try simp only [Act.put, List.setIfInBounds_toArray, List.set_cons_zero, List.set_cons_succ])
      refine wpAnyH_take (i := 1) (oi := { dst := some 39, op := Op.move (Operand.tmp 9), type := 3, pos := "law.go:124", after := #[], guard := none }) (v := ?_) rfl (by kernel_rfl) (by kernel_rfl) (by kernel_rfl) (fun _ _ _ h => h) (Or.inl ⟨by rfl, ?_⟩) hHeld ?_
      rotate_left 1
      · intro u hSu
        have q0 := hSu.out.row i x HXX.out.1
        go_simp
        first | done | with_reducible rfl
      (try simp only [Act.put, List.setIfInBounds_toArray, List.set_cons_zero, List.set_cons_succ])
      refine wpAnyH_take (i := 2) (oi := { dst := some 40, op := Op.indexAddr 29 (Operand.tmp 38) (Operand.tmp 39), type := 0, pos := "law.go:124", after := #[{ on := 0, ground := Ground.data }, { on := 1, ground := Ground.data }], guard := none }) (v := ?_) rfl (by kernel_rfl) (by kernel_rfl) (by kernel_rfl) (fun _ _ _ h => h) (Or.inl ⟨by rfl, ?_⟩) hHeld ?_
      rotate_left 1
      · intro u hSu
        have q0 := hSu.out.row i x HXX.out.1
        go_simp
        first | done | with_reducible rfl
      (try simp only [Act.put, List.setIfInBounds_toArray, List.set_cons_zero, List.set_cons_succ])
      refine wpAnyH_take (i := 3) (oi := { dst := some 41, op := Op.load 25 (Operand.tmp 40), type := 25, pos := "law.go:124", after := #[{ on := 2, ground := Ground.data }], guard := none }) (v := ?_) rfl (by kernel_rfl) (by kernel_rfl) (by kernel_rfl) (fun _ _ _ h => h) (Or.inl ⟨by rfl, ?_⟩) hHeld ?_
      rotate_left 1
      · intro u hSu
        have q0 := hSu.out.row i x HXX.out.1
        go_simp
        first | done | with_reducible rfl
      (try simp only [Act.put, List.setIfInBounds_toArray, List.set_cons_zero, List.set_cons_succ])
      refine wpAnyH_take (i := 4) (oi := { dst := some 42, op := Op.move (Operand.tmp 10), type := 3, pos := "law.go:124", after := #[], guard := none }) (v := ?_) rfl (by kernel_rfl) (by kernel_rfl) (by kernel_rfl) (fun _ _ _ h => h) (Or.inl ⟨by rfl, ?_⟩) hHeld ?_
      rotate_left 1
      · intro u hSu
        have q0 := hSu.out.row i x HXX.out.1
        go_simp
        first | done | with_reducible rfl
      (try simp only [Act.put, List.setIfInBounds_toArray, List.set_cons_zero, List.set_cons_succ])
      refine wpAnyH_take (i := 6) (oi := { dst := some 44, op := Op.move (Operand.tmp 8), type := 29, pos := "law.go:124", after := #[], guard := none }) (v := ?_) rfl (by kernel_rfl) (by kernel_rfl) (by kernel_rfl) (fun _ _ _ h => h) (Or.inl ⟨by rfl, ?_⟩) hHeld ?_
      rotate_left 1
      · intro u hSu
        have q0 := hSu.out.row i x HXX.out.1
        go_simp
        first | done | with_reducible rfl
      (try simp only [Act.put, List.setIfInBounds_toArray, List.set_cons_zero, List.set_cons_succ])
      refine wpAnyH_take (i := 7) (oi := { dst := some 45, op := Op.move (Operand.tmp 9), type := 3, pos := "law.go:124", after := #[], guard := none }) (v := ?_) rfl (by kernel_rfl) (by kernel_rfl) (by kernel_rfl) (fun _ _ _ h => h) (Or.inl ⟨by rfl, ?_⟩) hHeld ?_
      rotate_left 1
      · intro u hSu
        have q0 := hSu.out.row i x HXX.out.1
        go_simp
        first | done | with_reducible rfl
      (try simp only [Act.put, List.setIfInBounds_toArray, List.set_cons_zero, List.set_cons_succ])
      refine wpAnyH_take (i := 8) (oi := { dst := some 46, op := Op.indexAddr 29 (Operand.tmp 44) (Operand.tmp 45), type := 0, pos := "law.go:124", after := #[{ on := 6, ground := Ground.data }, { on := 7, ground := Ground.data }], guard := none }) (v := ?_) rfl (by kernel_rfl) (by kernel_rfl) (by kernel_rfl) (fun _ _ _ h => h) (Or.inl ⟨by rfl, ?_⟩) hHeld ?_
      rotate_left 1
      · intro u hSu
        have q0 := hSu.out.row i x HXX.out.1
        go_simp
        first | done | with_reducible rfl
      (try simp only [Act.put, List.setIfInBounds_toArray, List.set_cons_zero, List.set_cons_succ])
      refine wpAnyH_take (i := 9) (oi := { dst := some 47, op := Op.load 25 (Operand.tmp 46), type := 25, pos := "law.go:124", after := #[{ on := 8, ground := Ground.data }], guard := none }) (v := ?_) rfl (by kernel_rfl) (by kernel_rfl) (by kernel_rfl) (fun _ _ _ h => h) (Or.inl ⟨by rfl, ?_⟩) hHeld ?_
      rotate_left 1
      · intro u hSu
        have q0 := hSu.out.row i x HXX.out.1
        go_simp
        first | done | with_reducible rfl
      (try simp only [Act.put, List.setIfInBounds_toArray, List.set_cons_zero, List.set_cons_succ])
      refine wpAnyH_take (i := 10) (oi := { dst := some 48, op := Op.move (Operand.tmp 10), type := 3, pos := "law.go:124", after := #[], guard := none }) (v := ?_) rfl (by kernel_rfl) (by kernel_rfl) (by kernel_rfl) (fun _ _ _ h => h) (Or.inl ⟨by rfl, ?_⟩) hHeld ?_
      rotate_left 1
      · intro u hSu
        have q0 := hSu.out.row i x HXX.out.1
        go_simp
        first | done | with_reducible rfl
      (try simp only [Act.put, List.setIfInBounds_toArray, List.set_cons_zero, List.set_cons_succ])
      refine wpAnyH_ready (rs := [5]) (by kernel_rfl) (by simp) ?_
      refine AllReadyH.cons (o := { dst := some 43, op := Op.call { callee := Callee.value (Operand.func 31), args := #[Operand.tmp 41, Operand.tmp 42], argTypes := #[25, 3] }, type := 53, pos := "law.go:124", after := #[{ on := 3, ground := Ground.data }, { on := 4, ground := Ground.data }], guard := none }) rfl (fun Kz hK => ?_) AllReadyH.nil
      go_simp
      go_at_call 31
      refine (dclaims_any x.l z x.p x.c _ _ (hHeld.out.b.ok x HXX.out.2) hxn).mono ?_
      rintro e w7 ⟨pa, ca, rfl, hrd, hg⟩
      rw [HM.out] at hrd
      rw [HM.out]
      have hHn := Lib.hid (hHeld.out.keep hg)
      have HCA := Lib.hid hrd
      clear hg hrd
      refine hK.out _ _ (hHn) (fun hH2 => ?_)
      clear hK Kz hHeld
      have hHeld := hH2
      clear hH2
      (try simp only [Act.put, List.setIfInBounds_toArray, List.set_cons_zero, List.set_cons_succ])
      refine wpAnyH_ready (rs := [11]) (by kernel_rfl) (by simp) ?_
      refine AllReadyH.cons (o := { dst := some 49, op := Op.call { callee := Callee.value (Operand.func 32), args := #[Operand.tmp 47, Operand.tmp 48], argTypes := #[25, 3] }, type := 53, pos := "law.go:124", after := #[{ on := 9, ground := Ground.data }, { on := 10, ground := Ground.data }, { on := 5, ground := Ground.chain }], guard := none }) rfl (fun Kz hK => ?_) AllReadyH.nil
      go_simp
      go_at_call 32
      refine (rclaims_any x.l z x.p x.c _ _ (hHeld.out.b.ok x HXX.out.2) hxn).mono ?_
      rintro e w8 ⟨pb, cb, rfl, hrd, hg⟩
      rw [HM.out] at hrd
      rw [HM.out]
      have hHn2 := Lib.hid (hHeld.out.keep hg)
      have HCA2 := Lib.hid (HCA.out.keepF hg)
      have HCB := Lib.hid hrd
      clear hg hrd HCA
      refine hK.out _ _ (hHn2) (fun hH2 => ?_)
      clear hK Kz hHeld
      have hHeld := hH2
      clear hH2
      (try simp only [Act.put, List.setIfInBounds_toArray, List.set_cons_zero, List.set_cons_succ])
      refine wpAnyH_take (i := 12) (oi := { dst := some 11, op := Op.assign (Operand.tmp 43), type := 53, pos := "law.go:124", after := #[{ on := 5, ground := Ground.data }, { on := 11, ground := Ground.chain }, { on := 0, ground := Ground.phase }, { on := 1, ground := Ground.phase }, { on := 2, ground := Ground.phase }, { on := 3, ground := Ground.phase }, { on := 4, ground := Ground.phase }, { on := 5, ground := Ground.phase }, { on := 6, ground := Ground.textOnly Departure.lateStores }, { on := 7, ground := Ground.textOnly Departure.lateStores }, { on := 8, ground := Ground.textOnly Departure.lateStores }, { on := 9, ground := Ground.textOnly Departure.lateStores }, { on := 10, ground := Ground.textOnly Departure.lateStores }, { on := 11, ground := Ground.textOnly Departure.lateStoresUnsure }], guard := none }) (v := ?_) rfl (by kernel_rfl) (by kernel_rfl) (by kernel_rfl) (fun _ _ _ h => h) (Or.inl ⟨by rfl, ?_⟩) hHeld ?_
      rotate_left 1
      · intro u hSu
        have q0 := hSu.out.row i x HXX.out.1
        go_simp
        first | done | with_reducible rfl
      (try simp only [Act.put, List.setIfInBounds_toArray, List.set_cons_zero, List.set_cons_succ])
      refine wpAnyH_take (i := 13) (oi := { dst := some 12, op := Op.assign (Operand.tmp 49), type := 53, pos := "law.go:124", after := #[{ on := 11, ground := Ground.data }, { on := 12, ground := Ground.chain }, { on := 0, ground := Ground.phase }, { on := 1, ground := Ground.phase }, { on := 2, ground := Ground.phase }, { on := 3, ground := Ground.phase }, { on := 4, ground := Ground.phase }, { on := 5, ground := Ground.phase }, { on := 6, ground := Ground.phase }, { on := 7, ground := Ground.phase }, { on := 8, ground := Ground.phase }, { on := 9, ground := Ground.phase }, { on := 10, ground := Ground.phase }, { on := 11, ground := Ground.phase }, { on := 12, ground := Ground.phase }], guard := none }) (v := ?_) rfl (by kernel_rfl) (by kernel_rfl) (by kernel_rfl) (fun _ _ _ h => h) (Or.inl ⟨by rfl, ?_⟩) hHeld ?_
      rotate_left 1
      · intro u hSu
        have q0 := hSu.out.row i x HXX.out.1
        go_simp
        first | done | with_reducible rfl
      (try simp only [Act.put, List.setIfInBounds_toArray, List.set_cons_zero, List.set_cons_succ])
      refine wpAnyH_done (by kernel_rfl) ?_ _
      have K5 := hHeld
      clear hHeld HD
      go_upto_region 10 with fail
      have HD := Lib.hid (And.intro (K5.out.keep (grown_drew (grown_refl w8 none))) (And.intro (HCA2.out.keepF (grown_drew (grown_refl w8 none))) (HCB.out.keepF (grown_drew (grown_refl w8 none)))))
      clear K5 HCA2 HCB
      refine wp_region_held_drew (S := fun w' => Hid (OW w a D ⟨rl, rp, rc⟩ X w' ∧ RdF w' (fun _ => True) (.slice pa M.length ca) M.length (M.flatMap owC) ∧ RdF w' (fun _ => True) (.slice pb M.length cb) M.length (M.flatMap owC))) (by kernel_rfl) (HD) (fun hHeld => ?_)
      refine wpAnyH_take (i := 0) (oi := { dst := some 50, op := Op.move (Operand.tmp 8), type := 29, pos := "law.go:125", after := #[], guard := none }) (v := ?_) rfl (by kernel_rfl) (by kernel_rfl) (by kernel_rfl) (fun _ _ _ h => h) (Or.inl ⟨by rfl, ?_⟩) hHeld ?_
      rotate_left 1
      · intro u hSu
        have q0 := hSu.out.1.row i x HXX.out.1
        go_simp
        first | done | with_reducible rfl
      (try simp only [Act.put, List.setIfInBounds_toArray, List.set_cons_zero, List.set_cons_succ])
      refine wpAnyH_take (i := 1) (oi := { dst := some 51, op := Op.move (Operand.tmp 9), type := 3, pos := "law.go:125", after := #[], guard := none }) (v := ?_) rfl (by kernel_rfl) (by kernel_rfl) (by kernel_rfl) (fun _ _ _ h => h) (Or.inl ⟨by rfl, ?_⟩) hHeld ?_
      rotate_left 1
      · intro u hSu
        have q0 := hSu.out.1.row i x HXX.out.1
        go_simp
        first | done | with_reducible rfl
      (try simp only [Act.put, List.setIfInBounds_toArray, List.set_cons_zero, List.set_cons_succ])
      refine wpAnyH_take (i := 2) (oi := { dst := some 52, op := Op.indexAddr 29 (Operand.tmp 50) (Operand.tmp 51), type := 0, pos := "law.go:125", after := #[{ on := 0, ground := Ground.data }, { on := 1, ground := Ground.data }], guard := none }) (v := ?_) rfl (by kernel_rfl) (by kernel_rfl) (by kernel_rfl) (fun _ _ _ h => h) (Or.inl ⟨by rfl, ?_⟩) hHeld ?_
      rotate_left 1
      · intro u hSu
        have q0 := hSu.out.1.row i x HXX.out.1
        go_simp
        first | done | with_reducible rfl
      (try simp only [Act.put, List.setIfInBounds_toArray, List.set_cons_zero, List.set_cons_succ])
      refine wpAnyH_take (i := 3) (oi := { dst := some 53, op := Op.load 25 (Operand.tmp 52), type := 25, pos := "law.go:125", after := #[{ on := 2, ground := Ground.data }], guard := none }) (v := ?_) rfl (by kernel_rfl) (by kernel_rfl) (by kernel_rfl) (fun _ _ _ h => h) (Or.inl ⟨by rfl, ?_⟩) hHeld ?_
      rotate_left 1
      · intro u hSu
        have q0 := hSu.out.1.row i x HXX.out.1
        go_simp
        first | done | with_reducible rfl
      (try simp only [Act.put, List.setIfInBounds_toArray, List.set_cons_zero, List.set_cons_succ])
      refine wpAnyH_take (i := 4) (oi := { dst := some 54, op := Op.move (Operand.tmp 10), type := 3, pos := "law.go:125", after := #[], guard := none }) (v := ?_) rfl (by kernel_rfl) (by kernel_rfl) (by kernel_rfl) (fun _ _ _ h => h) (Or.inl ⟨by rfl, ?_⟩) hHeld ?_
      rotate_left 1
      · intro u hSu
        have q0 := hSu.out.1.row i x HXX.out.1
        go_simp
        first | done | with_reducible rfl
      (try simp only [Act.put, List.setIfInBounds_toArray, List.set_cons_zero, List.set_cons_succ])
      refine wpAnyH_take (i := 6) (oi := { dst := some 56, op := Op.move (Operand.tmp 8), type := 29, pos := "law.go:125", after := #[], guard := none }) (v := ?_) rfl (by kernel_rfl) (by kernel_rfl) (by kernel_rfl) (fun _ _ _ h => h) (Or.inl ⟨by rfl, ?_⟩) hHeld ?_
      rotate_left 1
      · intro u hSu
        have q0 := hSu.out.1.row i x HXX.out.1
        go_simp
        first | done | with_reducible rfl
      (try simp only [Act.put, List.setIfInBounds_toArray, List.set_cons_zero, List.set_cons_succ])
      refine wpAnyH_take (i := 7) (oi := { dst := some 57, op := Op.move (Operand.tmp 9), type := 3, pos := "law.go:125", after := #[], guard := none }) (v := ?_) rfl (by kernel_rfl) (by kernel_rfl) (by kernel_rfl) (fun _ _ _ h => h) (Or.inl ⟨by rfl, ?_⟩) hHeld ?_
      rotate_left 1
      · intro u hSu
        have q0 := hSu.out.1.row i x HXX.out.1
        go_simp
        first | done | with_reducible rfl
      (try simp only [Act.put, List.setIfInBounds_toArray, List.set_cons_zero, List.set_cons_succ])
      refine wpAnyH_take (i := 8) (oi := { dst := some 58, op := Op.indexAddr 29 (Operand.tmp 56) (Operand.tmp 57), type := 0, pos := "law.go:125", after := #[{ on := 6, ground := Ground.data }, { on := 7, ground := Ground.data }], guard := none }) (v := ?_) rfl (by kernel_rfl) (by kernel_rfl) (by kernel_rfl) (fun _ _ _ h => h) (Or.inl ⟨by rfl, ?_⟩) hHeld ?_
      rotate_left 1
      · intro u hSu
        have q0 := hSu.out.1.row i x HXX.out.1
        go_simp
        first | done | with_reducible rfl
      (try simp only [Act.put, List.setIfInBounds_toArray, List.set_cons_zero, List.set_cons_succ])
      refine wpAnyH_take (i := 9) (oi := { dst := some 59, op := Op.load 25 (Operand.tmp 58), type := 25, pos := "law.go:125", after := #[{ on := 8, ground := Ground.data }], guard := none }) (v := ?_) rfl (by kernel_rfl) (by kernel_rfl) (by kernel_rfl) (fun _ _ _ h => h) (Or.inl ⟨by rfl, ?_⟩) hHeld ?_
      rotate_left 1
      · intro u hSu
        have q0 := hSu.out.1.row i x HXX.out.1
        go_simp
        first | done | with_reducible rfl
      (try simp only [Act.put, List.setIfInBounds_toArray, List.set_cons_zero, List.set_cons_succ])
      refine wpAnyH_take (i := 10) (oi := { dst := some 60, op := Op.move (Operand.tmp 10), type := 3, pos := "law.go:125", after := #[], guard := none }) (v := ?_) rfl (by kernel_rfl) (by kernel_rfl) (by kernel_rfl) (fun _ _ _ h => h) (Or.inl ⟨by rfl, ?_⟩) hHeld ?_
      rotate_left 1
      · intro u hSu
        have q0 := hSu.out.1.row i x HXX.out.1
        go_simp
        first | done | with_reducible rfl
      (try simp only [Act.put, List.setIfInBounds_toArray, List.set_cons_zero, List.set_cons_succ])
      refine wpAnyH_ready (rs := [5]) (by kernel_rfl) (by simp) ?_
      refine AllReadyH.cons (o := { dst := some 55, op := Op.call { callee := Callee.value (Operand.func 34), args := #[Operand.tmp 53, Operand.tmp 54], argTypes := #[25, 3] }, type := 59, pos := "law.go:125", after := #[{ on := 3, ground := Ground.data }, { on := 4, ground := Ground.data }], guard := none }) rfl (fun Kz hK => ?_) AllReadyH.nil
      go_simp
      go_at_call 34
      refine (dview_any x.l z x.p x.c _ _ (hHeld.out.1.b.ok x HXX.out.2) (by omega)).mono ?_
      rintro e w9 ⟨T, rfl, hv1, hok1, hg⟩
      have hHn := Lib.hid (And.intro (hHeld.out.1.keep hg) (And.intro (hHeld.out.2.1.keepF hg) (hHeld.out.2.2.keepF hg)))
      have HT1 := Lib.hid (And.intro hv1 hok1)
      clear hg hv1 hok1
      refine hK.out _ _ (hHn) (fun hH2 => ?_)
      clear hK Kz hHeld
      have hHeld := hH2
      clear hH2
      (try simp only [Act.put, List.setIfInBounds_toArray, List.set_cons_zero, List.set_cons_succ])
      refine wpAnyH_ready (rs := [11]) (by kernel_rfl) (by simp) ?_
      refine AllReadyH.cons (o := { dst := some 61, op := Op.call { callee := Callee.value (Operand.func 35), args := #[Operand.tmp 59, Operand.tmp 60], argTypes := #[25, 3] }, type := 59, pos := "law.go:125", after := #[{ on := 9, ground := Ground.data }, { on := 10, ground := Ground.data }, { on := 5, ground := Ground.chain }], guard := none }) rfl (fun Kz hK => ?_) AllReadyH.nil
      go_simp
      go_at_call 35
      refine (rview_any x.l z x.p x.c _ _ (hHeld.out.1.b.ok x HXX.out.2) (by omega)).mono ?_
      rintro e w10 ⟨U, rfl, hv2, hok2, hg⟩
      have hHn2 := Lib.hid (And.intro (hHeld.out.1.keep hg) (And.intro (hHeld.out.2.1.keepF hg) (hHeld.out.2.2.keepF hg)))
      have HT2 := Lib.hid (And.intro (HT1.out.2.keep hg) (And.intro hok2 (And.intro (congrArg Prod.fst (hv2.trans HT1.out.1.symm)) (congrArg Prod.snd (hv2.trans HT1.out.1.symm)))))
      clear hg hv2 hok2
      refine hK.out _ _ (hHn2) (fun hH2 => ?_)
      clear hK Kz hHeld
      have hHeld := hH2
      clear hH2
      (try simp only [Act.put, List.setIfInBounds_toArray, List.set_cons_zero, List.set_cons_succ])
      refine wpAnyH_ready (rs := [12]) (by kernel_rfl) (by simp) ?_
      refine AllReadyH.cons (o := { dst := some 62, op := Op.call { callee := Callee.value (Operand.func 33), args := #[Operand.tmp 55, Operand.tmp 61], argTypes := #[59, 59] }, type := 4, pos := "law.go:125", after := #[{ on := 5, ground := Ground.data }, { on := 11, ground := Ground.data }, { on := 11, ground := Ground.chain }], guard := none }) rfl (fun Kz hK => ?_) AllReadyH.nil
      go_simp
      go_at_call 33
      refine (rsameT_any T U HT2.out.2.2.1 HT2.out.2.2.2 _ _ _ HT2.out.1 HT2.out.2.1).mono ?_
      rintro e w11 ⟨rfl, hg⟩
      have hHn3 := Lib.hid (And.intro (hHeld.out.1.keep hg) (And.intro (hHeld.out.2.1.keepF hg) (hHeld.out.2.2.keepF hg)))
      clear hg
      refine hK.out _ _ (hHn3) (fun hH2 => ?_)
      clear hK Kz hHeld
      have hHeld := hH2
      clear hH2
      (try simp only [Act.put, List.setIfInBounds_toArray, List.set_cons_zero, List.set_cons_succ])
      refine wpAnyH_take (i := 13) (oi := { dst := some 63, op := Op.unOp UnOp.not 4 (Operand.tmp 62), type := 4, pos := "law.go:125", after := #[{ on := 12, ground := Ground.data }], guard := none }) (v := ?_) rfl (by kernel_rfl) (by kernel_rfl) (by kernel_rfl) (fun _ _ _ h => h) (Or.inl ⟨by rfl, ?_⟩) hHeld ?_
      rotate_left 1
      · intro u hSu
        have q0 := hSu.out.1.row i x HXX.out.1
        go_simp
        first | done | with_reducible rfl
      (try simp only [Act.put, List.setIfInBounds_toArray, List.set_cons_zero, List.set_cons_succ])
      refine wpAnyH_take (i := 14) (oi := { dst := some 64, op := Op.move (Operand.tmp 63), type := 4, pos := "law.go:125", after := #[{ on := 13, ground := Ground.data }, { on := 12, ground := Ground.chain }], guard := none }) (v := ?_) rfl (by kernel_rfl) (by kernel_rfl) (by kernel_rfl) (fun _ _ _ h => h) (Or.inl ⟨by rfl, ?_⟩) hHeld ?_
      rotate_left 1
      · intro u hSu
        have q0 := hSu.out.1.row i x HXX.out.1
        go_simp
        first | done | with_reducible rfl
      (try simp only [Act.put, List.setIfInBounds_toArray, List.set_cons_zero, List.set_cons_succ])
      refine wpAnyH_take (i := 15) (oi := { dst := some 65, op := Op.move (Operand.tmp 11), type := 53, pos := "law.go:125", after := #[{ on := 14, ground := Ground.guard }], guard := some (14, false) }) (v := ?_) rfl (by kernel_rfl) (by kernel_rfl) (by kernel_rfl) (fun _ _ _ h => h) (Or.inl ⟨by rfl, ?_⟩) hHeld ?_
      rotate_left 1
      · intro u hSu
        have q0 := hSu.out.1.row i x HXX.out.1
        go_simp
        first | done | with_reducible rfl
      (try simp only [Act.put, List.setIfInBounds_toArray, List.set_cons_zero, List.set_cons_succ])
      refine wpAnyH_take (i := 16) (oi := { dst := some 66, op := Op.call { callee := Callee.builtin Builtin.len, args := #[Operand.tmp 65], argTypes := #[53] }, type := 3, pos := "law.go:125", after := #[{ on := 15, ground := Ground.data }, { on := 14, ground := Ground.guard }], guard := some (14, false) }) (v := ?_) rfl (by kernel_rfl) (by kernel_rfl) (by kernel_rfl) (fun _ _ _ h => h) (Or.inl ⟨by rfl, ?_⟩) hHeld ?_
      rotate_left 1
      · intro u hSu
        have q0 := hSu.out.1.row i x HXX.out.1
        go_simp
        first | done | with_reducible rfl
      (try simp only [Act.put, List.setIfInBounds_toArray, List.set_cons_zero, List.set_cons_succ])
      refine wpAnyH_take (i := 17) (oi := { dst := some 67, op := Op.move (Operand.tmp 12), type := 53, pos := "law.go:125", after := #[{ on := 14, ground := Ground.guard }], guard := some (14, false) }) (v := ?_) rfl (by kernel_rfl) (by kernel_rfl) (by kernel_rfl) (fun _ _ _ h => h) (Or.inl ⟨by rfl, ?_⟩) hHeld ?_
      rotate_left 1
      · intro u hSu
        have q0 := hSu.out.1.row i x HXX.out.1
        go_simp
        first | done | with_reducible rfl
      (try simp only [Act.put, List.setIfInBounds_toArray, List.set_cons_zero, List.set_cons_succ])
      refine wpAnyH_take (i := 18) (oi := { dst := some 68, op := Op.call { callee := Callee.builtin Builtin.len, args := #[Operand.tmp 67], argTypes := #[53] }, type := 3, pos := "law.go:125", after := #[{ on := 17, ground := Ground.data }, { on := 14, ground := Ground.guard }], guard := some (14, false) }) (v := ?_) rfl (by kernel_rfl) (by kernel_rfl) (by kernel_rfl) (fun _ _ _ h => h) (Or.inl ⟨by rfl, ?_⟩) hHeld ?_
      rotate_left 1
      · intro u hSu
        have q0 := hSu.out.1.row i x HXX.out.1
        go_simp
        first | done | with_reducible rfl
      (try simp only [Act.put, List.setIfInBounds_toArray, List.set_cons_zero, List.set_cons_succ])
      refine wpAnyH_take (i := 19) (oi := { dst := some 69, op := Op.binOp BinOp.neq 3 (Operand.tmp 66) (Operand.tmp 68) 3, type := 4, pos := "law.go:125", after := #[{ on := 16, ground := Ground.data }, { on := 18, ground := Ground.data }, { on := 14, ground := Ground.guard }], guard := some (14, false) }) (v := ?_) rfl (by kernel_rfl) (by kernel_rfl) (by kernel_rfl) (fun _ _ _ h => h) (Or.inl ⟨by rfl, ?_⟩) hHeld ?_
      rotate_left 1
      · intro u hSu
        have q0 := hSu.out.1.row i x HXX.out.1
        go_simp
        first | done | with_reducible rfl
      (try simp only [Act.put, List.setIfInBounds_toArray, List.set_cons_zero, List.set_cons_succ])
      refine wpAnyH_take (i := 20) (oi := { dst := some 70, op := Op.pick (Operand.tmp 64) (Operand.const (Value.bool true)) (Operand.tmp 69), type := 4, pos := "law.go:125", after := #[{ on := 14, ground := Ground.data }, { on := 19, ground := Ground.data }], guard := none }) (v := ?_) rfl (by kernel_rfl) (by kernel_rfl) (by kernel_rfl) (fun _ _ _ h => h) (Or.inl ⟨by rfl, ?_⟩) hHeld ?_
      rotate_left 1
      · intro u hSu
        have q0 := hSu.out.1.row i x HXX.out.1
        go_simp
        first | done | with_reducible rfl
      (try simp only [Act.put, List.setIfInBounds_toArray, List.set_cons_zero, List.set_cons_succ])
      refine wpAnyH_done (by kernel_rfl) ?_ _
      have K6 := hHeld
      clear hHeld HD
      go_wp2_with fail
      go_loopw [13] (fun y wq => ∃ k : Nat, k ≤ M.length ∧ y = .int .i64 (k : Int) ∧ Hid (OW w a D ⟨rl, rp, rc⟩ X wq ∧ RdF wq (fun _ => True) (.slice pa M.length ca) M.length (M.flatMap owC) ∧ RdF wq (fun _ => True) (.slice pb M.length cb) M.length (M.flatMap owC))) (fun y _ => M.length - (RowKit.intOf y).toNat)
      case atStart => exact ⟨0, Nat.zero_le _, rfl, K6⟩
      case round =>
      obtain ⟨k, hk, rfl, K7⟩ := hrel
      clear K6
      by_cases hkM : k < M.length
      · obtain ⟨o, ho⟩ : ∃ o, M[k]? = some o := ⟨_, List.getElem?_eq_getElem hkM⟩
        obtain ⟨ba, oa, rfl, a0, a1, a2, a3⟩ := ow_at K7.out.2.1 ho
        obtain ⟨bb, ob2, rfl, b0, b1, b2, b3⟩ := ow_at K7.out.2.2 ho
        have HN := fun n : Nat => Lib.hid (And.intro (K7.out.1.keep (grown_drewN wr n none)) (And.intro (K7.out.2.1.keepF (grown_drewN wr n none)) (K7.out.2.2.keepF (grown_drewN wr n none))))
        have hne := neq_owned o.r o.x.a o.x.b o.x.c
        clear ho K7
        go_wp2_with fail
        go_quiet (fail)
        go_wp2_with fail
        exact ⟨⟨k + 1, by omega, congrArg _ (by omega), HN _⟩, by simp only [RowKit.intOf]; omega⟩
      · obtain rfl : k = M.length := by omega
        have K8 := Lib.hid K7.out.1
        clear K7
        go_wp2_with fail
        exact ⟨⟨i + 1, by omega, congrArg _ (by omega), K8⟩, by simp only [RowKit.intOf]; omega⟩
  · have hltI : ¬ (i : Int) < 3 := by omega
    go_wp2_with fail
    refine (dawake_any wr).mono ?_
    rintro e w5 ⟨rfl, hg⟩
    have HG := Lib.hid (grown_trans K.out.b.gr hg)
    clear hg K c0
    go_wp2_with fail
    go_ret
    exact ⟨rfl, HG.out⟩
end Go.Proofs.Ytnpkihioklpnmaa

/- An advert that comes in as an argument. -/
namespace Go.Proofs.Ytnpkihioklpnmaa
open Go.ChangeShapes Go.WideShapes Go.ChangeAt Go.RowKit Go.Joins Bs
set_option maxRecDepth 100000 in
theorem tlist3 {A : Type} {xs : List A} (h : xs.length = 3) : ∃ x0 x1 x2, xs = [x0, x1, x2] := by
  match xs, h with
  | [x0, x1, x2], _ => exact ⟨x0, x1, x2, rfl⟩
set_option maxRecDepth 100000 in
theorem tlistA5 {A : Type} {xs : List A} (h : xs.length = 5) : ∃ x0 x1 x2 x3 x4, xs = [x0, x1, x2, x3, x4] := by
  match xs, h with
  | [x0, x1, x2, x3, x4], _ => exact ⟨x0, x1, x2, x3, x4, rfl⟩
set_option maxRecDepth 100000 in
theorem kit_cellsre : Try.prog.cellsOf 73 = 3 := by kernel_rfl
set_option maxRecDepth 100000 in
theorem kit_cellscm : Try.prog.cellsOf 62 = 3 := by kernel_rfl
set_option maxRecDepth 100000 in
theorem kit_cellsBoolA : Try.prog.cellsOf 4 = 1 := by kernel_rfl
set_option maxRecDepth 100000 in
theorem kit_cellsres : Try.prog.cellsOf 35 = 1 := by kernel_rfl
set_option maxRecDepth 100000 in
theorem kit_cellscms : Try.prog.cellsOf 36 = 1 := by kernel_rfl
section
variable {H : Type} {enc : TypeId × Value → H} {W : World} {base : Nat} {v : Value} {d : DataW H} {ps : List MemPlace}
set_option maxRecDepth 100000 in
theorem re_trod {fuel : Nat} {cs : List Value} {y : DataW H × List MemPlace} (h : DataW.trod enc Try.prog W 0 (fun _ => true) true fuel 73 cs = some y) : ∃ l : T3, cs = t3C l := by
  have hs := Try.underlying73
  obtain ⟨xs, n, _, _, hl, hlen, hf⟩ := DataW.trod_struct hs h
  rw [kit_cellsre] at hl
  obtain ⟨c0, c1, c2, rfl⟩ := tlist3 hl
  obtain ⟨x0, x1, x2, rfl⟩ := tlist3 hlen
  have h0 : DataW.trod enc Try.prog W 0 (fun _ => true) true n 3 [c0] = some x0 := by simpa [Value.cells, kit_cellsInt] using hf 0 _ rfl
  have h1 : DataW.trod enc Try.prog W 0 (fun _ => true) true n 3 [c1] = some x1 := by simpa [Value.cells, kit_cellsInt] using hf 1 _ rfl
  have h2 : DataW.trod enc Try.prog W 0 (fun _ => true) true n 3 [c2] = some x2 := by simpa [Value.cells, kit_cellsInt] using hf 2 _ rfl
  obtain ⟨m0, e0, _, w0⟩ := DataW.trod_int Try.underlying3 h0
  obtain rfl : c0 = .int .i64 m0 := by simpa using e0
  obtain ⟨m1, e1, _, w1⟩ := DataW.trod_int Try.underlying3 h1
  obtain rfl : c1 = .int .i64 m1 := by simpa using e1
  obtain ⟨m2, e2, _, w2⟩ := DataW.trod_int Try.underlying3 h2
  obtain rfl : c2 = .int .i64 m2 := by simpa using e2
  exact ⟨⟨m0, m1, m2⟩, rfl⟩
set_option maxRecDepth 100000 in
theorem cm_trod {fuel : Nat} {cs : List Value} {y : DataW H × List MemPlace} (h : DataW.trod enc Try.prog W 0 (fun _ => true) true fuel 62 cs = some y) : ∃ l : T3, cs = t3C l := by
  have hs := Try.underlying62
  obtain ⟨xs, n, _, _, hl, hlen, hf⟩ := DataW.trod_struct hs h
  rw [kit_cellscm] at hl
  obtain ⟨c0, c1, c2, rfl⟩ := tlist3 hl
  obtain ⟨x0, x1, x2, rfl⟩ := tlist3 hlen
  have h0 : DataW.trod enc Try.prog W 0 (fun _ => true) true n 3 [c0] = some x0 := by simpa [Value.cells, kit_cellsInt] using hf 0 _ rfl
  have h1 : DataW.trod enc Try.prog W 0 (fun _ => true) true n 3 [c1] = some x1 := by simpa [Value.cells, kit_cellsInt] using hf 1 _ rfl
  have h2 : DataW.trod enc Try.prog W 0 (fun _ => true) true n 3 [c2] = some x2 := by simpa [Value.cells, kit_cellsInt] using hf 2 _ rfl
  obtain ⟨m0, e0, _, w0⟩ := DataW.trod_int Try.underlying3 h0
  obtain rfl : c0 = .int .i64 m0 := by simpa using e0
  obtain ⟨m1, e1, _, w1⟩ := DataW.trod_int Try.underlying3 h1
  obtain rfl : c1 = .int .i64 m1 := by simpa using e1
  obtain ⟨m2, e2, _, w2⟩ := DataW.trod_int Try.underlying3 h2
  obtain rfl : c2 = .int .i64 m2 := by simpa using e2
  exact ⟨⟨m0, m1, m2⟩, rfl⟩
end
end Go.Proofs.Ytnpkihioklpnmaa

/- A database that comes in as an argument. -/
namespace Go.Proofs.Ytnpkihioklpnmaa
open Go.ChangeShapes Go.WideShapes Go.ChangeAt Go.RowKit Go.Joins Bs
set_option maxRecDepth 100000 in
theorem kit_cellsad : Try.prog.cellsOf 38 = 5 := by kernel_rfl
set_option maxRecDepth 100000 in
theorem kit_cellsads : Try.prog.cellsOf 23 = 1 := by kernel_rfl
set_option maxRecDepth 100000 in
theorem tlist1 {A : Type} {xs : List A} (h : xs.length = 1) : ∃ x0, xs = [x0] := by
  match xs, h with
  | [x0], _ => exact ⟨x0, rfl⟩
section
variable {H : Type} {enc : TypeId × Value → H} {W : World} {base : Nat} {v : Value} {d : DataW H} {ps : List MemPlace}
set_option maxRecDepth 100000 in
/-- A slice of structs of k cells. -/
theorem rowsP_trod {α : Type} (f : α → List Value) (P : α → Prop) (k : Nat) (hk : 0 < k) (hf : ∀ x, (f x).length = k) (x0 : α) {E T : TypeId} (hT : Try.prog.underlying T = some (.slice E)) (hc : Try.prog.cellsOf E = k)
    (hE : ∀ {fuel : Nat} {cs : List Value} {y : DataW H × List MemPlace}, DataW.trod enc Try.prog W 0 (fun _ => true) true fuel E cs = some y → ∃ r : α, cs = f r ∧ P r)
    {fuel : Nat} {c0 : Value} {y : DataW H × List MemPlace} (h : DataW.trod enc Try.prog W 0 (fun _ => true) true fuel T [c0] = some y) :
    ∃ (l : List α) (p : Option Addr) (c : Nat), c0 = .slice p l.length c ∧ RdF W (· < W.heap.size) (.slice p l.length c) l.length (l.flatMap f) ∧ l.length ≤ c ∧ c ≤ 9223372036854775807 ∧ (p = none → c = 0) ∧ ∀ x ∈ l, P x := by
  rcases DataW.trod_slice hT h with ⟨hcs, _⟩ | ⟨a, len, cap, elems, rest, n, _, hcs, _, _, hl, hm, hlen, hel, _, _⟩
  · obtain rfl : c0 = .slice none 0 0 := by simpa using hcs
    exact ⟨[], none, 0, rfl, rdf_nil _ _ _ _, Nat.le_refl _, by omega, fun _ => rfl, fun x h => by cases h⟩
  · obtain rfl : c0 = .slice (some a) len cap := by simpa using hcs
    rw [hc] at hel
    have each : ∀ i, ∃ l : α, i < len → (∀ j, j < k → W.cell? ((a.add (i * k)).add j) = (f l)[j]?) ∧ P l := by
      intro i
      by_cases hi : i < len
      · have h1 := hel i hi
        rw [List.getElem?_eq_getElem (by omega)] at h1
        obtain ⟨cs, hc1, hc2⟩ := Option.bind_eq_some_iff.1 h1
        obtain ⟨l, rfl, hPl⟩ := hE hc2
        obtain ⟨_, _, hc3⟩ := World.cells?_some hc1
        exact ⟨l, fun _ => ⟨fun j hj => hc3 j hj, hPl⟩⟩
      · exact ⟨x0, fun h => absurd h hi⟩
    obtain ⟨g, hfn2⟩ := Classical.axiomOfChoice each
    have hfn : ∀ i, i < len → ∀ j, j < k → W.cell? ((a.add (i * k)).add j) = (f (g i))[j]? := fun i hi => (hfn2 i hi).1
    have hll : ((List.range len).map g).length = len := by simp
    refine ⟨(List.range len).map g, some a, cap, by rw [hll], ?_, by rw [hll]; exact hl, hm, (fun e => by cases e), fun x hx => by
      obtain ⟨i, hi, rfl⟩ := List.mem_map.1 hx
      exact (hfn2 i (List.mem_range.1 hi)).2⟩
    rw [hll]
    refine ⟨some a, cap, rfl, fun hne => ?_⟩
    have hpos : 0 < len := by
      rcases Nat.eq_zero_or_pos len with h0 | h0
      · subst h0
        exact absurd rfl hne
      · exact h0
    obtain ⟨b, off, spot⟩ := a
    have hget : ∀ i, i < len → ∀ j, j < k → ∃ u, (f (g i))[j]? = some u := fun i _ j hj => ⟨_, List.getElem?_eq_getElem (by rw [hf]; exact hj)⟩
    have hspot : spot = none := by
      obtain ⟨u, hu⟩ := hget 0 hpos 0 hk
      have := (hfn 0 hpos 0 hk).trans hu
      simpa [Addr.add] using World.cell?_spot this
    subst hspot
    have hcell : ∀ i j, i < len → j < k → W.cell? ⟨b, off + (i * k + j), none⟩ = (f (g i))[j]? := by
      intro i j hi hj
      have := hfn i hi j hj
      rw [Go.WideShapes.add_plain, Go.WideShapes.add_plain] at this
      rw [← this]
      congr 2
      omega
    refine ⟨b, off, rfl, ?_, fun j x hj => ?_⟩
    · obtain ⟨u, hu⟩ := hget 0 hpos 0 hk
      exact World.block_lt_of_cell? W ⟨b, off + (0 * k + 0), none⟩ ((hcell 0 0 hpos hk).trans hu)
    have hj2 : j < len * k := by
      have := (List.getElem?_eq_some_iff.1 hj).1
      rw [flat_len f k hf, hll] at this
      exact this
    have hm1 : j / k < len := (Nat.div_lt_iff_lt_mul hk).2 hj2
    have hm2 : j % k < k := Nat.mod_lt _ hk
    have hd : j = j / k * k + j % k := by rw [Nat.mul_comm]; exact (Nat.div_add_mod j k).symm
    have hat : ((List.range len).map g)[j / k]? = some (g (j / k)) := by
      rw [List.getElem?_map, List.getElem?_range hm1]; rfl
    rw [hd] at hj ⊢
    rw [flat_at f k hf _ _ _ _ hat hm2] at hj
    rw [hcell _ _ hm1 hm2]
    exact hj
set_option maxRecDepth 100000 in
theorem ad_trod {fuel : Nat} {cs : List Value} {y : DataW H × List MemPlace} (h : DataW.trod enc Try.prog W 0 (fun _ => true) true fuel 38 cs = some y) : ∃ A : Ad, cs = adL A ∧ AdOk W (· < W.heap.size) A ∧ AdNl A := by
  have hs := Try.underlying38
  obtain ⟨xs, n, _, _, hl, hlen, hf⟩ := DataW.trod_struct hs h
  rw [kit_cellsad] at hl
  obtain ⟨c0, c1, c2, c3, c4, rfl⟩ := tlistA5 hl
  obtain ⟨x0, x1, x2, x3, x4, rfl⟩ := tlistA5 hlen
  have h0 : DataW.trod enc Try.prog W 0 (fun _ => true) true n 3 [c0] = some x0 := by simpa [Value.cells, kit_cellsInt] using hf 0 _ rfl
  have h1 : DataW.trod enc Try.prog W 0 (fun _ => true) true n 3 [c1] = some x1 := by simpa [Value.cells, kit_cellsInt] using hf 1 _ rfl
  have h2 : DataW.trod enc Try.prog W 0 (fun _ => true) true n 4 [c2] = some x2 := by simpa [Value.cells, kit_cellsBoolA, kit_cellsInt] using hf 2 _ rfl
  have h3 : DataW.trod enc Try.prog W 0 (fun _ => true) true n 35 [c3] = some x3 := by simpa [Value.cells, kit_cellsres, kit_cellsBoolA, kit_cellsInt] using hf 3 _ rfl
  have h4 : DataW.trod enc Try.prog W 0 (fun _ => true) true n 36 [c4] = some x4 := by simpa [Value.cells, kit_cellsres, kit_cellscms, kit_cellsBoolA, kit_cellsInt] using hf 4 _ rfl
  obtain ⟨m0, e0, _, w0⟩ := DataW.trod_int Try.underlying3 h0
  obtain rfl : c0 = .int .i64 m0 := by simpa using e0
  obtain ⟨m1, e1, _, w1⟩ := DataW.trod_int Try.underlying3 h1
  obtain rfl : c1 = .int .i64 m1 := by simpa using e1
  obtain ⟨m2, e2, _⟩ := DataW.trod_bool Try.underlying4 h2
  obtain rfl : c2 = .bool m2 := by simpa using e2
  obtain ⟨L, pL, cL, rfl, hL, hl1, hl2, hn1, -⟩ := rowsP_trod t3C (fun _ => True) 3 (by decide) (fun _ => rfl) ⟨0, 0, 0⟩ Try.underlying35 kit_cellsre (fun h => by obtain ⟨r, hr⟩ := re_trod h; exact ⟨r, hr, trivial⟩) h3
  obtain ⟨C, pC, cC, rfl, hC, hr1, hr2, hn2, -⟩ := rowsP_trod t3C (fun _ => True) 3 (by decide) (fun _ => rfl) ⟨0, 0, 0⟩ Try.underlying36 kit_cellscm (fun h => by obtain ⟨r, hr⟩ := cm_trod h; exact ⟨r, hr, trivial⟩) h4
  exact ⟨⟨m0, m1, m2, L, C, pL, cL, pC, cC⟩, rfl, ⟨hL, hC, ⟨hl1, hl2⟩, ⟨hr1, hr2⟩⟩, ⟨hn1, hn2⟩⟩
set_option maxRecDepth 100000 in
theorem opn_database (hval : Value.okWide Try.prog W .any base 25 v) (h : DataW.Trod enc Try.prog W 0 (fun _ => true) true 25 v d ps) :
    ∃ (l : List Ad) (p : Option Addr) (c : Nat), v = .agg #[.slice p l.length c] ∧ RdA W (· < W.heap.size) (.slice p l.length c) l ∧ (p = none → c = 0) ∧ l.length ≤ c ∧ c ≤ 9223372036854775807 := by
  have hs := Try.underlying25
  obtain ⟨cs, rfl, hsz⟩ := okWide_struct hs hval
  obtain ⟨fuel, hf⟩ := h
  obtain ⟨xs, n, _, _, hl, hlen, hf⟩ := DataW.trod_struct hs hf
  have h5 : cs.toList.length = 1 := hsz.trans (by kernel_rfl)
  obtain ⟨c0, hct⟩ := tlist1 h5
  obtain ⟨x0, rfl⟩ := tlist1 hlen
  have h0 : DataW.trod enc Try.prog W 0 (fun _ => true) true n 23 [c0] = some x0 := by simpa [Value.cells, kit_cellsads, hct] using hf 0 _ rfl
  obtain ⟨l, p, c, rfl, hL, hl1, hl2, hn, hP⟩ := rowsP_trod adL (fun A => AdOk W (· < W.heap.size) A ∧ AdNl A) 5 (by decide) adL_len ⟨0, 0, false, [], [], none, 0, none, 0⟩ Try.underlying23 kit_cellsad ad_trod h0
  exact ⟨l, p, c, congrArg Value.agg (Array.ext' hct), ⟨hL, fun A hA => (hP A hA).1, fun A hA => (hP A hA).2⟩, hn, hl1, hl2⟩
end
end Go.Proofs.Ytnpkihioklpnmaa

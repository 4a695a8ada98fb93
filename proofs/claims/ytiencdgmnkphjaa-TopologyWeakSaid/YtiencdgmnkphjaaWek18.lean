/- Parts of the proof, packed: ToFls. -/
import Derived.Test.YtiencdgmnkphjaaWek12
import Derived.Test.YtiencdgmnkphjaaWek13
/- The tape's Failures: some failure of at most four links and routers, in memory of the call's own. -/
namespace Go.Proofs.Ytiencdgmnkphjaa
open Go.RowKit Bs
theorem GM.hop {a Bf : Nat} {w wr : World} {T : Tg} {q : Nat → Prop} {uH uX vH vX : Value} {H : List Hp} {X : List Int} (_h : GM a w T q Bf uH uX vH vX H X wr) (x1 x2 : Int) :
    ∀ p, p = wr.heap.size → RdF (wr.alloc (.cells #[.int .i64 x1, .int .i64 x2] 70)) (fun _ => True) (.slice (some ⟨p, 0, none⟩) 1 1) [(⟨x1, x2⟩ : Hp)].length ([(⟨x1, x2⟩ : Hp)].flatMap hpC) := by
  rintro p rfl
  exact rdf_one _ trivial (cells2 wr _ _ _) 1
theorem GM.ints {a Bf : Nat} {w wr : World} {T : Tg} {q : Nat → Prop} {uH uX vH vX : Value} {H : List Hp} {X : List Int} (h : GM a w T q Bf uH uX vH vX H X wr) :
    (∀ p, p = wr.heap.size → Among I64 (wr.alloc (.cells #[.int .i64 0, .int .i64 77, .int .i64 (-1)] 3)) a p 0 3) ∧ ∀ p, p = wr.heap.size → ∀ g, vH.ownBlock = some g → g ≠ p := by
  refine ⟨?_, ?_⟩
  · rintro p rfl
    exact among_list I64 wr a [0, 77, -1] #[.int .i64 0, .int .i64 77, .int .i64 (-1)] 3 h.m.st.2.lt rfl (by intro x hx; simp at hx; unfold I64; omega)
  · rintro p rfl g hg e
    have := (h.oH.lt g hg).2
    omega
set_option maxRecDepth 100000 in
set_option maxHeartbeats 6400000 in
theorem fails_any (a : Nat) (T : Tg) (q : Nat → Prop) (w : World) (hT : TgOk w q T) (hq : ∀ b, q b → b ≠ a ∧ b < w.heap.size) (hp : Tp w a) :
    Calls Try.prog 30 #[.pointer (some ⟨a, 0, none⟩), .agg #[.slice T.pR T.R.length T.cR, .slice T.pL T.L.length T.cL]] w fun e w' => FlPost a 4 w e w' := by
  obtain ⟨ih, hih, hh0, hh1, hh2⟩ := info_parts info_hopT
  obtain ⟨ii, hii, hi0, hi1, hi2⟩ := info_parts info_int
  have ha := hp.lt
  obtain ⟨k1, k2, k3, _⟩ := two_boxes w #[.slice T.pR T.R.length T.cR, .slice T.pL T.L.length T.cL] #[.slice none 0 0, .slice none 0 0] 26 47
  have H0 : Hid (FM a w T q _) := Lib.hid ⟨k1, k2, hT.keep k3, ⟨grown_none k3 _, hp.keep k3⟩, by simp⟩
  have HQ : Hid (∀ b, q b → b ≠ a) := Lib.hid (fun b hb => (hq b hb).1)
  have HQ2 : Hid (∀ b, q b → b < w.heap.size) := Lib.hid (fun b hb => (hq b hb).2)
  have FL : ∀ (wz : World), Hid (FM a w T q wz) → Calls Try.prog 29 #[.pointer (some ⟨a, 0, none⟩), .agg #[.slice T.pR T.R.length T.cR, .slice T.pL T.L.length T.cL]] wz fun e w' => FlPost a 1 wz e w' := fun wz H => fail_any a T q wz H.out.t (fun b hb => ⟨HQ.out b hb, by have := HQ2.out b hb; have := H.out.sz; omega⟩) H.out.st.2
  have HFL := Lib.hid FL
  clear k1 k2 k3 hT hp hq FL
  obtain ⟨R, L, pR, cR, pL, cL⟩ := T
  simp only at H0 HFL ⊢
  go_enter Try.func30, Try.ntmps30
  go_upto_region 1 with fail
  generalize ((w.alloc _).alloc _) = wa at *
  obtain ⟨c0, c1⟩ := row_cells H0.out.tb
  go_wp2_with fail
  refine (HFL.out wa H0).mono ?_
  rintro e w1 ⟨H, X, vH, vX, rfl, hH, hX, hap, hlen, hs⟩
  have hsz0 := H0.out.sz
  have HG0 := Lib.hid (GM.start (H0.out.tape ha HQ.out hs) (hH.mono hsz0) (hX.mono hsz0) hap)
  obtain ⟨pH, cH, rfl, -, -⟩ := own_shape hH
  obtain ⟨pX, cX, rfl, -, -⟩ := own_shape hX
  have hHl := hlen.1
  have hXl := hlen.2
  clear hH hX hap hlen hs H0 c0 c1
  go_upto_region 2 with fail
  generalize w1.alloc _ = w2 at *
  generalize w1.heap.size = Bf at *
  go_wp2_with fail
  refine (next_any a 3 (by unfold I64; omega) _ HG0.out.m.st.2).mono ?_
  rintro e w3 ⟨n, rfl, hn, hs⟩
  obtain ⟨n, rfl⟩ := Int.eq_ofNat_of_zero_le hn.1
  have hn2 : n ≤ 2 := by have := hn.2.1 (by decide); omega
  have HG1 := Lib.hid (HG0.out.tape ha HQ.out hs)
  clear hn hs HG0
  obtain ⟨vH, hvH⟩ : ∃ v, v = Value.slice pH H.length cH := ⟨_, rfl⟩
  obtain ⟨vX, hvX⟩ : ∃ v, v = Value.slice pX X.length cX := ⟨_, rfl⟩
  rw [← hvH, ← hvX] at HG1
  clear hvH hvX
  go_upto_block 0 with fail
  go_cut [] from 13 to 31 (fun wx => ∃ vH vX H X, (H : List Hp).length ≤ 3 ∧ (X : List Int).length ≤ 3 ∧ Hid (GM a w ⟨R, L, pR, cR, pL, cL⟩ q Bf vH vX vH vX H X wx))
  case first =>
    go_wp2_with fail
    go_loopw [6] (fun i wr => ∃ k : Nat, k ≤ 2 ∧ i = .int .i64 (k : Int) ∧ ∃ vH vX H X, (H : List Hp).length + k ≤ 3 ∧ (X : List Int).length + k ≤ 3 ∧ Hid (GM a w ⟨R, L, pR, cR, pL, cL⟩ q Bf vH vX vH vX H X wr)) (fun i _ => (intOf i).toNat)
    case atStart => exact ⟨n, hn2, rfl, vH, vX, H, X, by omega, by omega, HG1⟩
    case round =>
      obtain ⟨k, hk, rfl, vH, vX, H, X, hHk, hXk, HK⟩ := hrel
      clear HG1
      by_cases hk1 : 1 ≤ k
      · obtain ⟨c0, c1⟩ := row_cells HK.out.m.tb
        go_wp2_with fail
        refine (HFL.out wr (Lib.hid HK.out.m)).mono ?_
        rintro e w5 ⟨H', X', vH', vX', rfl, hH, hX, hap, hlen, hs⟩
        have HG2 := Lib.hid (HK.out.tape ha HQ.out hs)
        obtain ⟨pH', cH', rfl, hh5, -⟩ := own_shape hH
        obtain ⟨pX', cX', rfl, hx5, -⟩ := own_shape hX
        have hn5 : pH' = none → cH' = 0 := by
          rintro rfl
          rcases own_formF hH with ⟨e, -⟩ | ⟨g, cap, e, -⟩
          · injection e with e1 e2 e3
          · injection e with e1 e2 e3
            cases e1
        have hn6 : pX' = none → cX' = 0 := by
          rintro rfl
          rcases own_formF hX with ⟨e, -⟩ | ⟨g, cap, e, -⟩
          · injection e with e1 e2 e3
          · injection e with e1 e2 e3
            cases e1
        have gal := World.grownBy_alloc w5 (.cells #[.slice pH' H'.length cH', .slice pX' X'.length cX'] 47) none
        have hbl : wr.heap.size ≤ w5.heap.size := hs.1.size
        have HB := Lib.hid (And.intro (heap_alloc_new w5 (.cells #[.slice pH' H'.length cH', .slice pX' X'.length cX'] 47)) (And.intro ((rdf_of_own2 hH).keep gal) ((rdf_of_own2 hX).keep gal)))
        have HG3 := Lib.hid (HG2.out.keep gal)
        have HLT : Hid (∀ g, vH.ownBlock = some g → g < wr.heap.size) := Lib.hid (fun g hg => (HK.out.oH.lt g hg).2)
        have HLX : Hid (∀ g, vX.ownBlock = some g → g < wr.heap.size) := Lib.hid (fun g hg => (HK.out.oX.lt g hg).2)
        have hH1 := hlen.1
        have hX1 := hlen.2
        have HCK := Lib.hid (And.intro (And.intro hh5 hn5) (And.intro hx5 hn6))
        clear hH hX hap hlen hs HG2 HK c0 c1 gal hh5 hx5 hn5 hn6
        go_upto_region 6 with fail
        generalize w5.alloc _ = w6 at *
        have hBxf : Bf < w5.heap.size ∨ True := .inr trivial
        clear hBxf
        obtain ⟨Bx, hBx⟩ : ∃ Bx, w5.heap.size = Bx := ⟨_, rfl⟩
        rw [hBx] at HB
        rw [hBx]
        have HD := Lib.hid (HG3.out.keep (grown_drew (grown_refl w6 none)))
        have HBD : Hid (w6.drew.heap[Bx]? = some (.cells #[.slice pH' H'.length cH', .slice pX' X'.length cX'] 47 (0, 0)) ∧ RdF w6.drew (fun b => wr.heap.size ≤ b) (.slice pH' H'.length cH') H'.length (H'.flatMap hpC) ∧ RdF w6.drew (fun b => wr.heap.size ≤ b) (.slice pX' X'.length cX') X'.length (X'.map tv)) := Lib.hid ⟨HB.out.1, (HB.out.2.1.keep (grown_drew (grown_refl w6 none))).mono (fun b hb => hb.1), (HB.out.2.2.keep (grown_drew (grown_refl w6 none))).mono (fun b hb => hb.1)⟩
        have hBx2 : wr.heap.size ≤ Bx := by omega
        clear HB HG3 hBx
        refine region_until (S := fun w' => Hid (w'.heap[Bf]? = some (.cells #[vH, vX] 47 (0, 0)) ∧ w'.heap[Bx]? = some (.cells #[.slice pH' H'.length cH', .slice pX' X'.length cX'] 47 (0, 0)))) (fun j => j == 11 || j == 12 || j == 13) (by kernel_rfl) (Lib.hid ⟨HD.out.fb, HBD.out.1⟩) (fun hHeld => ?_)
        refine anyU_take (i := 0) (oi := { dst := some 20, op := Op.fieldAddr 47 (Operand.tmp 5) 0, type := 0, pos := "make.go:456", after := #[], guard := none }) (v := ?_) rfl (by kernel_rfl) (by kernel_rfl) (by kernel_rfl) (by kernel_rfl) (by kernel_rfl) (fun _ _ _ h => h) (Or.inl ⟨by rfl, ?_⟩) hHeld ?_
        rotate_left 1
        · intro u hSu
          obtain ⟨q0, q1⟩ := row_cells hSu.out.1
          obtain ⟨q2, q3⟩ := row_cells hSu.out.2
          go_simp
          first | done | with_reducible rfl
        (try simp only [Act.put, List.setIfInBounds_toArray, List.set_cons_zero, List.set_cons_succ])
        refine anyU_take (i := 1) (oi := { dst := some 21, op := Op.load 45 (Operand.tmp 20), type := 45, pos := "make.go:456", after := #[{ on := 0, ground := Ground.data }], guard := none }) (v := ?_) rfl (by kernel_rfl) (by kernel_rfl) (by kernel_rfl) (by kernel_rfl) (by kernel_rfl) (fun _ _ _ h => h) (Or.inl ⟨by rfl, ?_⟩) hHeld ?_
        rotate_left 1
        · intro u hSu
          obtain ⟨q0, q1⟩ := row_cells hSu.out.1
          obtain ⟨q2, q3⟩ := row_cells hSu.out.2
          go_simp
          first | done | with_reducible rfl
        (try simp only [Act.put, List.setIfInBounds_toArray, List.set_cons_zero, List.set_cons_succ])
        refine anyU_take (i := 2) (oi := { dst := some 22, op := Op.fieldAddr 47 (Operand.tmp 7) 0, type := 0, pos := "make.go:456", after := #[], guard := none }) (v := ?_) rfl (by kernel_rfl) (by kernel_rfl) (by kernel_rfl) (by kernel_rfl) (by kernel_rfl) (fun _ _ _ h => h) (Or.inl ⟨by rfl, ?_⟩) hHeld ?_
        rotate_left 1
        · intro u hSu
          obtain ⟨q0, q1⟩ := row_cells hSu.out.1
          obtain ⟨q2, q3⟩ := row_cells hSu.out.2
          go_simp
          first | done | with_reducible rfl
        (try simp only [Act.put, List.setIfInBounds_toArray, List.set_cons_zero, List.set_cons_succ])
        refine anyU_take (i := 3) (oi := { dst := some 23, op := Op.load 45 (Operand.tmp 22), type := 45, pos := "make.go:456", after := #[{ on := 2, ground := Ground.data }], guard := none }) (v := ?_) rfl (by kernel_rfl) (by kernel_rfl) (by kernel_rfl) (by kernel_rfl) (by kernel_rfl) (fun _ _ _ h => h) (Or.inl ⟨by rfl, ?_⟩) hHeld ?_
        rotate_left 1
        · intro u hSu
          obtain ⟨q0, q1⟩ := row_cells hSu.out.1
          obtain ⟨q2, q3⟩ := row_cells hSu.out.2
          go_simp
          first | done | with_reducible rfl
        (try simp only [Act.put, List.setIfInBounds_toArray, List.set_cons_zero, List.set_cons_succ])
        refine anyU_take (i := 5) (oi := { dst := some 25, op := Op.fieldAddr 47 (Operand.tmp 5) 1, type := 0, pos := "make.go:456", after := #[], guard := none }) (v := ?_) rfl (by kernel_rfl) (by kernel_rfl) (by kernel_rfl) (by kernel_rfl) (by kernel_rfl) (fun _ _ _ h => h) (Or.inl ⟨by rfl, ?_⟩) hHeld ?_
        rotate_left 1
        · intro u hSu
          obtain ⟨q0, q1⟩ := row_cells hSu.out.1
          obtain ⟨q2, q3⟩ := row_cells hSu.out.2
          go_simp
          first | done | with_reducible rfl
        (try simp only [Act.put, List.setIfInBounds_toArray, List.set_cons_zero, List.set_cons_succ])
        refine anyU_take (i := 6) (oi := { dst := some 26, op := Op.load 22 (Operand.tmp 25), type := 22, pos := "make.go:456", after := #[{ on := 5, ground := Ground.data }], guard := none }) (v := ?_) rfl (by kernel_rfl) (by kernel_rfl) (by kernel_rfl) (by kernel_rfl) (by kernel_rfl) (fun _ _ _ h => h) (Or.inl ⟨by rfl, ?_⟩) hHeld ?_
        rotate_left 1
        · intro u hSu
          obtain ⟨q0, q1⟩ := row_cells hSu.out.1
          obtain ⟨q2, q3⟩ := row_cells hSu.out.2
          go_simp
          first | done | with_reducible rfl
        (try simp only [Act.put, List.setIfInBounds_toArray, List.set_cons_zero, List.set_cons_succ])
        refine anyU_take (i := 7) (oi := { dst := some 27, op := Op.fieldAddr 47 (Operand.tmp 7) 1, type := 0, pos := "make.go:456", after := #[], guard := none }) (v := ?_) rfl (by kernel_rfl) (by kernel_rfl) (by kernel_rfl) (by kernel_rfl) (by kernel_rfl) (fun _ _ _ h => h) (Or.inl ⟨by rfl, ?_⟩) hHeld ?_
        rotate_left 1
        · intro u hSu
          obtain ⟨q0, q1⟩ := row_cells hSu.out.1
          obtain ⟨q2, q3⟩ := row_cells hSu.out.2
          go_simp
          first | done | with_reducible rfl
        (try simp only [Act.put, List.setIfInBounds_toArray, List.set_cons_zero, List.set_cons_succ])
        refine anyU_take (i := 8) (oi := { dst := some 28, op := Op.load 22 (Operand.tmp 27), type := 22, pos := "make.go:456", after := #[{ on := 7, ground := Ground.data }], guard := none }) (v := ?_) rfl (by kernel_rfl) (by kernel_rfl) (by kernel_rfl) (by kernel_rfl) (by kernel_rfl) (fun _ _ _ h => h) (Or.inl ⟨by rfl, ?_⟩) hHeld ?_
        rotate_left 1
        · intro u hSu
          obtain ⟨q0, q1⟩ := row_cells hSu.out.1
          obtain ⟨q2, q3⟩ := row_cells hSu.out.2
          go_simp
          first | done | with_reducible rfl
        (try simp only [Act.put, List.setIfInBounds_toArray, List.set_cons_zero, List.set_cons_succ])
        refine anyU_ready (rs := [4]) (by kernel_rfl) (by simp) ?_
        refine EachU.cons (o := { dst := some 24, op := Op.call { callee := Callee.builtin Builtin.append, args := #[Operand.tmp 21, Operand.tmp 23], argTypes := #[45, 45] }, type := 45, pos := "make.go:456", after := #[{ on := 1, ground := Ground.data }, { on := 3, ground := Ground.data }], guard := none }) rfl (fun Kz hK => ?_) EachU.nil
        refine (step_append_f hpC 2 16 (by decide) (fun _ => rfl) hp_one 70 45 ih _ Try.underlying45 hih hh0 hh1 hh2 rfl (by decide) (by rfl) _ _ (by rfl) (w.heap.size + 2) vH H (by rfl) HD.out.oH pH' H'.length cH' H' (by rfl) rfl HCK.out.1.2 _ HBD.out.2.1 HCK.out.1.1 (by omega) (by have := HD.out.m.sz; omega) ?_)
        intro p4 c4 w8 hown hg hat
        have HD4 := Lib.hid (HD.out.addH (H' := H ++ H') ha HQ2.out hown hg hat)
        have HBD4 : Hid (w8.heap[Bx]? = some (.cells #[.slice pH' H'.length cH', .slice pX' X'.length cX'] 47 (0, 0)) ∧ RdF w8 (fun b => wr.heap.size ≤ b) (.slice pX' X'.length cX') X'.length (X'.map tv)) := Lib.hid ⟨kept_row HBD.out.1 hg (fun e => by have := HLT.out _ e.symm; omega), HBD.out.2.2.grown hg (fun b hb e => by have := HLT.out _ e.symm; omega)⟩
        clear hown hg hat
        refine hK.out _ _ (fun _ => Lib.hid ⟨HD4.out.fb, HBD4.out.1⟩) (fun hH2 => ?_)
        clear hK Kz hHeld
        have hHeld := hH2 rfl
        clear hH2
        (try simp only [Act.put, List.setIfInBounds_toArray, List.set_cons_zero, List.set_cons_succ])
        refine anyU_take (i := 10) (oi := { dst := some 30, op := Op.fieldAddr 47 (Operand.tmp 5) 0, type := 0, pos := "make.go:456", after := #[{ on := 0, ground := Ground.phase }, { on := 1, ground := Ground.phase }, { on := 2, ground := Ground.phase }, { on := 3, ground := Ground.phase }, { on := 4, ground := Ground.phase }, { on := 5, ground := Ground.phase }, { on := 6, ground := Ground.phase }, { on := 7, ground := Ground.textOnly Departure.lateStores }, { on := 8, ground := Ground.textOnly Departure.lateStores }, { on := 9, ground := Ground.textOnly Departure.lateStoresUnsure }], guard := none }) (v := ?_) rfl (by kernel_rfl) (by kernel_rfl) (by kernel_rfl) (by kernel_rfl) (by kernel_rfl) (fun _ _ _ h => h) (Or.inl ⟨by rfl, ?_⟩) hHeld ?_
        rotate_left 1
        · intro u hSu
          obtain ⟨q0, q1⟩ := row_cells hSu.out.1
          obtain ⟨q2, q3⟩ := row_cells hSu.out.2
          go_simp
          first | done | with_reducible rfl
        (try simp only [Act.put, List.setIfInBounds_toArray, List.set_cons_zero, List.set_cons_succ])
        refine anyU_ready (rs := [9]) (by kernel_rfl) (by simp) ?_
        refine EachU.cons (o := { dst := some 29, op := Op.call { callee := Callee.builtin Builtin.append, args := #[Operand.tmp 26, Operand.tmp 28], argTypes := #[22, 22] }, type := 22, pos := "make.go:456", after := #[{ on := 6, ground := Ground.data }, { on := 8, ground := Ground.data }, { on := 4, ground := Ground.chain }], guard := none }) rfl (fun Kz hK => ?_) EachU.nil
        refine (step_append_f tvC 1 8 (by decide) (fun _ => rfl) tv_one 3 22 ii _ Try.underlying22 hii hi0 hi1 hi2 rfl (by decide) (by rfl) _ _ (by rfl) (w.heap.size + 2) vX X (by rfl) HD4.out.oX pX' X'.length cX' X' (by rfl) rfl HCK.out.2.2 _ (by rw [flat_tv]; exact HBD4.out.2) HCK.out.2.1 (by omega) (by have := HD4.out.m.sz; omega) ?_)
        intro p5 c5 w9 hown hg hat
        have HD5 := Lib.hid (HD4.out.addX (X' := X ++ X') ha HQ2.out hown hg hat)
        have HBD5 : Hid (w9.heap[Bx]? = some (.cells #[.slice pH' H'.length cH', .slice pX' X'.length cX'] 47 (0, 0))) := Lib.hid (kept_row HBD4.out.1 hg (fun e => by have := HLX.out _ e.symm; omega))
        have cc := row_cells HD5.out.fb
        have c90 := cc.1
        have c91 := cc.2
        have fB := frozen_of_row _ _ 0 _ _ HD5.out.fb
        have fC := frozen_of_row _ _ 1 _ _ HD5.out.fb
        clear cc hown hg hat
        refine hK.out _ _ (fun _ => Lib.hid ⟨HD5.out.fb, HBD5.out⟩) (fun hH2 => ?_)
        clear hK Kz hHeld
        have hHeld := hH2 rfl
        clear hH2
        (try simp only [Act.put, List.setIfInBounds_toArray, List.set_cons_zero, List.set_cons_succ])
        refine anyU_ready (rs := [11]) (by kernel_rfl) (by simp) ?_
        refine EachU.cons (o := { dst := none, op := Op.store 45 (Operand.tmp 30) (Operand.tmp 24), type := 0, pos := "make.go:456", after := #[{ on := 10, ground := Ground.data }, { on := 4, ground := Ground.data }, { on := 9, ground := Ground.chain }, { on := 0, ground := Ground.phase }, { on := 1, ground := Ground.phase }, { on := 2, ground := Ground.phase }, { on := 3, ground := Ground.phase }, { on := 4, ground := Ground.phase }, { on := 5, ground := Ground.phase }, { on := 6, ground := Ground.phase }, { on := 7, ground := Ground.textOnly Departure.lateStores }, { on := 8, ground := Ground.textOnly Departure.lateStores }, { on := 9, ground := Ground.textOnly Departure.lateStoresUnsure }], guard := none }) rfl (fun Kz hK => ?_) EachU.nil
        go_simp
        refine hK.out _ _ (fun h => by cases h) (fun _ => ?_)
        clear hK Kz
        (try simp only [Act.put, List.setIfInBounds_toArray, List.set_cons_zero, List.set_cons_succ])
        refine anyU_ready (rs := [12]) (by kernel_rfl) (by simp) ?_
        refine EachU.cons (o := { dst := some 31, op := Op.fieldAddr 47 (Operand.tmp 5) 1, type := 0, pos := "make.go:456", after := #[{ on := 0, ground := Ground.phase }, { on := 1, ground := Ground.phase }, { on := 2, ground := Ground.phase }, { on := 3, ground := Ground.phase }, { on := 4, ground := Ground.phase }, { on := 5, ground := Ground.phase }, { on := 6, ground := Ground.phase }, { on := 7, ground := Ground.phase }, { on := 8, ground := Ground.phase }, { on := 9, ground := Ground.phase }, { on := 10, ground := Ground.phase }, { on := 11, ground := Ground.phase }], guard := none }) rfl (fun Kz hK => ?_) EachU.nil
        go_simp
        refine hK.out _ _ (fun h => by cases h) (fun _ => ?_)
        clear hK Kz
        (try simp only [Act.put, List.setIfInBounds_toArray, List.set_cons_zero, List.set_cons_succ])
        refine anyU_ready (rs := [13]) (by kernel_rfl) (by simp) ?_
        refine EachU.cons (o := { dst := none, op := Op.store 22 (Operand.tmp 31) (Operand.tmp 29), type := 0, pos := "make.go:456", after := #[{ on := 12, ground := Ground.data }, { on := 9, ground := Ground.data }, { on := 11, ground := Ground.chain }, { on := 0, ground := Ground.phase }, { on := 1, ground := Ground.phase }, { on := 2, ground := Ground.phase }, { on := 3, ground := Ground.phase }, { on := 4, ground := Ground.phase }, { on := 5, ground := Ground.phase }, { on := 6, ground := Ground.phase }, { on := 7, ground := Ground.phase }, { on := 8, ground := Ground.phase }, { on := 9, ground := Ground.phase }, { on := 10, ground := Ground.phase }, { on := 11, ground := Ground.phase }], guard := none }) rfl (fun Kz hK => ?_) EachU.nil
        go_simp
        refine hK.out _ _ (fun h => by cases h) (fun _ => ?_)
        clear hK Kz
        (try simp only [Act.put, List.setIfInBounds_toArray, List.set_cons_zero, List.set_cons_succ])
        refine anyU_done (by kernel_rfl) ?_ _
        have HN := Lib.hid (HD5.out.put2 ha HQ2.out)
        clear HD HD4 HD5 HBD HBD4 HBD5 hHeld c90 c91 fB fC
        go_wp2_with fail
        exact ⟨⟨k - 1, by omega, by congr 1; omega, _, _, _, _, by rw [List.length_append]; omega, by rw [List.length_append]; omega, HN⟩, by simp [intOf]; omega⟩
      · obtain rfl : k = 0 := by omega
        go_wp2_with fail
        go_meet
        exact ⟨vH, vX, H, X, by omega, by omega, HK⟩
  case rest =>
  obtain ⟨vH, vX, H, X, hHl, hXl, HK⟩ := hcut
  clear HG1
  go_wp2_with fail
  refine (one_any a 6 (by unfold I64; omega) _ HK.out.m.st.2).mono ?_
  rintro e w7 ⟨z, rfl, hs⟩
  have HK2 := Lib.hid (HK.out.tape ha HQ.out hs)
  clear hs HK
  go_upto_if 33 with fail
  go_cut [] from 34 to 51 (fun wx => ∃ vH vX H X, (H : List Hp).length ≤ 4 ∧ (X : List Int).length ≤ 4 ∧ Hid (GM a w ⟨R, L, pR, cR, pL, cL⟩ q Bf vH vX vH vX H X wx))
  case first =>
    cases z
    · go_wp2_with fail
      go_meet
      exact ⟨vH, vX, H, X, by omega, by omega, HK2⟩
    · go_upto_region 8 with fail
      have HD := Lib.hid (HK2.out.keep (grown_drew (grown_refl w7 none)))
      clear HK2
      refine region_until (S := fun w' => Hid (w'.heap[Bf]? = some (.cells #[vH, vX] 47 (0, 0)))) (fun j => j == 17 || j == 18 || j == 19) (by kernel_rfl) (Lib.hid HD.out.fb) (fun hHeld => ?_)
      refine anyU_take (i := 0) (oi := { dst := some 34, op := Op.fieldAddr 47 (Operand.tmp 5) 0, type := 0, pos := "make.go:459", after := #[], guard := none }) (v := ?_) rfl (by kernel_rfl) (by kernel_rfl) (by kernel_rfl) (by kernel_rfl) (by kernel_rfl) (fun _ _ _ h => h) (Or.inl ⟨by rfl, ?_⟩) hHeld ?_
      rotate_left 1
      · intro u hSu
        obtain ⟨q0, q1⟩ := row_cells hSu.out
        go_simp
        first | done | with_reducible rfl
      (try simp only [Act.put, List.setIfInBounds_toArray, List.set_cons_zero, List.set_cons_succ])
      refine anyU_take (i := 1) (oi := { dst := some 35, op := Op.load 45 (Operand.tmp 34), type := 45, pos := "make.go:459", after := #[{ on := 0, ground := Ground.data }], guard := none }) (v := ?_) rfl (by kernel_rfl) (by kernel_rfl) (by kernel_rfl) (by kernel_rfl) (by kernel_rfl) (fun _ _ _ h => h) (Or.inl ⟨by rfl, ?_⟩) hHeld ?_
      rotate_left 1
      · intro u hSu
        obtain ⟨q0, q1⟩ := row_cells hSu.out
        go_simp
        first | done | with_reducible rfl
      (try simp only [Act.put, List.setIfInBounds_toArray, List.set_cons_zero, List.set_cons_succ])
      refine anyU_take (i := 2) (oi := { dst := some 36, op := Op.move (Operand.tmp 0), type := 27, pos := "make.go:459", after := #[], guard := none }) (v := ?_) rfl (by kernel_rfl) (by kernel_rfl) (by kernel_rfl) (by kernel_rfl) (by kernel_rfl) (fun _ _ _ h => h) (Or.inl ⟨by rfl, ?_⟩) hHeld ?_
      rotate_left 1
      · intro u hSu
        obtain ⟨q0, q1⟩ := row_cells hSu.out
        go_simp
        first | done | with_reducible rfl
      (try simp only [Act.put, List.setIfInBounds_toArray, List.set_cons_zero, List.set_cons_succ])
      refine anyU_take (i := 4) (oi := { dst := some 38, op := Op.move (Operand.tmp 0), type := 27, pos := "make.go:459", after := #[], guard := none }) (v := ?_) rfl (by kernel_rfl) (by kernel_rfl) (by kernel_rfl) (by kernel_rfl) (by kernel_rfl) (fun _ _ _ h => h) (Or.inl ⟨by rfl, ?_⟩) hHeld ?_
      rotate_left 1
      · intro u hSu
        obtain ⟨q0, q1⟩ := row_cells hSu.out
        go_simp
        first | done | with_reducible rfl
      (try simp only [Act.put, List.setIfInBounds_toArray, List.set_cons_zero, List.set_cons_succ])
      refine anyU_take (i := 9) (oi := { dst := some 43, op := Op.fieldAddr 47 (Operand.tmp 5) 1, type := 0, pos := "make.go:459", after := #[], guard := none }) (v := ?_) rfl (by kernel_rfl) (by kernel_rfl) (by kernel_rfl) (by kernel_rfl) (by kernel_rfl) (fun _ _ _ h => h) (Or.inl ⟨by rfl, ?_⟩) hHeld ?_
      rotate_left 1
      · intro u hSu
        obtain ⟨q0, q1⟩ := row_cells hSu.out
        go_simp
        first | done | with_reducible rfl
      (try simp only [Act.put, List.setIfInBounds_toArray, List.set_cons_zero, List.set_cons_succ])
      refine anyU_take (i := 10) (oi := { dst := some 44, op := Op.load 22 (Operand.tmp 43), type := 22, pos := "make.go:459", after := #[{ on := 9, ground := Ground.data }], guard := none }) (v := ?_) rfl (by kernel_rfl) (by kernel_rfl) (by kernel_rfl) (by kernel_rfl) (by kernel_rfl) (fun _ _ _ h => h) (Or.inl ⟨by rfl, ?_⟩) hHeld ?_
      rotate_left 1
      · intro u hSu
        obtain ⟨q0, q1⟩ := row_cells hSu.out
        go_simp
        first | done | with_reducible rfl
      (try simp only [Act.put, List.setIfInBounds_toArray, List.set_cons_zero, List.set_cons_succ])
      refine anyU_take (i := 11) (oi := { dst := some 45, op := Op.move (Operand.tmp 0), type := 27, pos := "make.go:459", after := #[], guard := none }) (v := ?_) rfl (by kernel_rfl) (by kernel_rfl) (by kernel_rfl) (by kernel_rfl) (by kernel_rfl) (fun _ _ _ h => h) (Or.inl ⟨by rfl, ?_⟩) hHeld ?_
      rotate_left 1
      · intro u hSu
        obtain ⟨q0, q1⟩ := row_cells hSu.out
        go_simp
        first | done | with_reducible rfl
      (try simp only [Act.put, List.setIfInBounds_toArray, List.set_cons_zero, List.set_cons_succ])
      refine anyU_ready (rs := [3, 12]) (by kernel_rfl) (by simp) ?_
      refine EachU.cons (o := { dst := some 37, op := Op.call { callee := Callee.value (Operand.func 17), args := #[Operand.tmp 36, Operand.const (Value.int IntKind.i64 9)], argTypes := #[27, 3] }, type := 3, pos := "make.go:459", after := #[{ on := 2, ground := Ground.data }], guard := none }) rfl (fun Kz hK => ?_) (EachU.cons (o := { dst := some 46, op := Op.buildSlice 22 3 #[(0, Operand.const (Value.int IntKind.i64 0)), (1, Operand.const (Value.int IntKind.i64 77)), (2, Operand.const (Value.int IntKind.i64 (-1)))], type := 22, pos := "make.go:459", after := #[], guard := none }) rfl (fun Kz hK => ?_) EachU.nil)
      · go_simp
        go_at_call 17
        refine (next_any a 9 (by unfold I64; omega) _ HD.out.m.st.2).mono ?_
        rintro e w5 ⟨x1, rfl, -, hs⟩
        have HDn := Lib.hid (HD.out.tape ha HQ.out hs)
        first | (have HMK := Lib.hid (show ∀ p, p = _ → _ from fun p hp => (HAM.out p hp).keepR hs.1 (fun e => (HAM.out p hp).1 (Option.some.inj e))); clear HAM; have HAM := HMK; clear HMK) | skip
        clear hs HD
        have HD := HDn
        clear HDn
        refine hK.out _ _ (fun _ => Lib.hid HD.out.fb) (fun hH2 => ?_)
        clear hK Kz hHeld
        have hHeld := hH2 rfl
        clear hH2
        (try simp only [Act.put, List.setIfInBounds_toArray, List.set_cons_zero, List.set_cons_succ])
        refine anyU_ready (rs := [5, 12]) (by kernel_rfl) (by simp) ?_
        refine EachU.cons (o := { dst := some 39, op := Op.call { callee := Callee.value (Operand.func 17), args := #[Operand.tmp 38, Operand.const (Value.int IntKind.i64 9)], argTypes := #[27, 3] }, type := 3, pos := "make.go:459", after := #[{ on := 4, ground := Ground.data }, { on := 3, ground := Ground.chain }], guard := none }) rfl (fun Kz hK => ?_) (EachU.cons (o := { dst := some 46, op := Op.buildSlice 22 3 #[(0, Operand.const (Value.int IntKind.i64 0)), (1, Operand.const (Value.int IntKind.i64 77)), (2, Operand.const (Value.int IntKind.i64 (-1)))], type := 22, pos := "make.go:459", after := #[], guard := none }) rfl (fun Kz hK => ?_) EachU.nil)
        · go_simp
          go_at_call 17
          refine (next_any a 9 (by unfold I64; omega) _ HD.out.m.st.2).mono ?_
          rintro e w5 ⟨x2, rfl, -, hs⟩
          have HDn := Lib.hid (HD.out.tape ha HQ.out hs)
          first | (have HMK := Lib.hid (show ∀ p, p = _ → _ from fun p hp => (HAM.out p hp).keepR hs.1 (fun e => (HAM.out p hp).1 (Option.some.inj e))); clear HAM; have HAM := HMK; clear HMK) | skip
          clear hs HD
          have HD := HDn
          clear HDn
          refine hK.out _ _ (fun _ => Lib.hid HD.out.fb) (fun hH2 => ?_)
          clear hK Kz hHeld
          have hHeld := hH2 rfl
          clear hH2
          (try simp only [Act.put, List.setIfInBounds_toArray, List.set_cons_zero, List.set_cons_succ])
          refine anyU_take (i := 6) (oi := { dst := some 40, op := Op.build 70 #[(0, Operand.tmp 37), (1, Operand.tmp 39)], type := 70, pos := "make.go:459", after := #[{ on := 3, ground := Ground.data }, { on := 5, ground := Ground.data }], guard := none }) (v := ?_) rfl (by kernel_rfl) (by kernel_rfl) (by kernel_rfl) (by kernel_rfl) (by kernel_rfl) (fun _ _ _ h => h) (Or.inl ⟨by rfl, ?_⟩) hHeld ?_
          rotate_left 1
          · intro u hSu
            obtain ⟨q0, q1⟩ := row_cells hSu.out
            go_simp
            first | done | with_reducible rfl
          (try simp only [Act.put, List.setIfInBounds_toArray, List.set_cons_zero, List.set_cons_succ])
          refine anyU_ready (rs := [7, 12]) (by kernel_rfl) (by simp) ?_
          refine EachU.cons (o := { dst := some 41, op := Op.buildSlice 45 1 #[(0, Operand.tmp 40)], type := 45, pos := "make.go:459", after := #[{ on := 6, ground := Ground.data }], guard := none }) rfl (fun Kz hK => ?_) (EachU.cons (o := { dst := some 46, op := Op.buildSlice 22 3 #[(0, Operand.const (Value.int IntKind.i64 0)), (1, Operand.const (Value.int IntKind.i64 77)), (2, Operand.const (Value.int IntKind.i64 (-1)))], type := 22, pos := "make.go:459", after := #[], guard := none }) rfl (fun Kz hK => ?_) EachU.nil)
          · go_simp
            have HDn := Lib.hid (HD.out.keep (World.grownBy_alloc _ (.cells #[.int .i64 x1, .int .i64 x2] 70) none))
            have HAL := HD
            first | (have HMK := Lib.hid (show ∀ p, p = _ → _ from fun p hp => (HAM.out p hp).keepR (World.grownBy_alloc _ (.cells #[.int .i64 x1, .int .i64 x2] 70) none) (by simp)); clear HAM; have HAM := HMK; clear HMK) | skip
            clear HD
            have HD := HDn
            clear HDn
            have HR7 := Lib.hid (HAL.out.hop x1 x2)
            clear HAL
            refine hK.out _ _ (fun _ => Lib.hid HD.out.fb) (fun hH2 => ?_)
            clear hK Kz hHeld
            have hHeld := hH2 rfl
            clear hH2
            (try simp only [Act.put, List.setIfInBounds_toArray, List.set_cons_zero, List.set_cons_succ])
            refine anyU_ready (rs := [8, 12]) (by kernel_rfl) (by simp) ?_
            refine EachU.cons (o := { dst := some 42, op := Op.call { callee := Callee.builtin Builtin.append, args := #[Operand.tmp 35, Operand.tmp 41], argTypes := #[45, 45] }, type := 45, pos := "make.go:459", after := #[{ on := 1, ground := Ground.data }, { on := 7, ground := Ground.data }, { on := 5, ground := Ground.chain }], guard := none }) rfl (fun Kz hK => ?_) (EachU.cons (o := { dst := some 46, op := Op.buildSlice 22 3 #[(0, Operand.const (Value.int IntKind.i64 0)), (1, Operand.const (Value.int IntKind.i64 77)), (2, Operand.const (Value.int IntKind.i64 (-1)))], type := 22, pos := "make.go:459", after := #[], guard := none }) rfl (fun Kz hK => ?_) EachU.nil)
            · refine (step_append_f hpC 2 16 (by decide) (fun _ => rfl) hp_one 70 45 ih _ Try.underlying45 hih hh0 hh1 hh2 rfl (by decide) (by rfl) _ _ (by rfl) (w.heap.size + 2) vH H (by rfl) HD.out.oH (some ⟨_, 0, none⟩) 1 1 [⟨x1, x2⟩] (by rfl) rfl (by simp) (fun _ => True) (HR7.out _ (by first | rfl | simp)) (by omega) (by simp; omega) (by have := HD.out.m.sz; omega) ?_)
              intro p4 c4 w8 hown hg hat
              have HDn := Lib.hid (HD.out.addH (H' := H ++ [⟨x1, x2⟩]) ha HQ2.out hown hg hat)
              first | (have HMK := Lib.hid (show ∀ p, p = _ → _ from fun p hp => (HAM.out p hp).keepR hg (fun e => HNE.out p hp _ e.symm rfl)); clear HAM; have HAM := HMK; clear HMK) | skip
              clear hown hg hat HD
              have HD := HDn
              clear HDn
              refine hK.out _ _ (fun _ => Lib.hid HD.out.fb) (fun hH2 => ?_)
              clear hK Kz hHeld
              have hHeld := hH2 rfl
              clear hH2
              (try simp only [Act.put, List.setIfInBounds_toArray, List.set_cons_zero, List.set_cons_succ])
              refine anyU_take (i := 16) (oi := { dst := some 50, op := Op.fieldAddr 47 (Operand.tmp 5) 0, type := 0, pos := "make.go:459", after := #[{ on := 0, ground := Ground.phase }, { on := 1, ground := Ground.phase }, { on := 2, ground := Ground.phase }, { on := 3, ground := Ground.phase }, { on := 4, ground := Ground.phase }, { on := 5, ground := Ground.phase }, { on := 6, ground := Ground.phase }, { on := 7, ground := Ground.phase }, { on := 8, ground := Ground.phase }, { on := 9, ground := Ground.phase }, { on := 10, ground := Ground.phase }, { on := 11, ground := Ground.textOnly Departure.lateStores }, { on := 12, ground := Ground.textOnly Departure.lateStores }, { on := 13, ground := Ground.textOnly Departure.lateStoresUnsure }, { on := 14, ground := Ground.textOnly Departure.lateStores }, { on := 15, ground := Ground.textOnly Departure.lateStoresUnsure }], guard := none }) (v := ?_) rfl (by kernel_rfl) (by kernel_rfl) (by kernel_rfl) (by kernel_rfl) (by kernel_rfl) (fun _ _ _ h => h) (Or.inl ⟨by rfl, ?_⟩) hHeld ?_
              rotate_left 1
              · intro u hSu
                obtain ⟨q0, q1⟩ := row_cells hSu.out
                go_simp
                first | done | with_reducible rfl
              (try simp only [Act.put, List.setIfInBounds_toArray, List.set_cons_zero, List.set_cons_succ])
              refine anyU_ready (rs := [12]) (by kernel_rfl) (by simp) ?_
              refine EachU.cons (o := { dst := some 46, op := Op.buildSlice 22 3 #[(0, Operand.const (Value.int IntKind.i64 0)), (1, Operand.const (Value.int IntKind.i64 77)), (2, Operand.const (Value.int IntKind.i64 (-1)))], type := 22, pos := "make.go:459", after := #[], guard := none }) rfl (fun Kz hK => ?_) EachU.nil
              go_simp
              have HDn := Lib.hid (HD.out.keep (World.grownBy_alloc _ (.cells #[.int .i64 0, .int .i64 77, .int .i64 (-1)] 3) none))
              have HAM := Lib.hid HD.out.ints.1
              have HNE := Lib.hid HD.out.ints.2
              first | (have HRK := Lib.hid (show ∀ p, p = _ → _ from fun p hp => (HR7.out p hp).keep (World.grownBy_alloc _ (.cells #[.int .i64 0, .int .i64 77, .int .i64 (-1)] 3) none)); clear HR7; have HR7 := HRK; clear HRK) | skip
              clear HD
              have HD := HDn
              clear HDn
              refine hK.out _ _ (fun _ => Lib.hid HD.out.fb) (fun hH2 => ?_)
              clear hK Kz hHeld
              have hHeld := hH2 rfl
              clear hH2
              (try simp only [Act.put, List.setIfInBounds_toArray, List.set_cons_zero, List.set_cons_succ])
              refine anyU_ready (rs := [13]) (by kernel_rfl) (by simp) ?_
              refine EachU.cons (o := { dst := some 47, op := Op.call { callee := Callee.value (Operand.func 49), args := #[Operand.tmp 45, Operand.tmp 46], argTypes := #[27, 22] }, type := 3, pos := "make.go:459", after := #[{ on := 11, ground := Ground.data }, { on := 12, ground := Ground.data }, { on := 8, ground := Ground.chain }], guard := none }) rfl (fun Kz hK => ?_) EachU.nil
              go_simp
              go_at_call 49
              refine (pick_any I64 a _ 0 3 3 (by omega) (by omega) _ HD.out.m.st.2 (HAM.out _ (by first | rfl | simp))).mono ?_
              rintro e w5 ⟨x3, rfl, -, hs⟩
              have HDn := Lib.hid (HD.out.tape ha HQ.out hs)
              clear hs HD HAM
              have HD := HDn
              clear HDn
              refine hK.out _ _ (fun _ => Lib.hid HD.out.fb) (fun hH2 => ?_)
              clear hK Kz hHeld
              have hHeld := hH2 rfl
              clear hH2
              (try simp only [Act.put, List.setIfInBounds_toArray, List.set_cons_zero, List.set_cons_succ])
              refine anyU_ready (rs := [14]) (by kernel_rfl) (by simp) ?_
              refine EachU.cons (o := { dst := some 48, op := Op.buildSlice 22 1 #[(0, Operand.tmp 47)], type := 22, pos := "make.go:459", after := #[{ on := 13, ground := Ground.data }], guard := none }) rfl (fun Kz hK => ?_) EachU.nil
              go_simp
              have HDn := Lib.hid (HD.out.keep (World.grownBy_alloc _ (.cells #[.int .i64 x3] 3) none))
              clear HD
              have HD := HDn
              clear HDn
              refine hK.out _ _ (fun _ => Lib.hid HD.out.fb) (fun hH2 => ?_)
              clear hK Kz hHeld
              have hHeld := hH2 rfl
              clear hH2
              (try simp only [Act.put, List.setIfInBounds_toArray, List.set_cons_zero, List.set_cons_succ])
              refine anyU_ready (rs := [15]) (by kernel_rfl) (by simp) ?_
              refine EachU.cons (o := { dst := some 49, op := Op.call { callee := Callee.builtin Builtin.append, args := #[Operand.tmp 44, Operand.tmp 48], argTypes := #[22, 22] }, type := 22, pos := "make.go:459", after := #[{ on := 10, ground := Ground.data }, { on := 14, ground := Ground.data }, { on := 13, ground := Ground.chain }], guard := none }) rfl (fun Kz hK => ?_) EachU.nil
              refine (step_append_f tvC 1 8 (by decide) (fun _ => rfl) tv_one 3 22 ii _ Try.underlying22 hii hi0 hi1 hi2 rfl (by decide) (by rfl) _ _ (by rfl) (w.heap.size + 2) vX X (by rfl) HD.out.oX (some ⟨_, 0, none⟩) 1 1 [x3] (by rfl) rfl (by simp) (fun _ => True) (rdf_one _ trivial (cell_one _ _ _) 1) (by omega) (by simp; omega) (by have := HD.out.m.sz; omega) ?_)
              intro p5 c5 w9 hown hg hat
              have HD5 := Lib.hid (HD.out.addX (X' := X ++ [x3]) ha HQ2.out hown hg hat)
              have cc := row_cells HD5.out.fb
              have c90 := cc.1
              have c91 := cc.2
              have fB := frozen_of_row _ _ 0 _ _ HD5.out.fb
              have fC := frozen_of_row _ _ 1 _ _ HD5.out.fb
              clear cc hown hg hat HD
              refine hK.out _ _ (fun _ => Lib.hid HD5.out.fb) (fun hH2 => ?_)
              clear hK Kz hHeld
              have hHeld := hH2 rfl
              clear hH2
              (try simp only [Act.put, List.setIfInBounds_toArray, List.set_cons_zero, List.set_cons_succ])
              refine anyU_ready (rs := [17]) (by kernel_rfl) (by simp) ?_
              refine EachU.cons (o := { dst := none, op := Op.store 45 (Operand.tmp 50) (Operand.tmp 42), type := 0, pos := "make.go:459", after := #[{ on := 16, ground := Ground.data }, { on := 8, ground := Ground.data }, { on := 15, ground := Ground.chain }, { on := 0, ground := Ground.phase }, { on := 1, ground := Ground.phase }, { on := 2, ground := Ground.phase }, { on := 3, ground := Ground.phase }, { on := 4, ground := Ground.phase }, { on := 5, ground := Ground.phase }, { on := 6, ground := Ground.phase }, { on := 7, ground := Ground.phase }, { on := 8, ground := Ground.phase }, { on := 9, ground := Ground.phase }, { on := 10, ground := Ground.phase }, { on := 11, ground := Ground.textOnly Departure.lateStores }, { on := 12, ground := Ground.textOnly Departure.lateStores }, { on := 13, ground := Ground.textOnly Departure.lateStoresUnsure }, { on := 14, ground := Ground.textOnly Departure.lateStores }, { on := 15, ground := Ground.textOnly Departure.lateStoresUnsure }], guard := none }) rfl (fun Kz hK => ?_) EachU.nil
              go_simp
              refine hK.out _ _ (fun h => by cases h) (fun _ => ?_)
              clear hK Kz
              (try simp only [Act.put, List.setIfInBounds_toArray, List.set_cons_zero, List.set_cons_succ])
              refine anyU_ready (rs := [18]) (by kernel_rfl) (by simp) ?_
              refine EachU.cons (o := { dst := some 51, op := Op.fieldAddr 47 (Operand.tmp 5) 1, type := 0, pos := "make.go:459", after := #[{ on := 0, ground := Ground.phase }, { on := 1, ground := Ground.phase }, { on := 2, ground := Ground.phase }, { on := 3, ground := Ground.phase }, { on := 4, ground := Ground.phase }, { on := 5, ground := Ground.phase }, { on := 6, ground := Ground.phase }, { on := 7, ground := Ground.phase }, { on := 8, ground := Ground.phase }, { on := 9, ground := Ground.phase }, { on := 10, ground := Ground.phase }, { on := 11, ground := Ground.phase }, { on := 12, ground := Ground.phase }, { on := 13, ground := Ground.phase }, { on := 14, ground := Ground.phase }, { on := 15, ground := Ground.phase }, { on := 16, ground := Ground.phase }, { on := 17, ground := Ground.phase }], guard := none }) rfl (fun Kz hK => ?_) EachU.nil
              go_simp
              refine hK.out _ _ (fun h => by cases h) (fun _ => ?_)
              clear hK Kz
              (try simp only [Act.put, List.setIfInBounds_toArray, List.set_cons_zero, List.set_cons_succ])
              refine anyU_ready (rs := [19]) (by kernel_rfl) (by simp) ?_
              refine EachU.cons (o := { dst := none, op := Op.store 22 (Operand.tmp 51) (Operand.tmp 49), type := 0, pos := "make.go:459", after := #[{ on := 18, ground := Ground.data }, { on := 15, ground := Ground.data }, { on := 17, ground := Ground.chain }, { on := 0, ground := Ground.phase }, { on := 1, ground := Ground.phase }, { on := 2, ground := Ground.phase }, { on := 3, ground := Ground.phase }, { on := 4, ground := Ground.phase }, { on := 5, ground := Ground.phase }, { on := 6, ground := Ground.phase }, { on := 7, ground := Ground.phase }, { on := 8, ground := Ground.phase }, { on := 9, ground := Ground.phase }, { on := 10, ground := Ground.phase }, { on := 11, ground := Ground.phase }, { on := 12, ground := Ground.phase }, { on := 13, ground := Ground.phase }, { on := 14, ground := Ground.phase }, { on := 15, ground := Ground.phase }, { on := 16, ground := Ground.phase }, { on := 17, ground := Ground.phase }], guard := none }) rfl (fun Kz hK => ?_) EachU.nil
              go_simp
              refine hK.out _ _ (fun h => by cases h) (fun _ => ?_)
              clear hK Kz
              (try simp only [Act.put, List.setIfInBounds_toArray, List.set_cons_zero, List.set_cons_succ])
              refine anyU_done (by kernel_rfl) ?_ _
              have HN := Lib.hid (HD5.out.put2 ha HQ2.out)
              clear HD5 hHeld c90 c91 fB fC
              go_wp2_with fail
              go_meet
              exact ⟨_, _, _, _, by rw [List.length_append]; simp; omega, by rw [List.length_append]; simp; omega, HN⟩
            · go_simp
              have HDn := Lib.hid (HD.out.keep (World.grownBy_alloc _ (.cells #[.int .i64 0, .int .i64 77, .int .i64 (-1)] 3) none))
              have HAM := Lib.hid HD.out.ints.1
              have HNE := Lib.hid HD.out.ints.2
              first | (have HRK := Lib.hid (show ∀ p, p = _ → _ from fun p hp => (HR7.out p hp).keep (World.grownBy_alloc _ (.cells #[.int .i64 0, .int .i64 77, .int .i64 (-1)] 3) none)); clear HR7; have HR7 := HRK; clear HRK) | skip
              clear HD
              have HD := HDn
              clear HDn
              refine hK.out _ _ (fun _ => Lib.hid HD.out.fb) (fun hH2 => ?_)
              clear hK Kz hHeld
              have hHeld := hH2 rfl
              clear hH2
              (try simp only [Act.put, List.setIfInBounds_toArray, List.set_cons_zero, List.set_cons_succ])
              refine anyU_ready (rs := [8]) (by kernel_rfl) (by simp) ?_
              refine EachU.cons (o := { dst := some 42, op := Op.call { callee := Callee.builtin Builtin.append, args := #[Operand.tmp 35, Operand.tmp 41], argTypes := #[45, 45] }, type := 45, pos := "make.go:459", after := #[{ on := 1, ground := Ground.data }, { on := 7, ground := Ground.data }, { on := 5, ground := Ground.chain }], guard := none }) rfl (fun Kz hK => ?_) EachU.nil
              refine (step_append_f hpC 2 16 (by decide) (fun _ => rfl) hp_one 70 45 ih _ Try.underlying45 hih hh0 hh1 hh2 rfl (by decide) (by rfl) _ _ (by rfl) (w.heap.size + 2) vH H (by rfl) HD.out.oH (some ⟨_, 0, none⟩) 1 1 [⟨x1, x2⟩] (by rfl) rfl (by simp) (fun _ => True) (HR7.out _ (by first | rfl | simp)) (by omega) (by simp; omega) (by have := HD.out.m.sz; omega) ?_)
              intro p4 c4 w8 hown hg hat
              have HDn := Lib.hid (HD.out.addH (H' := H ++ [⟨x1, x2⟩]) ha HQ2.out hown hg hat)
              first | (have HMK := Lib.hid (show ∀ p, p = _ → _ from fun p hp => (HAM.out p hp).keepR hg (fun e => HNE.out p hp _ e.symm rfl)); clear HAM; have HAM := HMK; clear HMK) | skip
              clear hown hg hat HD
              have HD := HDn
              clear HDn
              refine hK.out _ _ (fun _ => Lib.hid HD.out.fb) (fun hH2 => ?_)
              clear hK Kz hHeld
              have hHeld := hH2 rfl
              clear hH2
              (try simp only [Act.put, List.setIfInBounds_toArray, List.set_cons_zero, List.set_cons_succ])
              refine anyU_take (i := 16) (oi := { dst := some 50, op := Op.fieldAddr 47 (Operand.tmp 5) 0, type := 0, pos := "make.go:459", after := #[{ on := 0, ground := Ground.phase }, { on := 1, ground := Ground.phase }, { on := 2, ground := Ground.phase }, { on := 3, ground := Ground.phase }, { on := 4, ground := Ground.phase }, { on := 5, ground := Ground.phase }, { on := 6, ground := Ground.phase }, { on := 7, ground := Ground.phase }, { on := 8, ground := Ground.phase }, { on := 9, ground := Ground.phase }, { on := 10, ground := Ground.phase }, { on := 11, ground := Ground.textOnly Departure.lateStores }, { on := 12, ground := Ground.textOnly Departure.lateStores }, { on := 13, ground := Ground.textOnly Departure.lateStoresUnsure }, { on := 14, ground := Ground.textOnly Departure.lateStores }, { on := 15, ground := Ground.textOnly Departure.lateStoresUnsure }], guard := none }) (v := ?_) rfl (by kernel_rfl) (by kernel_rfl) (by kernel_rfl) (by kernel_rfl) (by kernel_rfl) (fun _ _ _ h => h) (Or.inl ⟨by rfl, ?_⟩) hHeld ?_
              rotate_left 1
              · intro u hSu
                obtain ⟨q0, q1⟩ := row_cells hSu.out
                go_simp
                first | done | with_reducible rfl
              (try simp only [Act.put, List.setIfInBounds_toArray, List.set_cons_zero, List.set_cons_succ])
              refine anyU_ready (rs := [13]) (by kernel_rfl) (by simp) ?_
              refine EachU.cons (o := { dst := some 47, op := Op.call { callee := Callee.value (Operand.func 49), args := #[Operand.tmp 45, Operand.tmp 46], argTypes := #[27, 22] }, type := 3, pos := "make.go:459", after := #[{ on := 11, ground := Ground.data }, { on := 12, ground := Ground.data }, { on := 8, ground := Ground.chain }], guard := none }) rfl (fun Kz hK => ?_) EachU.nil
              go_simp
              go_at_call 49
              refine (pick_any I64 a _ 0 3 3 (by omega) (by omega) _ HD.out.m.st.2 (HAM.out _ (by first | rfl | simp))).mono ?_
              rintro e w5 ⟨x3, rfl, -, hs⟩
              have HDn := Lib.hid (HD.out.tape ha HQ.out hs)
              clear hs HD HAM
              have HD := HDn
              clear HDn
              refine hK.out _ _ (fun _ => Lib.hid HD.out.fb) (fun hH2 => ?_)
              clear hK Kz hHeld
              have hHeld := hH2 rfl
              clear hH2
              (try simp only [Act.put, List.setIfInBounds_toArray, List.set_cons_zero, List.set_cons_succ])
              refine anyU_ready (rs := [14]) (by kernel_rfl) (by simp) ?_
              refine EachU.cons (o := { dst := some 48, op := Op.buildSlice 22 1 #[(0, Operand.tmp 47)], type := 22, pos := "make.go:459", after := #[{ on := 13, ground := Ground.data }], guard := none }) rfl (fun Kz hK => ?_) EachU.nil
              go_simp
              have HDn := Lib.hid (HD.out.keep (World.grownBy_alloc _ (.cells #[.int .i64 x3] 3) none))
              clear HD
              have HD := HDn
              clear HDn
              refine hK.out _ _ (fun _ => Lib.hid HD.out.fb) (fun hH2 => ?_)
              clear hK Kz hHeld
              have hHeld := hH2 rfl
              clear hH2
              (try simp only [Act.put, List.setIfInBounds_toArray, List.set_cons_zero, List.set_cons_succ])
              refine anyU_ready (rs := [15]) (by kernel_rfl) (by simp) ?_
              refine EachU.cons (o := { dst := some 49, op := Op.call { callee := Callee.builtin Builtin.append, args := #[Operand.tmp 44, Operand.tmp 48], argTypes := #[22, 22] }, type := 22, pos := "make.go:459", after := #[{ on := 10, ground := Ground.data }, { on := 14, ground := Ground.data }, { on := 13, ground := Ground.chain }], guard := none }) rfl (fun Kz hK => ?_) EachU.nil
              refine (step_append_f tvC 1 8 (by decide) (fun _ => rfl) tv_one 3 22 ii _ Try.underlying22 hii hi0 hi1 hi2 rfl (by decide) (by rfl) _ _ (by rfl) (w.heap.size + 2) vX X (by rfl) HD.out.oX (some ⟨_, 0, none⟩) 1 1 [x3] (by rfl) rfl (by simp) (fun _ => True) (rdf_one _ trivial (cell_one _ _ _) 1) (by omega) (by simp; omega) (by have := HD.out.m.sz; omega) ?_)
              intro p5 c5 w9 hown hg hat
              have HD5 := Lib.hid (HD.out.addX (X' := X ++ [x3]) ha HQ2.out hown hg hat)
              have cc := row_cells HD5.out.fb
              have c90 := cc.1
              have c91 := cc.2
              have fB := frozen_of_row _ _ 0 _ _ HD5.out.fb
              have fC := frozen_of_row _ _ 1 _ _ HD5.out.fb
              clear cc hown hg hat HD
              refine hK.out _ _ (fun _ => Lib.hid HD5.out.fb) (fun hH2 => ?_)
              clear hK Kz hHeld
              have hHeld := hH2 rfl
              clear hH2
              (try simp only [Act.put, List.setIfInBounds_toArray, List.set_cons_zero, List.set_cons_succ])
              refine anyU_ready (rs := [17]) (by kernel_rfl) (by simp) ?_
              refine EachU.cons (o := { dst := none, op := Op.store 45 (Operand.tmp 50) (Operand.tmp 42), type := 0, pos := "make.go:459", after := #[{ on := 16, ground := Ground.data }, { on := 8, ground := Ground.data }, { on := 15, ground := Ground.chain }, { on := 0, ground := Ground.phase }, { on := 1, ground := Ground.phase }, { on := 2, ground := Ground.phase }, { on := 3, ground := Ground.phase }, { on := 4, ground := Ground.phase }, { on := 5, ground := Ground.phase }, { on := 6, ground := Ground.phase }, { on := 7, ground := Ground.phase }, { on := 8, ground := Ground.phase }, { on := 9, ground := Ground.phase }, { on := 10, ground := Ground.phase }, { on := 11, ground := Ground.textOnly Departure.lateStores }, { on := 12, ground := Ground.textOnly Departure.lateStores }, { on := 13, ground := Ground.textOnly Departure.lateStoresUnsure }, { on := 14, ground := Ground.textOnly Departure.lateStores }, { on := 15, ground := Ground.textOnly Departure.lateStoresUnsure }], guard := none }) rfl (fun Kz hK => ?_) EachU.nil
              go_simp
              refine hK.out _ _ (fun h => by cases h) (fun _ => ?_)
              clear hK Kz
              (try simp only [Act.put, List.setIfInBounds_toArray, List.set_cons_zero, List.set_cons_succ])
              refine anyU_ready (rs := [18]) (by kernel_rfl) (by simp) ?_
              refine EachU.cons (o := { dst := some 51, op := Op.fieldAddr 47 (Operand.tmp 5) 1, type := 0, pos := "make.go:459", after := #[{ on := 0, ground := Ground.phase }, { on := 1, ground := Ground.phase }, { on := 2, ground := Ground.phase }, { on := 3, ground := Ground.phase }, { on := 4, ground := Ground.phase }, { on := 5, ground := Ground.phase }, { on := 6, ground := Ground.phase }, { on := 7, ground := Ground.phase }, { on := 8, ground := Ground.phase }, { on := 9, ground := Ground.phase }, { on := 10, ground := Ground.phase }, { on := 11, ground := Ground.phase }, { on := 12, ground := Ground.phase }, { on := 13, ground := Ground.phase }, { on := 14, ground := Ground.phase }, { on := 15, ground := Ground.phase }, { on := 16, ground := Ground.phase }, { on := 17, ground := Ground.phase }], guard := none }) rfl (fun Kz hK => ?_) EachU.nil
              go_simp
              refine hK.out _ _ (fun h => by cases h) (fun _ => ?_)
              clear hK Kz
              (try simp only [Act.put, List.setIfInBounds_toArray, List.set_cons_zero, List.set_cons_succ])
              refine anyU_ready (rs := [19]) (by kernel_rfl) (by simp) ?_
              refine EachU.cons (o := { dst := none, op := Op.store 22 (Operand.tmp 51) (Operand.tmp 49), type := 0, pos := "make.go:459", after := #[{ on := 18, ground := Ground.data }, { on := 15, ground := Ground.data }, { on := 17, ground := Ground.chain }, { on := 0, ground := Ground.phase }, { on := 1, ground := Ground.phase }, { on := 2, ground := Ground.phase }, { on := 3, ground := Ground.phase }, { on := 4, ground := Ground.phase }, { on := 5, ground := Ground.phase }, { on := 6, ground := Ground.phase }, { on := 7, ground := Ground.phase }, { on := 8, ground := Ground.phase }, { on := 9, ground := Ground.phase }, { on := 10, ground := Ground.phase }, { on := 11, ground := Ground.phase }, { on := 12, ground := Ground.phase }, { on := 13, ground := Ground.phase }, { on := 14, ground := Ground.phase }, { on := 15, ground := Ground.phase }, { on := 16, ground := Ground.phase }, { on := 17, ground := Ground.phase }], guard := none }) rfl (fun Kz hK => ?_) EachU.nil
              go_simp
              refine hK.out _ _ (fun h => by cases h) (fun _ => ?_)
              clear hK Kz
              (try simp only [Act.put, List.setIfInBounds_toArray, List.set_cons_zero, List.set_cons_succ])
              refine anyU_done (by kernel_rfl) ?_ _
              have HN := Lib.hid (HD5.out.put2 ha HQ2.out)
              clear HD5 hHeld c90 c91 fB fC
              go_wp2_with fail
              go_meet
              exact ⟨_, _, _, _, by rw [List.length_append]; simp; omega, by rw [List.length_append]; simp; omega, HN⟩
          · go_simp
            have HDn := Lib.hid (HD.out.keep (World.grownBy_alloc _ (.cells #[.int .i64 0, .int .i64 77, .int .i64 (-1)] 3) none))
            have HAM := Lib.hid HD.out.ints.1
            have HNE := Lib.hid HD.out.ints.2
            first | (have HRK := Lib.hid (show ∀ p, p = _ → _ from fun p hp => (HR7.out p hp).keep (World.grownBy_alloc _ (.cells #[.int .i64 0, .int .i64 77, .int .i64 (-1)] 3) none)); clear HR7; have HR7 := HRK; clear HRK) | skip
            clear HD
            have HD := HDn
            clear HDn
            refine hK.out _ _ (fun _ => Lib.hid HD.out.fb) (fun hH2 => ?_)
            clear hK Kz hHeld
            have hHeld := hH2 rfl
            clear hH2
            (try simp only [Act.put, List.setIfInBounds_toArray, List.set_cons_zero, List.set_cons_succ])
            refine anyU_ready (rs := [7]) (by kernel_rfl) (by simp) ?_
            refine EachU.cons (o := { dst := some 41, op := Op.buildSlice 45 1 #[(0, Operand.tmp 40)], type := 45, pos := "make.go:459", after := #[{ on := 6, ground := Ground.data }], guard := none }) rfl (fun Kz hK => ?_) EachU.nil
            go_simp
            have HDn := Lib.hid (HD.out.keep (World.grownBy_alloc _ (.cells #[.int .i64 x1, .int .i64 x2] 70) none))
            have HAL := HD
            first | (have HMK := Lib.hid (show ∀ p, p = _ → _ from fun p hp => (HAM.out p hp).keepR (World.grownBy_alloc _ (.cells #[.int .i64 x1, .int .i64 x2] 70) none) (by simp)); clear HAM; have HAM := HMK; clear HMK) | skip
            clear HD
            have HD := HDn
            clear HDn
            have HR7 := Lib.hid (HAL.out.hop x1 x2)
            clear HAL
            refine hK.out _ _ (fun _ => Lib.hid HD.out.fb) (fun hH2 => ?_)
            clear hK Kz hHeld
            have hHeld := hH2 rfl
            clear hH2
            (try simp only [Act.put, List.setIfInBounds_toArray, List.set_cons_zero, List.set_cons_succ])
            refine anyU_ready (rs := [8]) (by kernel_rfl) (by simp) ?_
            refine EachU.cons (o := { dst := some 42, op := Op.call { callee := Callee.builtin Builtin.append, args := #[Operand.tmp 35, Operand.tmp 41], argTypes := #[45, 45] }, type := 45, pos := "make.go:459", after := #[{ on := 1, ground := Ground.data }, { on := 7, ground := Ground.data }, { on := 5, ground := Ground.chain }], guard := none }) rfl (fun Kz hK => ?_) EachU.nil
            refine (step_append_f hpC 2 16 (by decide) (fun _ => rfl) hp_one 70 45 ih _ Try.underlying45 hih hh0 hh1 hh2 rfl (by decide) (by rfl) _ _ (by rfl) (w.heap.size + 2) vH H (by rfl) HD.out.oH (some ⟨_, 0, none⟩) 1 1 [⟨x1, x2⟩] (by rfl) rfl (by simp) (fun _ => True) (HR7.out _ (by first | rfl | simp)) (by omega) (by simp; omega) (by have := HD.out.m.sz; omega) ?_)
            intro p4 c4 w8 hown hg hat
            have HDn := Lib.hid (HD.out.addH (H' := H ++ [⟨x1, x2⟩]) ha HQ2.out hown hg hat)
            first | (have HMK := Lib.hid (show ∀ p, p = _ → _ from fun p hp => (HAM.out p hp).keepR hg (fun e => HNE.out p hp _ e.symm rfl)); clear HAM; have HAM := HMK; clear HMK) | skip
            clear hown hg hat HD
            have HD := HDn
            clear HDn
            refine hK.out _ _ (fun _ => Lib.hid HD.out.fb) (fun hH2 => ?_)
            clear hK Kz hHeld
            have hHeld := hH2 rfl
            clear hH2
            (try simp only [Act.put, List.setIfInBounds_toArray, List.set_cons_zero, List.set_cons_succ])
            refine anyU_take (i := 16) (oi := { dst := some 50, op := Op.fieldAddr 47 (Operand.tmp 5) 0, type := 0, pos := "make.go:459", after := #[{ on := 0, ground := Ground.phase }, { on := 1, ground := Ground.phase }, { on := 2, ground := Ground.phase }, { on := 3, ground := Ground.phase }, { on := 4, ground := Ground.phase }, { on := 5, ground := Ground.phase }, { on := 6, ground := Ground.phase }, { on := 7, ground := Ground.phase }, { on := 8, ground := Ground.phase }, { on := 9, ground := Ground.phase }, { on := 10, ground := Ground.phase }, { on := 11, ground := Ground.textOnly Departure.lateStores }, { on := 12, ground := Ground.textOnly Departure.lateStores }, { on := 13, ground := Ground.textOnly Departure.lateStoresUnsure }, { on := 14, ground := Ground.textOnly Departure.lateStores }, { on := 15, ground := Ground.textOnly Departure.lateStoresUnsure }], guard := none }) (v := ?_) rfl (by kernel_rfl) (by kernel_rfl) (by kernel_rfl) (by kernel_rfl) (by kernel_rfl) (fun _ _ _ h => h) (Or.inl ⟨by rfl, ?_⟩) hHeld ?_
            rotate_left 1
            · intro u hSu
              obtain ⟨q0, q1⟩ := row_cells hSu.out
              go_simp
              first | done | with_reducible rfl
            (try simp only [Act.put, List.setIfInBounds_toArray, List.set_cons_zero, List.set_cons_succ])
            refine anyU_ready (rs := [13]) (by kernel_rfl) (by simp) ?_
            refine EachU.cons (o := { dst := some 47, op := Op.call { callee := Callee.value (Operand.func 49), args := #[Operand.tmp 45, Operand.tmp 46], argTypes := #[27, 22] }, type := 3, pos := "make.go:459", after := #[{ on := 11, ground := Ground.data }, { on := 12, ground := Ground.data }, { on := 8, ground := Ground.chain }], guard := none }) rfl (fun Kz hK => ?_) EachU.nil
            go_simp
            go_at_call 49
            refine (pick_any I64 a _ 0 3 3 (by omega) (by omega) _ HD.out.m.st.2 (HAM.out _ (by first | rfl | simp))).mono ?_
            rintro e w5 ⟨x3, rfl, -, hs⟩
            have HDn := Lib.hid (HD.out.tape ha HQ.out hs)
            clear hs HD HAM
            have HD := HDn
            clear HDn
            refine hK.out _ _ (fun _ => Lib.hid HD.out.fb) (fun hH2 => ?_)
            clear hK Kz hHeld
            have hHeld := hH2 rfl
            clear hH2
            (try simp only [Act.put, List.setIfInBounds_toArray, List.set_cons_zero, List.set_cons_succ])
            refine anyU_ready (rs := [14]) (by kernel_rfl) (by simp) ?_
            refine EachU.cons (o := { dst := some 48, op := Op.buildSlice 22 1 #[(0, Operand.tmp 47)], type := 22, pos := "make.go:459", after := #[{ on := 13, ground := Ground.data }], guard := none }) rfl (fun Kz hK => ?_) EachU.nil
            go_simp
            have HDn := Lib.hid (HD.out.keep (World.grownBy_alloc _ (.cells #[.int .i64 x3] 3) none))
            clear HD
            have HD := HDn
            clear HDn
            refine hK.out _ _ (fun _ => Lib.hid HD.out.fb) (fun hH2 => ?_)
            clear hK Kz hHeld
            have hHeld := hH2 rfl
            clear hH2
            (try simp only [Act.put, List.setIfInBounds_toArray, List.set_cons_zero, List.set_cons_succ])
            refine anyU_ready (rs := [15]) (by kernel_rfl) (by simp) ?_
            refine EachU.cons (o := { dst := some 49, op := Op.call { callee := Callee.builtin Builtin.append, args := #[Operand.tmp 44, Operand.tmp 48], argTypes := #[22, 22] }, type := 22, pos := "make.go:459", after := #[{ on := 10, ground := Ground.data }, { on := 14, ground := Ground.data }, { on := 13, ground := Ground.chain }], guard := none }) rfl (fun Kz hK => ?_) EachU.nil
            refine (step_append_f tvC 1 8 (by decide) (fun _ => rfl) tv_one 3 22 ii _ Try.underlying22 hii hi0 hi1 hi2 rfl (by decide) (by rfl) _ _ (by rfl) (w.heap.size + 2) vX X (by rfl) HD.out.oX (some ⟨_, 0, none⟩) 1 1 [x3] (by rfl) rfl (by simp) (fun _ => True) (rdf_one _ trivial (cell_one _ _ _) 1) (by omega) (by simp; omega) (by have := HD.out.m.sz; omega) ?_)
            intro p5 c5 w9 hown hg hat
            have HD5 := Lib.hid (HD.out.addX (X' := X ++ [x3]) ha HQ2.out hown hg hat)
            have cc := row_cells HD5.out.fb
            have c90 := cc.1
            have c91 := cc.2
            have fB := frozen_of_row _ _ 0 _ _ HD5.out.fb
            have fC := frozen_of_row _ _ 1 _ _ HD5.out.fb
            clear cc hown hg hat HD
            refine hK.out _ _ (fun _ => Lib.hid HD5.out.fb) (fun hH2 => ?_)
            clear hK Kz hHeld
            have hHeld := hH2 rfl
            clear hH2
            (try simp only [Act.put, List.setIfInBounds_toArray, List.set_cons_zero, List.set_cons_succ])
            refine anyU_ready (rs := [17]) (by kernel_rfl) (by simp) ?_
            refine EachU.cons (o := { dst := none, op := Op.store 45 (Operand.tmp 50) (Operand.tmp 42), type := 0, pos := "make.go:459", after := #[{ on := 16, ground := Ground.data }, { on := 8, ground := Ground.data }, { on := 15, ground := Ground.chain }, { on := 0, ground := Ground.phase }, { on := 1, ground := Ground.phase }, { on := 2, ground := Ground.phase }, { on := 3, ground := Ground.phase }, { on := 4, ground := Ground.phase }, { on := 5, ground := Ground.phase }, { on := 6, ground := Ground.phase }, { on := 7, ground := Ground.phase }, { on := 8, ground := Ground.phase }, { on := 9, ground := Ground.phase }, { on := 10, ground := Ground.phase }, { on := 11, ground := Ground.textOnly Departure.lateStores }, { on := 12, ground := Ground.textOnly Departure.lateStores }, { on := 13, ground := Ground.textOnly Departure.lateStoresUnsure }, { on := 14, ground := Ground.textOnly Departure.lateStores }, { on := 15, ground := Ground.textOnly Departure.lateStoresUnsure }], guard := none }) rfl (fun Kz hK => ?_) EachU.nil
            go_simp
            refine hK.out _ _ (fun h => by cases h) (fun _ => ?_)
            clear hK Kz
            (try simp only [Act.put, List.setIfInBounds_toArray, List.set_cons_zero, List.set_cons_succ])
            refine anyU_ready (rs := [18]) (by kernel_rfl) (by simp) ?_
            refine EachU.cons (o := { dst := some 51, op := Op.fieldAddr 47 (Operand.tmp 5) 1, type := 0, pos := "make.go:459", after := #[{ on := 0, ground := Ground.phase }, { on := 1, ground := Ground.phase }, { on := 2, ground := Ground.phase }, { on := 3, ground := Ground.phase }, { on := 4, ground := Ground.phase }, { on := 5, ground := Ground.phase }, { on := 6, ground := Ground.phase }, { on := 7, ground := Ground.phase }, { on := 8, ground := Ground.phase }, { on := 9, ground := Ground.phase }, { on := 10, ground := Ground.phase }, { on := 11, ground := Ground.phase }, { on := 12, ground := Ground.phase }, { on := 13, ground := Ground.phase }, { on := 14, ground := Ground.phase }, { on := 15, ground := Ground.phase }, { on := 16, ground := Ground.phase }, { on := 17, ground := Ground.phase }], guard := none }) rfl (fun Kz hK => ?_) EachU.nil
            go_simp
            refine hK.out _ _ (fun h => by cases h) (fun _ => ?_)
            clear hK Kz
            (try simp only [Act.put, List.setIfInBounds_toArray, List.set_cons_zero, List.set_cons_succ])
            refine anyU_ready (rs := [19]) (by kernel_rfl) (by simp) ?_
            refine EachU.cons (o := { dst := none, op := Op.store 22 (Operand.tmp 51) (Operand.tmp 49), type := 0, pos := "make.go:459", after := #[{ on := 18, ground := Ground.data }, { on := 15, ground := Ground.data }, { on := 17, ground := Ground.chain }, { on := 0, ground := Ground.phase }, { on := 1, ground := Ground.phase }, { on := 2, ground := Ground.phase }, { on := 3, ground := Ground.phase }, { on := 4, ground := Ground.phase }, { on := 5, ground := Ground.phase }, { on := 6, ground := Ground.phase }, { on := 7, ground := Ground.phase }, { on := 8, ground := Ground.phase }, { on := 9, ground := Ground.phase }, { on := 10, ground := Ground.phase }, { on := 11, ground := Ground.phase }, { on := 12, ground := Ground.phase }, { on := 13, ground := Ground.phase }, { on := 14, ground := Ground.phase }, { on := 15, ground := Ground.phase }, { on := 16, ground := Ground.phase }, { on := 17, ground := Ground.phase }], guard := none }) rfl (fun Kz hK => ?_) EachU.nil
            go_simp
            refine hK.out _ _ (fun h => by cases h) (fun _ => ?_)
            clear hK Kz
            (try simp only [Act.put, List.setIfInBounds_toArray, List.set_cons_zero, List.set_cons_succ])
            refine anyU_done (by kernel_rfl) ?_ _
            have HN := Lib.hid (HD5.out.put2 ha HQ2.out)
            clear HD5 hHeld c90 c91 fB fC
            go_wp2_with fail
            go_meet
            exact ⟨_, _, _, _, by rw [List.length_append]; simp; omega, by rw [List.length_append]; simp; omega, HN⟩
        · go_simp
          have HDn := Lib.hid (HD.out.keep (World.grownBy_alloc _ (.cells #[.int .i64 0, .int .i64 77, .int .i64 (-1)] 3) none))
          have HAM := Lib.hid HD.out.ints.1
          have HNE := Lib.hid HD.out.ints.2
          first | (have HRK := Lib.hid (show ∀ p, p = _ → _ from fun p hp => (HR7.out p hp).keep (World.grownBy_alloc _ (.cells #[.int .i64 0, .int .i64 77, .int .i64 (-1)] 3) none)); clear HR7; have HR7 := HRK; clear HRK) | skip
          clear HD
          have HD := HDn
          clear HDn
          refine hK.out _ _ (fun _ => Lib.hid HD.out.fb) (fun hH2 => ?_)
          clear hK Kz hHeld
          have hHeld := hH2 rfl
          clear hH2
          (try simp only [Act.put, List.setIfInBounds_toArray, List.set_cons_zero, List.set_cons_succ])
          refine anyU_ready (rs := [5]) (by kernel_rfl) (by simp) ?_
          refine EachU.cons (o := { dst := some 39, op := Op.call { callee := Callee.value (Operand.func 17), args := #[Operand.tmp 38, Operand.const (Value.int IntKind.i64 9)], argTypes := #[27, 3] }, type := 3, pos := "make.go:459", after := #[{ on := 4, ground := Ground.data }, { on := 3, ground := Ground.chain }], guard := none }) rfl (fun Kz hK => ?_) EachU.nil
          go_simp
          go_at_call 17
          refine (next_any a 9 (by unfold I64; omega) _ HD.out.m.st.2).mono ?_
          rintro e w5 ⟨x2, rfl, -, hs⟩
          have HDn := Lib.hid (HD.out.tape ha HQ.out hs)
          first | (have HMK := Lib.hid (show ∀ p, p = _ → _ from fun p hp => (HAM.out p hp).keepR hs.1 (fun e => (HAM.out p hp).1 (Option.some.inj e))); clear HAM; have HAM := HMK; clear HMK) | skip
          clear hs HD
          have HD := HDn
          clear HDn
          refine hK.out _ _ (fun _ => Lib.hid HD.out.fb) (fun hH2 => ?_)
          clear hK Kz hHeld
          have hHeld := hH2 rfl
          clear hH2
          (try simp only [Act.put, List.setIfInBounds_toArray, List.set_cons_zero, List.set_cons_succ])
          refine anyU_take (i := 6) (oi := { dst := some 40, op := Op.build 70 #[(0, Operand.tmp 37), (1, Operand.tmp 39)], type := 70, pos := "make.go:459", after := #[{ on := 3, ground := Ground.data }, { on := 5, ground := Ground.data }], guard := none }) (v := ?_) rfl (by kernel_rfl) (by kernel_rfl) (by kernel_rfl) (by kernel_rfl) (by kernel_rfl) (fun _ _ _ h => h) (Or.inl ⟨by rfl, ?_⟩) hHeld ?_
          rotate_left 1
          · intro u hSu
            obtain ⟨q0, q1⟩ := row_cells hSu.out
            go_simp
            first | done | with_reducible rfl
          (try simp only [Act.put, List.setIfInBounds_toArray, List.set_cons_zero, List.set_cons_succ])
          refine anyU_ready (rs := [7]) (by kernel_rfl) (by simp) ?_
          refine EachU.cons (o := { dst := some 41, op := Op.buildSlice 45 1 #[(0, Operand.tmp 40)], type := 45, pos := "make.go:459", after := #[{ on := 6, ground := Ground.data }], guard := none }) rfl (fun Kz hK => ?_) EachU.nil
          go_simp
          have HDn := Lib.hid (HD.out.keep (World.grownBy_alloc _ (.cells #[.int .i64 x1, .int .i64 x2] 70) none))
          have HAL := HD
          first | (have HMK := Lib.hid (show ∀ p, p = _ → _ from fun p hp => (HAM.out p hp).keepR (World.grownBy_alloc _ (.cells #[.int .i64 x1, .int .i64 x2] 70) none) (by simp)); clear HAM; have HAM := HMK; clear HMK) | skip
          clear HD
          have HD := HDn
          clear HDn
          have HR7 := Lib.hid (HAL.out.hop x1 x2)
          clear HAL
          refine hK.out _ _ (fun _ => Lib.hid HD.out.fb) (fun hH2 => ?_)
          clear hK Kz hHeld
          have hHeld := hH2 rfl
          clear hH2
          (try simp only [Act.put, List.setIfInBounds_toArray, List.set_cons_zero, List.set_cons_succ])
          refine anyU_ready (rs := [8]) (by kernel_rfl) (by simp) ?_
          refine EachU.cons (o := { dst := some 42, op := Op.call { callee := Callee.builtin Builtin.append, args := #[Operand.tmp 35, Operand.tmp 41], argTypes := #[45, 45] }, type := 45, pos := "make.go:459", after := #[{ on := 1, ground := Ground.data }, { on := 7, ground := Ground.data }, { on := 5, ground := Ground.chain }], guard := none }) rfl (fun Kz hK => ?_) EachU.nil
          refine (step_append_f hpC 2 16 (by decide) (fun _ => rfl) hp_one 70 45 ih _ Try.underlying45 hih hh0 hh1 hh2 rfl (by decide) (by rfl) _ _ (by rfl) (w.heap.size + 2) vH H (by rfl) HD.out.oH (some ⟨_, 0, none⟩) 1 1 [⟨x1, x2⟩] (by rfl) rfl (by simp) (fun _ => True) (HR7.out _ (by first | rfl | simp)) (by omega) (by simp; omega) (by have := HD.out.m.sz; omega) ?_)
          intro p4 c4 w8 hown hg hat
          have HDn := Lib.hid (HD.out.addH (H' := H ++ [⟨x1, x2⟩]) ha HQ2.out hown hg hat)
          first | (have HMK := Lib.hid (show ∀ p, p = _ → _ from fun p hp => (HAM.out p hp).keepR hg (fun e => HNE.out p hp _ e.symm rfl)); clear HAM; have HAM := HMK; clear HMK) | skip
          clear hown hg hat HD
          have HD := HDn
          clear HDn
          refine hK.out _ _ (fun _ => Lib.hid HD.out.fb) (fun hH2 => ?_)
          clear hK Kz hHeld
          have hHeld := hH2 rfl
          clear hH2
          (try simp only [Act.put, List.setIfInBounds_toArray, List.set_cons_zero, List.set_cons_succ])
          refine anyU_take (i := 16) (oi := { dst := some 50, op := Op.fieldAddr 47 (Operand.tmp 5) 0, type := 0, pos := "make.go:459", after := #[{ on := 0, ground := Ground.phase }, { on := 1, ground := Ground.phase }, { on := 2, ground := Ground.phase }, { on := 3, ground := Ground.phase }, { on := 4, ground := Ground.phase }, { on := 5, ground := Ground.phase }, { on := 6, ground := Ground.phase }, { on := 7, ground := Ground.phase }, { on := 8, ground := Ground.phase }, { on := 9, ground := Ground.phase }, { on := 10, ground := Ground.phase }, { on := 11, ground := Ground.textOnly Departure.lateStores }, { on := 12, ground := Ground.textOnly Departure.lateStores }, { on := 13, ground := Ground.textOnly Departure.lateStoresUnsure }, { on := 14, ground := Ground.textOnly Departure.lateStores }, { on := 15, ground := Ground.textOnly Departure.lateStoresUnsure }], guard := none }) (v := ?_) rfl (by kernel_rfl) (by kernel_rfl) (by kernel_rfl) (by kernel_rfl) (by kernel_rfl) (fun _ _ _ h => h) (Or.inl ⟨by rfl, ?_⟩) hHeld ?_
          rotate_left 1
          · intro u hSu
            obtain ⟨q0, q1⟩ := row_cells hSu.out
            go_simp
            first | done | with_reducible rfl
          (try simp only [Act.put, List.setIfInBounds_toArray, List.set_cons_zero, List.set_cons_succ])
          refine anyU_ready (rs := [13]) (by kernel_rfl) (by simp) ?_
          refine EachU.cons (o := { dst := some 47, op := Op.call { callee := Callee.value (Operand.func 49), args := #[Operand.tmp 45, Operand.tmp 46], argTypes := #[27, 22] }, type := 3, pos := "make.go:459", after := #[{ on := 11, ground := Ground.data }, { on := 12, ground := Ground.data }, { on := 8, ground := Ground.chain }], guard := none }) rfl (fun Kz hK => ?_) EachU.nil
          go_simp
          go_at_call 49
          refine (pick_any I64 a _ 0 3 3 (by omega) (by omega) _ HD.out.m.st.2 (HAM.out _ (by first | rfl | simp))).mono ?_
          rintro e w5 ⟨x3, rfl, -, hs⟩
          have HDn := Lib.hid (HD.out.tape ha HQ.out hs)
          clear hs HD HAM
          have HD := HDn
          clear HDn
          refine hK.out _ _ (fun _ => Lib.hid HD.out.fb) (fun hH2 => ?_)
          clear hK Kz hHeld
          have hHeld := hH2 rfl
          clear hH2
          (try simp only [Act.put, List.setIfInBounds_toArray, List.set_cons_zero, List.set_cons_succ])
          refine anyU_ready (rs := [14]) (by kernel_rfl) (by simp) ?_
          refine EachU.cons (o := { dst := some 48, op := Op.buildSlice 22 1 #[(0, Operand.tmp 47)], type := 22, pos := "make.go:459", after := #[{ on := 13, ground := Ground.data }], guard := none }) rfl (fun Kz hK => ?_) EachU.nil
          go_simp
          have HDn := Lib.hid (HD.out.keep (World.grownBy_alloc _ (.cells #[.int .i64 x3] 3) none))
          clear HD
          have HD := HDn
          clear HDn
          refine hK.out _ _ (fun _ => Lib.hid HD.out.fb) (fun hH2 => ?_)
          clear hK Kz hHeld
          have hHeld := hH2 rfl
          clear hH2
          (try simp only [Act.put, List.setIfInBounds_toArray, List.set_cons_zero, List.set_cons_succ])
          refine anyU_ready (rs := [15]) (by kernel_rfl) (by simp) ?_
          refine EachU.cons (o := { dst := some 49, op := Op.call { callee := Callee.builtin Builtin.append, args := #[Operand.tmp 44, Operand.tmp 48], argTypes := #[22, 22] }, type := 22, pos := "make.go:459", after := #[{ on := 10, ground := Ground.data }, { on := 14, ground := Ground.data }, { on := 13, ground := Ground.chain }], guard := none }) rfl (fun Kz hK => ?_) EachU.nil
          refine (step_append_f tvC 1 8 (by decide) (fun _ => rfl) tv_one 3 22 ii _ Try.underlying22 hii hi0 hi1 hi2 rfl (by decide) (by rfl) _ _ (by rfl) (w.heap.size + 2) vX X (by rfl) HD.out.oX (some ⟨_, 0, none⟩) 1 1 [x3] (by rfl) rfl (by simp) (fun _ => True) (rdf_one _ trivial (cell_one _ _ _) 1) (by omega) (by simp; omega) (by have := HD.out.m.sz; omega) ?_)
          intro p5 c5 w9 hown hg hat
          have HD5 := Lib.hid (HD.out.addX (X' := X ++ [x3]) ha HQ2.out hown hg hat)
          have cc := row_cells HD5.out.fb
          have c90 := cc.1
          have c91 := cc.2
          have fB := frozen_of_row _ _ 0 _ _ HD5.out.fb
          have fC := frozen_of_row _ _ 1 _ _ HD5.out.fb
          clear cc hown hg hat HD
          refine hK.out _ _ (fun _ => Lib.hid HD5.out.fb) (fun hH2 => ?_)
          clear hK Kz hHeld
          have hHeld := hH2 rfl
          clear hH2
          (try simp only [Act.put, List.setIfInBounds_toArray, List.set_cons_zero, List.set_cons_succ])
          refine anyU_ready (rs := [17]) (by kernel_rfl) (by simp) ?_
          refine EachU.cons (o := { dst := none, op := Op.store 45 (Operand.tmp 50) (Operand.tmp 42), type := 0, pos := "make.go:459", after := #[{ on := 16, ground := Ground.data }, { on := 8, ground := Ground.data }, { on := 15, ground := Ground.chain }, { on := 0, ground := Ground.phase }, { on := 1, ground := Ground.phase }, { on := 2, ground := Ground.phase }, { on := 3, ground := Ground.phase }, { on := 4, ground := Ground.phase }, { on := 5, ground := Ground.phase }, { on := 6, ground := Ground.phase }, { on := 7, ground := Ground.phase }, { on := 8, ground := Ground.phase }, { on := 9, ground := Ground.phase }, { on := 10, ground := Ground.phase }, { on := 11, ground := Ground.textOnly Departure.lateStores }, { on := 12, ground := Ground.textOnly Departure.lateStores }, { on := 13, ground := Ground.textOnly Departure.lateStoresUnsure }, { on := 14, ground := Ground.textOnly Departure.lateStores }, { on := 15, ground := Ground.textOnly Departure.lateStoresUnsure }], guard := none }) rfl (fun Kz hK => ?_) EachU.nil
          go_simp
          refine hK.out _ _ (fun h => by cases h) (fun _ => ?_)
          clear hK Kz
          (try simp only [Act.put, List.setIfInBounds_toArray, List.set_cons_zero, List.set_cons_succ])
          refine anyU_ready (rs := [18]) (by kernel_rfl) (by simp) ?_
          refine EachU.cons (o := { dst := some 51, op := Op.fieldAddr 47 (Operand.tmp 5) 1, type := 0, pos := "make.go:459", after := #[{ on := 0, ground := Ground.phase }, { on := 1, ground := Ground.phase }, { on := 2, ground := Ground.phase }, { on := 3, ground := Ground.phase }, { on := 4, ground := Ground.phase }, { on := 5, ground := Ground.phase }, { on := 6, ground := Ground.phase }, { on := 7, ground := Ground.phase }, { on := 8, ground := Ground.phase }, { on := 9, ground := Ground.phase }, { on := 10, ground := Ground.phase }, { on := 11, ground := Ground.phase }, { on := 12, ground := Ground.phase }, { on := 13, ground := Ground.phase }, { on := 14, ground := Ground.phase }, { on := 15, ground := Ground.phase }, { on := 16, ground := Ground.phase }, { on := 17, ground := Ground.phase }], guard := none }) rfl (fun Kz hK => ?_) EachU.nil
          go_simp
          refine hK.out _ _ (fun h => by cases h) (fun _ => ?_)
          clear hK Kz
          (try simp only [Act.put, List.setIfInBounds_toArray, List.set_cons_zero, List.set_cons_succ])
          refine anyU_ready (rs := [19]) (by kernel_rfl) (by simp) ?_
          refine EachU.cons (o := { dst := none, op := Op.store 22 (Operand.tmp 51) (Operand.tmp 49), type := 0, pos := "make.go:459", after := #[{ on := 18, ground := Ground.data }, { on := 15, ground := Ground.data }, { on := 17, ground := Ground.chain }, { on := 0, ground := Ground.phase }, { on := 1, ground := Ground.phase }, { on := 2, ground := Ground.phase }, { on := 3, ground := Ground.phase }, { on := 4, ground := Ground.phase }, { on := 5, ground := Ground.phase }, { on := 6, ground := Ground.phase }, { on := 7, ground := Ground.phase }, { on := 8, ground := Ground.phase }, { on := 9, ground := Ground.phase }, { on := 10, ground := Ground.phase }, { on := 11, ground := Ground.phase }, { on := 12, ground := Ground.phase }, { on := 13, ground := Ground.phase }, { on := 14, ground := Ground.phase }, { on := 15, ground := Ground.phase }, { on := 16, ground := Ground.phase }, { on := 17, ground := Ground.phase }], guard := none }) rfl (fun Kz hK => ?_) EachU.nil
          go_simp
          refine hK.out _ _ (fun h => by cases h) (fun _ => ?_)
          clear hK Kz
          (try simp only [Act.put, List.setIfInBounds_toArray, List.set_cons_zero, List.set_cons_succ])
          refine anyU_done (by kernel_rfl) ?_ _
          have HN := Lib.hid (HD5.out.put2 ha HQ2.out)
          clear HD5 hHeld c90 c91 fB fC
          go_wp2_with fail
          go_meet
          exact ⟨_, _, _, _, by rw [List.length_append]; simp; omega, by rw [List.length_append]; simp; omega, HN⟩
      · go_simp
        have HDn := Lib.hid (HD.out.keep (World.grownBy_alloc _ (.cells #[.int .i64 0, .int .i64 77, .int .i64 (-1)] 3) none))
        have HAM := Lib.hid HD.out.ints.1
        have HNE := Lib.hid HD.out.ints.2
        first | (have HRK := Lib.hid (show ∀ p, p = _ → _ from fun p hp => (HR7.out p hp).keep (World.grownBy_alloc _ (.cells #[.int .i64 0, .int .i64 77, .int .i64 (-1)] 3) none)); clear HR7; have HR7 := HRK; clear HRK) | skip
        clear HD
        have HD := HDn
        clear HDn
        refine hK.out _ _ (fun _ => Lib.hid HD.out.fb) (fun hH2 => ?_)
        clear hK Kz hHeld
        have hHeld := hH2 rfl
        clear hH2
        (try simp only [Act.put, List.setIfInBounds_toArray, List.set_cons_zero, List.set_cons_succ])
        refine anyU_ready (rs := [3]) (by kernel_rfl) (by simp) ?_
        refine EachU.cons (o := { dst := some 37, op := Op.call { callee := Callee.value (Operand.func 17), args := #[Operand.tmp 36, Operand.const (Value.int IntKind.i64 9)], argTypes := #[27, 3] }, type := 3, pos := "make.go:459", after := #[{ on := 2, ground := Ground.data }], guard := none }) rfl (fun Kz hK => ?_) EachU.nil
        go_simp
        go_at_call 17
        refine (next_any a 9 (by unfold I64; omega) _ HD.out.m.st.2).mono ?_
        rintro e w5 ⟨x1, rfl, -, hs⟩
        have HDn := Lib.hid (HD.out.tape ha HQ.out hs)
        first | (have HMK := Lib.hid (show ∀ p, p = _ → _ from fun p hp => (HAM.out p hp).keepR hs.1 (fun e => (HAM.out p hp).1 (Option.some.inj e))); clear HAM; have HAM := HMK; clear HMK) | skip
        clear hs HD
        have HD := HDn
        clear HDn
        refine hK.out _ _ (fun _ => Lib.hid HD.out.fb) (fun hH2 => ?_)
        clear hK Kz hHeld
        have hHeld := hH2 rfl
        clear hH2
        (try simp only [Act.put, List.setIfInBounds_toArray, List.set_cons_zero, List.set_cons_succ])
        refine anyU_ready (rs := [5]) (by kernel_rfl) (by simp) ?_
        refine EachU.cons (o := { dst := some 39, op := Op.call { callee := Callee.value (Operand.func 17), args := #[Operand.tmp 38, Operand.const (Value.int IntKind.i64 9)], argTypes := #[27, 3] }, type := 3, pos := "make.go:459", after := #[{ on := 4, ground := Ground.data }, { on := 3, ground := Ground.chain }], guard := none }) rfl (fun Kz hK => ?_) EachU.nil
        go_simp
        go_at_call 17
        refine (next_any a 9 (by unfold I64; omega) _ HD.out.m.st.2).mono ?_
        rintro e w5 ⟨x2, rfl, -, hs⟩
        have HDn := Lib.hid (HD.out.tape ha HQ.out hs)
        first | (have HMK := Lib.hid (show ∀ p, p = _ → _ from fun p hp => (HAM.out p hp).keepR hs.1 (fun e => (HAM.out p hp).1 (Option.some.inj e))); clear HAM; have HAM := HMK; clear HMK) | skip
        clear hs HD
        have HD := HDn
        clear HDn
        refine hK.out _ _ (fun _ => Lib.hid HD.out.fb) (fun hH2 => ?_)
        clear hK Kz hHeld
        have hHeld := hH2 rfl
        clear hH2
        (try simp only [Act.put, List.setIfInBounds_toArray, List.set_cons_zero, List.set_cons_succ])
        refine anyU_take (i := 6) (oi := { dst := some 40, op := Op.build 70 #[(0, Operand.tmp 37), (1, Operand.tmp 39)], type := 70, pos := "make.go:459", after := #[{ on := 3, ground := Ground.data }, { on := 5, ground := Ground.data }], guard := none }) (v := ?_) rfl (by kernel_rfl) (by kernel_rfl) (by kernel_rfl) (by kernel_rfl) (by kernel_rfl) (fun _ _ _ h => h) (Or.inl ⟨by rfl, ?_⟩) hHeld ?_
        rotate_left 1
        · intro u hSu
          obtain ⟨q0, q1⟩ := row_cells hSu.out
          go_simp
          first | done | with_reducible rfl
        (try simp only [Act.put, List.setIfInBounds_toArray, List.set_cons_zero, List.set_cons_succ])
        refine anyU_ready (rs := [7]) (by kernel_rfl) (by simp) ?_
        refine EachU.cons (o := { dst := some 41, op := Op.buildSlice 45 1 #[(0, Operand.tmp 40)], type := 45, pos := "make.go:459", after := #[{ on := 6, ground := Ground.data }], guard := none }) rfl (fun Kz hK => ?_) EachU.nil
        go_simp
        have HDn := Lib.hid (HD.out.keep (World.grownBy_alloc _ (.cells #[.int .i64 x1, .int .i64 x2] 70) none))
        have HAL := HD
        first | (have HMK := Lib.hid (show ∀ p, p = _ → _ from fun p hp => (HAM.out p hp).keepR (World.grownBy_alloc _ (.cells #[.int .i64 x1, .int .i64 x2] 70) none) (by simp)); clear HAM; have HAM := HMK; clear HMK) | skip
        clear HD
        have HD := HDn
        clear HDn
        have HR7 := Lib.hid (HAL.out.hop x1 x2)
        clear HAL
        refine hK.out _ _ (fun _ => Lib.hid HD.out.fb) (fun hH2 => ?_)
        clear hK Kz hHeld
        have hHeld := hH2 rfl
        clear hH2
        (try simp only [Act.put, List.setIfInBounds_toArray, List.set_cons_zero, List.set_cons_succ])
        refine anyU_ready (rs := [8]) (by kernel_rfl) (by simp) ?_
        refine EachU.cons (o := { dst := some 42, op := Op.call { callee := Callee.builtin Builtin.append, args := #[Operand.tmp 35, Operand.tmp 41], argTypes := #[45, 45] }, type := 45, pos := "make.go:459", after := #[{ on := 1, ground := Ground.data }, { on := 7, ground := Ground.data }, { on := 5, ground := Ground.chain }], guard := none }) rfl (fun Kz hK => ?_) EachU.nil
        refine (step_append_f hpC 2 16 (by decide) (fun _ => rfl) hp_one 70 45 ih _ Try.underlying45 hih hh0 hh1 hh2 rfl (by decide) (by rfl) _ _ (by rfl) (w.heap.size + 2) vH H (by rfl) HD.out.oH (some ⟨_, 0, none⟩) 1 1 [⟨x1, x2⟩] (by rfl) rfl (by simp) (fun _ => True) (HR7.out _ (by first | rfl | simp)) (by omega) (by simp; omega) (by have := HD.out.m.sz; omega) ?_)
        intro p4 c4 w8 hown hg hat
        have HDn := Lib.hid (HD.out.addH (H' := H ++ [⟨x1, x2⟩]) ha HQ2.out hown hg hat)
        first | (have HMK := Lib.hid (show ∀ p, p = _ → _ from fun p hp => (HAM.out p hp).keepR hg (fun e => HNE.out p hp _ e.symm rfl)); clear HAM; have HAM := HMK; clear HMK) | skip
        clear hown hg hat HD
        have HD := HDn
        clear HDn
        refine hK.out _ _ (fun _ => Lib.hid HD.out.fb) (fun hH2 => ?_)
        clear hK Kz hHeld
        have hHeld := hH2 rfl
        clear hH2
        (try simp only [Act.put, List.setIfInBounds_toArray, List.set_cons_zero, List.set_cons_succ])
        refine anyU_take (i := 16) (oi := { dst := some 50, op := Op.fieldAddr 47 (Operand.tmp 5) 0, type := 0, pos := "make.go:459", after := #[{ on := 0, ground := Ground.phase }, { on := 1, ground := Ground.phase }, { on := 2, ground := Ground.phase }, { on := 3, ground := Ground.phase }, { on := 4, ground := Ground.phase }, { on := 5, ground := Ground.phase }, { on := 6, ground := Ground.phase }, { on := 7, ground := Ground.phase }, { on := 8, ground := Ground.phase }, { on := 9, ground := Ground.phase }, { on := 10, ground := Ground.phase }, { on := 11, ground := Ground.textOnly Departure.lateStores }, { on := 12, ground := Ground.textOnly Departure.lateStores }, { on := 13, ground := Ground.textOnly Departure.lateStoresUnsure }, { on := 14, ground := Ground.textOnly Departure.lateStores }, { on := 15, ground := Ground.textOnly Departure.lateStoresUnsure }], guard := none }) (v := ?_) rfl (by kernel_rfl) (by kernel_rfl) (by kernel_rfl) (by kernel_rfl) (by kernel_rfl) (fun _ _ _ h => h) (Or.inl ⟨by rfl, ?_⟩) hHeld ?_
        rotate_left 1
        · intro u hSu
          obtain ⟨q0, q1⟩ := row_cells hSu.out
          go_simp
          first | done | with_reducible rfl
        (try simp only [Act.put, List.setIfInBounds_toArray, List.set_cons_zero, List.set_cons_succ])
        refine anyU_ready (rs := [13]) (by kernel_rfl) (by simp) ?_
        refine EachU.cons (o := { dst := some 47, op := Op.call { callee := Callee.value (Operand.func 49), args := #[Operand.tmp 45, Operand.tmp 46], argTypes := #[27, 22] }, type := 3, pos := "make.go:459", after := #[{ on := 11, ground := Ground.data }, { on := 12, ground := Ground.data }, { on := 8, ground := Ground.chain }], guard := none }) rfl (fun Kz hK => ?_) EachU.nil
        go_simp
        go_at_call 49
        refine (pick_any I64 a _ 0 3 3 (by omega) (by omega) _ HD.out.m.st.2 (HAM.out _ (by first | rfl | simp))).mono ?_
        rintro e w5 ⟨x3, rfl, -, hs⟩
        have HDn := Lib.hid (HD.out.tape ha HQ.out hs)
        clear hs HD HAM
        have HD := HDn
        clear HDn
        refine hK.out _ _ (fun _ => Lib.hid HD.out.fb) (fun hH2 => ?_)
        clear hK Kz hHeld
        have hHeld := hH2 rfl
        clear hH2
        (try simp only [Act.put, List.setIfInBounds_toArray, List.set_cons_zero, List.set_cons_succ])
        refine anyU_ready (rs := [14]) (by kernel_rfl) (by simp) ?_
        refine EachU.cons (o := { dst := some 48, op := Op.buildSlice 22 1 #[(0, Operand.tmp 47)], type := 22, pos := "make.go:459", after := #[{ on := 13, ground := Ground.data }], guard := none }) rfl (fun Kz hK => ?_) EachU.nil
        go_simp
        have HDn := Lib.hid (HD.out.keep (World.grownBy_alloc _ (.cells #[.int .i64 x3] 3) none))
        clear HD
        have HD := HDn
        clear HDn
        refine hK.out _ _ (fun _ => Lib.hid HD.out.fb) (fun hH2 => ?_)
        clear hK Kz hHeld
        have hHeld := hH2 rfl
        clear hH2
        (try simp only [Act.put, List.setIfInBounds_toArray, List.set_cons_zero, List.set_cons_succ])
        refine anyU_ready (rs := [15]) (by kernel_rfl) (by simp) ?_
        refine EachU.cons (o := { dst := some 49, op := Op.call { callee := Callee.builtin Builtin.append, args := #[Operand.tmp 44, Operand.tmp 48], argTypes := #[22, 22] }, type := 22, pos := "make.go:459", after := #[{ on := 10, ground := Ground.data }, { on := 14, ground := Ground.data }, { on := 13, ground := Ground.chain }], guard := none }) rfl (fun Kz hK => ?_) EachU.nil
        refine (step_append_f tvC 1 8 (by decide) (fun _ => rfl) tv_one 3 22 ii _ Try.underlying22 hii hi0 hi1 hi2 rfl (by decide) (by rfl) _ _ (by rfl) (w.heap.size + 2) vX X (by rfl) HD.out.oX (some ⟨_, 0, none⟩) 1 1 [x3] (by rfl) rfl (by simp) (fun _ => True) (rdf_one _ trivial (cell_one _ _ _) 1) (by omega) (by simp; omega) (by have := HD.out.m.sz; omega) ?_)
        intro p5 c5 w9 hown hg hat
        have HD5 := Lib.hid (HD.out.addX (X' := X ++ [x3]) ha HQ2.out hown hg hat)
        have cc := row_cells HD5.out.fb
        have c90 := cc.1
        have c91 := cc.2
        have fB := frozen_of_row _ _ 0 _ _ HD5.out.fb
        have fC := frozen_of_row _ _ 1 _ _ HD5.out.fb
        clear cc hown hg hat HD
        refine hK.out _ _ (fun _ => Lib.hid HD5.out.fb) (fun hH2 => ?_)
        clear hK Kz hHeld
        have hHeld := hH2 rfl
        clear hH2
        (try simp only [Act.put, List.setIfInBounds_toArray, List.set_cons_zero, List.set_cons_succ])
        refine anyU_ready (rs := [17]) (by kernel_rfl) (by simp) ?_
        refine EachU.cons (o := { dst := none, op := Op.store 45 (Operand.tmp 50) (Operand.tmp 42), type := 0, pos := "make.go:459", after := #[{ on := 16, ground := Ground.data }, { on := 8, ground := Ground.data }, { on := 15, ground := Ground.chain }, { on := 0, ground := Ground.phase }, { on := 1, ground := Ground.phase }, { on := 2, ground := Ground.phase }, { on := 3, ground := Ground.phase }, { on := 4, ground := Ground.phase }, { on := 5, ground := Ground.phase }, { on := 6, ground := Ground.phase }, { on := 7, ground := Ground.phase }, { on := 8, ground := Ground.phase }, { on := 9, ground := Ground.phase }, { on := 10, ground := Ground.phase }, { on := 11, ground := Ground.textOnly Departure.lateStores }, { on := 12, ground := Ground.textOnly Departure.lateStores }, { on := 13, ground := Ground.textOnly Departure.lateStoresUnsure }, { on := 14, ground := Ground.textOnly Departure.lateStores }, { on := 15, ground := Ground.textOnly Departure.lateStoresUnsure }], guard := none }) rfl (fun Kz hK => ?_) EachU.nil
        go_simp
        refine hK.out _ _ (fun h => by cases h) (fun _ => ?_)
        clear hK Kz
        (try simp only [Act.put, List.setIfInBounds_toArray, List.set_cons_zero, List.set_cons_succ])
        refine anyU_ready (rs := [18]) (by kernel_rfl) (by simp) ?_
        refine EachU.cons (o := { dst := some 51, op := Op.fieldAddr 47 (Operand.tmp 5) 1, type := 0, pos := "make.go:459", after := #[{ on := 0, ground := Ground.phase }, { on := 1, ground := Ground.phase }, { on := 2, ground := Ground.phase }, { on := 3, ground := Ground.phase }, { on := 4, ground := Ground.phase }, { on := 5, ground := Ground.phase }, { on := 6, ground := Ground.phase }, { on := 7, ground := Ground.phase }, { on := 8, ground := Ground.phase }, { on := 9, ground := Ground.phase }, { on := 10, ground := Ground.phase }, { on := 11, ground := Ground.phase }, { on := 12, ground := Ground.phase }, { on := 13, ground := Ground.phase }, { on := 14, ground := Ground.phase }, { on := 15, ground := Ground.phase }, { on := 16, ground := Ground.phase }, { on := 17, ground := Ground.phase }], guard := none }) rfl (fun Kz hK => ?_) EachU.nil
        go_simp
        refine hK.out _ _ (fun h => by cases h) (fun _ => ?_)
        clear hK Kz
        (try simp only [Act.put, List.setIfInBounds_toArray, List.set_cons_zero, List.set_cons_succ])
        refine anyU_ready (rs := [19]) (by kernel_rfl) (by simp) ?_
        refine EachU.cons (o := { dst := none, op := Op.store 22 (Operand.tmp 51) (Operand.tmp 49), type := 0, pos := "make.go:459", after := #[{ on := 18, ground := Ground.data }, { on := 15, ground := Ground.data }, { on := 17, ground := Ground.chain }, { on := 0, ground := Ground.phase }, { on := 1, ground := Ground.phase }, { on := 2, ground := Ground.phase }, { on := 3, ground := Ground.phase }, { on := 4, ground := Ground.phase }, { on := 5, ground := Ground.phase }, { on := 6, ground := Ground.phase }, { on := 7, ground := Ground.phase }, { on := 8, ground := Ground.phase }, { on := 9, ground := Ground.phase }, { on := 10, ground := Ground.phase }, { on := 11, ground := Ground.phase }, { on := 12, ground := Ground.phase }, { on := 13, ground := Ground.phase }, { on := 14, ground := Ground.phase }, { on := 15, ground := Ground.phase }, { on := 16, ground := Ground.phase }, { on := 17, ground := Ground.phase }], guard := none }) rfl (fun Kz hK => ?_) EachU.nil
        go_simp
        refine hK.out _ _ (fun h => by cases h) (fun _ => ?_)
        clear hK Kz
        (try simp only [Act.put, List.setIfInBounds_toArray, List.set_cons_zero, List.set_cons_succ])
        refine anyU_done (by kernel_rfl) ?_ _
        have HN := Lib.hid (HD5.out.put2 ha HQ2.out)
        clear HD5 hHeld c90 c91 fB fC
        go_wp2_with fail
        go_meet
        exact ⟨_, _, _, _, by rw [List.length_append]; simp; omega, by rw [List.length_append]; simp; omega, HN⟩
  case rest =>
  obtain ⟨vH, vX, H, X, hHl, hXl, HK⟩ := hcut
  clear HK2
  obtain ⟨pH, cH, rfl, -, -⟩ := own_shape HK.out.oH
  obtain ⟨pX, cX, rfl, -, -⟩ := own_shape HK.out.oX
  obtain ⟨c0, c1⟩ := row_cells HK.out.fb
  obtain ⟨d0, d1⟩ := row_cells HK.out.m.rb
  have f0 := frozen_of_row _ _ 0 _ _ HK.out.m.rb
  have f1 := frozen_of_row _ _ 1 _ _ HK.out.m.rb
  have HZ := Lib.hid (HK.out.m.fin ha HK.out.oH (by have := HK.out.oX; rwa [flat_tv] at this))
  have HAP := Lib.hid HK.out.ap
  clear HK
  go_wp2_with fail
  refine bodyPost_ret (res_fail rfl _ _ (w.heap.size + 1) _ _ rfl HZ.out.1) rfl ?_
  exact ⟨H, X, _, _, rfl, HZ.out.2.1, HZ.out.2.2.1, HAP.out, ⟨hHl, hXl⟩, HZ.out.2.2.2⟩
end Go.Proofs.Ytiencdgmnkphjaa

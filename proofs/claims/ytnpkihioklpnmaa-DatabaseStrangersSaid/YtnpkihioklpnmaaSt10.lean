/- Parts of the proof, packed: DbPut. -/
import Derived.Test.YtnpkihioklpnmaaSt9
/- database: put. -/
namespace Go.Proofs.Ytnpkihioklpnmaa
open Go.RowKit Bs
set_option maxRecDepth 100000 in
/-- One advert more in a row of the call's own. -/
theorem OwnD.ins {base K i : Nat} {l : List Ad} {v : Value} {w w' : World} {e : Ending} {B : Ad} (h : OwnD base l v w) (hI : InsPA (l.take i ++ B :: l.drop i) base v w e w') (hok : AdOk w (fun b => K ≤ b ∧ b < w.heap.size) B) (hnl : AdNl B) (hb : base ≤ K) (hK : ∀ b, v.ownBlock = some b → b < K) :
    ∃ v', e = .returned v' ∧ OwnD base (l.take i ++ B :: l.drop i) v' w' ∧ ∃ og, w.grownBy w' og ∧ (og = v.ownBlock ∨ og = some w.heap.size) := by
  obtain ⟨g, cap, N, og, hN, he, hown, hg, hog, hv⟩ := hI
  have hne : ∀ b, b < w.heap.size → v.ownBlock ≠ some b → some b ≠ og := fun b hb h1 e => by
    rcases hog with h2 | h2
    · exact h1 (h2.symm.trans e.symm)
    · have := Option.some.inj (e.trans h2); omega
  have hv2 : ∀ b, b < w.heap.size → v.ownBlock ≠ some b → (Value.slice (some ⟨g, 0, none⟩) N cap).ownBlock ≠ some b := fun b hb h1 e => by
    have e2 : g = b := Option.some.inj e
    subst e2
    rcases hv with h2 | h2
    · exact h1 h2
    · omega
  have hB : ∀ b, (K ≤ b ∧ b < w.heap.size) → qO base v w b := fun b hb' => ⟨by omega, hb'.2, fun e => by have := hK b e; omega⟩
  have hok2 : ∀ A ∈ l.take i ++ B :: l.drop i, AdOk w (qO base v w) A ∧ AdNl A := fun A hA => by
    rcases List.mem_append.1 hA with hA | hA
    · exact ⟨h.ok A (List.mem_of_mem_take hA), h.nl A (List.mem_of_mem_take hA)⟩
    · rcases List.mem_cons.1 hA with hA | hA
      · subst hA; exact ⟨hok.mono hB, hnl⟩
      · exact ⟨h.ok A (List.mem_of_mem_drop hA), h.nl A (List.mem_of_mem_drop hA)⟩
  refine ⟨_, he, ⟨by rw [← hN]; exact hown, fun A hA => ((hok2 A hA).1.grown hg (fun b hb => hne b hb.2.1 hb.2.2)).mono (fun b hb => ⟨hb.1, Nat.lt_of_lt_of_le hb.2.1 hg.size, hv2 b hb.2.1 hb.2.2⟩), fun A hA => (hok2 A hA).2⟩, og, hg, hog⟩
set_option maxRecDepth 100000 in
/-- One advert in the place of another. -/
theorem OwnD.set {base i g n cap : Nat} {l : List Ad} {w w1 : World} {B : Ad} (h : OwnD base l (.slice (some ⟨g, 0, none⟩) n cap) w) (hown : w1.ownsRow base 38 5 (.slice (some ⟨g, 0, none⟩) n cap) l.length ((l.set i B).flatMap adL)) (hg : w.grownBy w1 (some g)) (hok : AdOk w (qO base (.slice (some ⟨g, 0, none⟩) n cap) w) B) (hnl : AdNl B) : OwnD base (l.set i B) (.slice (some ⟨g, 0, none⟩) n cap) w1 := by
  have hok2 : ∀ A ∈ l.set i B, AdOk w (qO base (.slice (some ⟨g, 0, none⟩) n cap) w) A ∧ AdNl A := fun A hA => by
    rcases List.mem_or_eq_of_mem_set hA with hA | rfl
    · exact ⟨h.ok A hA, h.nl A hA⟩
    · exact ⟨hok, hnl⟩
  exact ⟨by rw [List.length_set]; exact hown, fun A hA => ((hok2 A hA).1.grown hg (fun b hb e => hb.2.2 (by rw [Option.some.inj e]; rfl))).mono (fun b hb => ⟨hb.1, Nat.lt_of_lt_of_le hb.2.1 hg.size, hb.2.2⟩), fun A hA => (hok2 A hA).2⟩
/-- While put works: the row, the advert's box. -/
structure PW (W : World) (base : Nat) (l : List Ad) (v : Value) (A : Ad) (q : Nat → Prop) (w : World) : Prop where
  o : OwnD base l v w
  bx : w.heap[W.heap.size]? = some (.cells #[.int .i64 A.r, .int .i64 A.q, .bool A.cp, .slice A.pL A.L.length A.cL, .slice A.pC A.C.length A.cC] 38 (0, 0))
  ok : AdOk w q A
  gr : W.grownBy w none
set_option maxRecDepth 100000 in
theorem PW.keep {W w w1 : World} {base : Nat} {l : List Ad} {v : Value} {A : Ad} {q : Nat → Prop} (h : PW W base l v A q w) (g : w.grownBy w1 none) : PW W base l v A q w1 := ⟨h.o.keep g, kept_row h.bx g (by simp), h.ok.keep g, grown_trans h.gr g⟩
set_option maxRecDepth 100000 in
theorem PW.e {W w : World} {base : Nat} {l : List Ad} {v : Value} {A : Ad} {q : Nat → Prop} (h : PW W base l v A q w) : w.cell? ⟨W.heap.size, 0, none⟩ = some (.int .i64 A.r) ∧ w.cell? ⟨W.heap.size, 1, none⟩ = some (.int .i64 A.q) ∧ w.cell? ⟨W.heap.size, 2, none⟩ = some (.bool A.cp) ∧ w.cell? ⟨W.heap.size, 3, none⟩ = some (.slice A.pL A.L.length A.cL) ∧ w.cell? ⟨W.heap.size, 4, none⟩ = some (.slice A.pC A.C.length A.cC) := row5 h.bx
set_option maxRecDepth 100000 in
theorem PW.at_ {W w : World} {base g n cap i : Nat} {l : List Ad} {A B : Ad} {q : Nat → Prop} (h : PW W base l (.slice (some ⟨g, 0, none⟩) n cap) A q w) (hB : l[i]? = some B) : w.cell? ⟨g, i * 5, none⟩ = some (.int .i64 B.r) ∧ w.cell? ⟨g, i * 5 + 1, none⟩ = some (.int .i64 B.q) ∧ w.cell? ⟨g, i * 5 + 2, none⟩ = some (.bool B.cp) ∧ w.cell? ⟨g, i * 5 + 3, none⟩ = some (.slice B.pL B.L.length B.cL) ∧ w.cell? ⟨g, i * 5 + 4, none⟩ = some (.slice B.pC B.C.length B.cC) := by
  have h1 := rda_at h.o.rda.2 hB
  rw [Nat.zero_add] at h1
  exact h1
/-- What put leaves. -/
def PutPost (base : Nat) (l : List Ad) (v : Value) (A : Ad) (W : World) (e : Ending) (w' : World) : Prop :=
  ∃ (m : List Ad) (v' : Value), e = .returned (.tuple #[v', .bool (chg l A)]) ∧ m.map fz = (put1 l A).map fz ∧ OwnD base m v' w' ∧ W.grownBy w' v.ownBlock
set_option maxRecDepth 100000 in
set_option maxHeartbeats 6400000 in
theorem dput1_any (l : List Ad) (A : Ad) (base : Nat) (v : Value) (q : Nat → Prop) (w : World) (ho : OwnD base l v w) (hb : base ≤ w.heap.size) (hm : l.length ≤ 900) (hp : l.Pairwise (fun A B => A.r < B.r)) (hA : AdOk w q A) (hnA : AdNl A) (hs : A.L.length ≤ 1000 ∧ A.C.length ≤ 1000) :
    Calls Try.prog 61 #[v, .agg #[.int .i64 A.r, .int .i64 A.q, .bool A.cp, .slice A.pL A.L.length A.cL, .slice A.pC A.C.length A.cC]] w fun e w' => PutPost base l v A w e w' := by
  obtain ⟨k1, k2⟩ := tone_box w #[.int .i64 A.r, .int .i64 A.q, .bool A.cp, .slice A.pL A.L.length A.cL, .slice A.pC A.C.length A.cC] 38
  have H0 : Hid (PW w base l v A q _) := Lib.hid ⟨ho.keep k2, k1, hA.keep k2, k2⟩
  have HOW := Lib.hid ho.own.lt
  obtain ⟨p, c, rfl, hc, hpn⟩ := ho.shape
  clear k1 k2 ho hA
  go_enter Try.func61, Try.ntmps61
  go_upto_region 1 with fail
  generalize w.alloc _ = wa at *
  obtain ⟨a0, a1, a2, a3, a4⟩ := H0.out.e
  go_wp2_with fail
  refine (dplace_any l A.r p c _ wa H0.out.o.rda.2 (by omega)).mono ?_
  rintro e w1 ⟨i, b, rfl, hpl, hg⟩
  have H1 := Lib.hid (H0.out.keep hg)
  have HPL := Lib.hid (And.intro hpl hp)
  clear hpl hg H0 a0 a1 a2 a3 a4 hp
  cases b with
  | false =>
    have hf := (HPL.out.1.fnd HPL.out.2).2 rfl
    have HM : Hid (chg l A = true ∧ put1 l A = l.take i ++ A :: l.drop i) := Lib.hid ⟨chg_none hf, by unfold put1; rw [chg_none hf, if_pos rfl]; exact HPL.out.1.ins HPL.out.2⟩
    have hil : i ≤ l.length := HPL.out.1.le
    clear hf HPL
    obtain ⟨a0, a1, a2, a3, a4⟩ := H1.out.e
    go_wp2_with fail
    refine (dcopied_any A q w1 H1.out.ok hnA hs).mono ?_
    rintro e w2 ⟨pL, cL, pC, cC, rfl, hok, hnl, hg⟩
    have H2 := Lib.hid (H1.out.keep hg)
    obtain ⟨n1, n2⟩ := tone_box w2 #[.int .i64 A.r, .int .i64 A.q, .bool A.cp, .slice pL A.L.length cL, .slice pC A.C.length cC] 38
    have H3 := Lib.hid (H2.out.keep n2)
    have HX := Lib.hid (And.intro n1 (And.intro (hok.and.keep n2) hnl))
    have HS1 : Hid (w1.heap.size ≤ w2.heap.size ∧ w2.heap.size < (w2.alloc (.cells #[.int .i64 A.r, .int .i64 A.q, .bool A.cp, .slice pL A.L.length cL, .slice pC A.C.length cC] 38)).heap.size ∧ w.heap.size ≤ w1.heap.size) := Lib.hid ⟨hg.size, World.lt_of_row' n1, H1.out.gr.size⟩
    clear n1 n2 hok hnl hg H2 a0 a1 a2 a3 a4
    go_wp2_with fail
    refine (dinsert_any l ⟨A.r, A.q, A.cp, A.L, A.C, pL, cL, pC, cC⟩ base w2.heap.size 1 i (.slice p l.length c) _ H3.out.o.own HX.out.1 (by omega) (by have := HS1.out; omega) (fun e => by have := (HOW.out _ e).2; have := HS1.out; omega) hil).mono ?_
    intro e w3 hI
    obtain ⟨v', rfl, hO, og, hg, hog⟩ := H3.out.o.ins (K := w1.heap.size) (B := ⟨A.r, A.q, A.cp, A.L, A.C, pL, cL, pC, cC⟩) hI (HX.out.2.1.mono (fun b hb => ⟨hb.1, by have := HS1.out; omega⟩)) HX.out.2.2 (by have := HS1.out; omega) (fun b e => by have := (HOW.out b e).2; have := HS1.out; omega)
    have HF : Hid (PutPost base l (.slice p l.length c) A w (.returned (.tuple #[v', .bool true])) w3) := Lib.hid ⟨_, v', by rw [HM.out.1], by rw [HM.out.2, List.map_append, List.map_append, List.map_cons, List.map_cons]; rfl, hO, by
      rcases hog with h1 | h1
      · rw [← h1]; exact grown_trans (grown_none H3.out.gr _) hg
      · rw [h1] at hg; exact grown_none (grown_new H3.out.gr hg (by have := HS1.out; omega)) _⟩
    clear hI hO hg hog H3 HX HS1 HM H1
    go_wp2_with fail
    go_ret2
    exact HF.out
  | true =>
    obtain ⟨hf1, hf2⟩ := (HPL.out.1.fnd HPL.out.2).1 rfl
    obtain ⟨B, hB⟩ := Option.isSome_iff_exists.1 hf2
    have hiB : l[i]? = some B := hf1.trans hB
    have HB := Lib.hid (And.intro hiB (List.mem_of_getElem? hiB))
    have HM : Hid (chg l A = nwA A B ∧ putA l A = l.set i A) := Lib.hid ⟨chg_some hB, HPL.out.1.set HPL.out.2⟩
    have hil : i < l.length := (List.getElem?_eq_some_iff.1 hiB).1
    clear hf1 hf2 hB hiB HPL
    obtain ⟨g, cap, e, -, -⟩ := H1.out.o.own.form (by omega)
    injection e with e1 e2 e3
    subst e1 e3
    clear e2 hpn
    obtain ⟨X, hX⟩ : ∃ X, nwA A B = X := ⟨_, rfl⟩
    have HXX := Lib.hid hX
    rw [hX] at HM
    clear hX
    go_upto_region 4 with fail
    have HD := Lib.hid (H1.out.keep (grown_drew (grown_refl w1 none)))
    clear H1
    refine wp_region_held_drew (S := fun w' => Hid (PW w base l (.slice (some ⟨g, 0, none⟩) l.length c) A q w')) (by kernel_rfl) (Lib.hid HD.out) (fun hHeld => ?_)
    refine wpAnyH_take (i := 0) (oi := { dst := some 25, op := Op.load 38 (Operand.tmp 3), type := 38, pos := "database.go:141", after := #[], guard := none }) (v := ?_) rfl (by kernel_rfl) (by kernel_rfl) (by kernel_rfl) (fun _ _ _ h => h) (Or.inl ⟨by rfl, ?_⟩) hHeld ?_
    rotate_left 1
    · intro u hSu
      obtain ⟨q0, q1, q2, q3, q4⟩ := hSu.out.e
      obtain ⟨r0, r1, r2, r3, r4⟩ := hSu.out.at_ HB.out.1
      go_simp
      first | done | with_reducible rfl
    (try simp only [Act.put, List.setIfInBounds_toArray, List.set_cons_zero, List.set_cons_succ])
    refine wpAnyH_take (i := 1) (oi := { dst := some 26, op := Op.move (Operand.tmp 0), type := 23, pos := "database.go:141", after := #[], guard := none }) (v := ?_) rfl (by kernel_rfl) (by kernel_rfl) (by kernel_rfl) (fun _ _ _ h => h) (Or.inl ⟨by rfl, ?_⟩) hHeld ?_
    rotate_left 1
    · intro u hSu
      obtain ⟨q0, q1, q2, q3, q4⟩ := hSu.out.e
      obtain ⟨r0, r1, r2, r3, r4⟩ := hSu.out.at_ HB.out.1
      go_simp
      first | done | with_reducible rfl
    (try simp only [Act.put, List.setIfInBounds_toArray, List.set_cons_zero, List.set_cons_succ])
    refine wpAnyH_take (i := 2) (oi := { dst := some 27, op := Op.move (Operand.tmp 6), type := 3, pos := "database.go:141", after := #[], guard := none }) (v := ?_) rfl (by kernel_rfl) (by kernel_rfl) (by kernel_rfl) (fun _ _ _ h => h) (Or.inl ⟨by rfl, ?_⟩) hHeld ?_
    rotate_left 1
    · intro u hSu
      obtain ⟨q0, q1, q2, q3, q4⟩ := hSu.out.e
      obtain ⟨r0, r1, r2, r3, r4⟩ := hSu.out.at_ HB.out.1
      go_simp
      first | done | with_reducible rfl
    (try simp only [Act.put, List.setIfInBounds_toArray, List.set_cons_zero, List.set_cons_succ])
    refine wpAnyH_take (i := 3) (oi := { dst := some 28, op := Op.indexAddr 23 (Operand.tmp 26) (Operand.tmp 27), type := 0, pos := "database.go:141", after := #[{ on := 1, ground := Ground.data }, { on := 2, ground := Ground.data }], guard := none }) (v := ?_) rfl (by kernel_rfl) (by kernel_rfl) (by kernel_rfl) (fun _ _ _ h => h) (Or.inl ⟨by rfl, ?_⟩) hHeld ?_
    rotate_left 1
    · intro u hSu
      obtain ⟨q0, q1, q2, q3, q4⟩ := hSu.out.e
      obtain ⟨r0, r1, r2, r3, r4⟩ := hSu.out.at_ HB.out.1
      go_simp
      first | done | with_reducible rfl
    (try simp only [Act.put, List.setIfInBounds_toArray, List.set_cons_zero, List.set_cons_succ])
    refine wpAnyH_take (i := 4) (oi := { dst := some 29, op := Op.load 38 (Operand.tmp 28), type := 38, pos := "database.go:141", after := #[{ on := 3, ground := Ground.data }], guard := none }) (v := ?_) rfl (by kernel_rfl) (by kernel_rfl) (by kernel_rfl) (fun _ _ _ h => h) (Or.inl ⟨by rfl, ?_⟩) hHeld ?_
    rotate_left 1
    · intro u hSu
      obtain ⟨q0, q1, q2, q3, q4⟩ := hSu.out.e
      obtain ⟨r0, r1, r2, r3, r4⟩ := hSu.out.at_ HB.out.1
      go_simp
      first | done | with_reducible rfl
    (try simp only [Act.put, List.setIfInBounds_toArray, List.set_cons_zero, List.set_cons_succ])
    refine wpAnyH_ready (rs := [5]) (by kernel_rfl) (by simp) ?_
    refine AllReadyH.cons (o := { dst := some 30, op := Op.call { callee := Callee.value (Operand.func 90), args := #[Operand.tmp 25, Operand.tmp 29], argTypes := #[38, 38] }, type := 4, pos := "database.go:141", after := #[{ on := 0, ground := Ground.data }, { on := 4, ground := Ground.data }], guard := none }) rfl (fun Kz hK => ?_) AllReadyH.nil
    go_simp
    go_at_call 90
    have hcall := anewer_any A B q _ _ hHeld.out.ok (hHeld.out.o.ok B HB.out.2)
    unfold Ad.val at hcall
    refine hcall.mono ?_
    rintro e w4 ⟨rfl, hg⟩
    rw [HXX.out]
    have HDn := Lib.hid (hHeld.out.keep hg)
    clear hg HD
    have HD := HDn
    clear HDn hcall
    refine hK.out _ _ (HD) (fun hH2 => ?_)
    clear hK Kz hHeld
    have hHeld := hH2
    clear hH2
    (try simp only [Act.put, List.setIfInBounds_toArray, List.set_cons_zero, List.set_cons_succ])
    refine wpAnyH_take (i := 6) (oi := { dst := some 24, op := Op.assign (Operand.tmp 30), type := 4, pos := "database.go:141", after := #[{ on := 5, ground := Ground.data }, { on := 5, ground := Ground.chain }], guard := none }) (v := ?_) rfl (by kernel_rfl) (by kernel_rfl) (by kernel_rfl) (fun _ _ _ h => h) (Or.inl ⟨by rfl, ?_⟩) hHeld ?_
    rotate_left 1
    · intro u hSu
      obtain ⟨q0, q1, q2, q3, q4⟩ := hSu.out.e
      obtain ⟨r0, r1, r2, r3, r4⟩ := hSu.out.at_ HB.out.1
      go_simp
      first | done | with_reducible rfl
    (try simp only [Act.put, List.setIfInBounds_toArray, List.set_cons_zero, List.set_cons_succ])
    refine wpAnyH_done (by kernel_rfl) ?_ _
    clear hHeld
    cases X with
    | true =>
      have hm2 : put1 l A = l.set i A := by unfold put1; rw [HM.out.1, if_pos rfl]; exact HM.out.2
      have HM2 := Lib.hid hm2
      clear hm2
      obtain ⟨a0, a1, a2, a3, a4⟩ := HD.out.e
      go_wp2_with fail
      refine (dcopied_any A q w4 HD.out.ok hnA hs).mono ?_
      rintro e w5 ⟨pL, cL, pC, cC, rfl, hok, hnl, hg⟩
      have H5 := Lib.hid (HD.out.keep hg)
      obtain ⟨s1, s2⟩ := own_set5 ⟨A.r, A.q, A.cp, A.L, A.C, pL, cL, pC, cC⟩ H5.out.o.own hil
      dsimp only at s1 s2
      have hO := H5.out.o.set (B := ⟨A.r, A.q, A.cp, A.L, A.C, pL, cL, pC, cC⟩) s1 s2 (hok.and.mono (fun b hb => ⟨by have := HD.out.gr.size; omega, hb.2, fun e => by have := (HOW.out b e).2; have := HD.out.gr.size; omega⟩)) hnl
      have HF : Hid (PutPost base l (.slice (some ⟨g, 0, none⟩) l.length c) A w (.returned (.tuple #[.slice (some ⟨g, 0, none⟩) l.length c, .bool true])) _) := Lib.hid ⟨_, _, by rw [HM.out.1], by rw [HM2.out, List.map_set, List.map_set]; rfl, hO, grown_trans (grown_none H5.out.gr _) s2⟩
      have f0 := own_cellOk H5.out.o.own (i * 5) (by omega)
      have f1 := own_cellOk H5.out.o.own (i * 5 + 1) (by omega)
      have f2 := own_cellOk H5.out.o.own (i * 5 + 2) (by omega)
      have f3 := own_cellOk H5.out.o.own (i * 5 + 3) (by omega)
      have f4 := own_cellOk H5.out.o.own (i * 5 + 4) (by omega)
      obtain ⟨x0, g0⟩ := Option.isSome_iff_exists.1 f0.1
      obtain ⟨x1, g1⟩ := Option.isSome_iff_exists.1 f1.1
      obtain ⟨x2, g2⟩ := Option.isSome_iff_exists.1 f2.1
      obtain ⟨x3, g3⟩ := Option.isSome_iff_exists.1 f3.1
      obtain ⟨x4, g4⟩ := Option.isSome_iff_exists.1 f4.1
      replace f0 := f0.2
      replace f1 := f1.2
      replace f2 := f2.2
      replace f3 := f3.2
      replace f4 := f4.2
      clear s1 s2 hok hnl hg hO HD H5 a0 a1 a2 a3 a4 HM HM2
      go_wp2_with fail
      go_ret2
      exact HF.out
    | false =>
      have hm2 : put1 l A = l := by unfold put1; rw [HM.out.1, if_neg (by decide)]
      have HF : Hid (PutPost base l (.slice (some ⟨g, 0, none⟩) l.length c) A w (.returned (.tuple #[.slice (some ⟨g, 0, none⟩) l.length c, .bool false])) w4) := Lib.hid ⟨l, _, by rw [HM.out.1], by rw [hm2], HD.out.o, grown_none HD.out.gr _⟩
      go_wp2_with fail
      go_ret2
      exact HF.out
end Go.Proofs.Ytnpkihioklpnmaa

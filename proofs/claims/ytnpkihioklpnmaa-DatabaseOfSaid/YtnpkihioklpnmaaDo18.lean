/- Parts of the proof, packed: DbPut, AdTape, DbTap, DbPuM, DbRWi, DbRk, AdNwM, IoOwnR, IoOwnA, AdROw, AdREn, AdRNw, DbRPu, DbMrg, DbRMg, DbViw. -/
import Derived.Test.YtnpkihioklpnmaaDo17
import Derived.Test.YtnpkihioklpnmaaDo13
import Derived.Deep.RegionHeld3
import Derived.Deep.CutBlock
import Derived.Deep.CutRange
import Derived.Test.YtnpkihioklpnmaaDo14
import Derived.Test.YtnpkihioklpnmaaDo16
import Derived.Test.YtnpkihioklpnmaaDo5
import Derived.Test.YtnpkihioklpnmaaDo15
import Derived.BigQuiet
import Derived.Test.YtnpkihioklpnmaaDo6
import Derived.Sort.Walk0
import Derived.Test.YtnpkihioklpnmaaDo7
import Derived.Laws.Cover1
/- database: put. -/
namespace Go.Proofs.Ytnpkihioklpnmaa
open Go.RowKit Bs
set_option maxRecDepth 100000 in
/-- One advert more in a row of the call's own. -/
theorem OwnD.ins {base K i : Nat} {l : List Ad} {v : Value} {w w' : World} {e : Ending} {B : Ad} (h : OwnD base l v w) (hI : InsPA (l.take i ++ B :: l.drop i) base v w e w') (hok : AdOk w (fun b => K ≤ b ∧ b < w.heap.size) B) (hnl : AdNl B) (hb : base ≤ K) (hK : ∀ b, v.ownBlock = some b → b < K) :
    ∃ v', e = .returned v' ∧ OwnD base (l.take i ++ B :: l.drop i) v' w' ∧ ∃ og, w.grownBy w' og ∧ (og = v.ownBlock ∨ og = some w.heap.size) := by
  obtain ⟨g, cap, N, og, hN, he, hown, hg, hog, hv⟩ := hI
  have hne : ∀ b, b < w.heap.size → v.ownBlock ≠ some b → some b ≠ og := fun b hb h1 e => by
    rcases hog with h2 | h2
    · exact h1 (h2.symm.trans e.symm)
    · have := Option.some.inj (e.trans h2); omega
  have hv2 : ∀ b, b < w.heap.size → v.ownBlock ≠ some b → (Value.slice (some ⟨g, 0, none⟩) N cap).ownBlock ≠ some b := fun b hb h1 e => by
    have e2 : g = b := Option.some.inj e
    subst e2
    rcases hv with h2 | h2
    · exact h1 h2
    · omega
  have hB : ∀ b, (K ≤ b ∧ b < w.heap.size) → qO base v w b := fun b hb' => ⟨by omega, hb'.2, fun e => by have := hK b e; omega⟩
  have hok2 : ∀ A ∈ l.take i ++ B :: l.drop i, AdOk w (qO base v w) A ∧ AdNl A := fun A hA => by
    rcases List.mem_append.1 hA with hA | hA
    · exact ⟨h.ok A (List.mem_of_mem_take hA), h.nl A (List.mem_of_mem_take hA)⟩
    · rcases List.mem_cons.1 hA with hA | hA
      · subst hA; exact ⟨hok.mono hB, hnl⟩
      · exact ⟨h.ok A (List.mem_of_mem_drop hA), h.nl A (List.mem_of_mem_drop hA)⟩
  refine ⟨_, he, ⟨by rw [← hN]; exact hown, fun A hA => ((hok2 A hA).1.grown hg (fun b hb => hne b hb.2.1 hb.2.2)).mono (fun b hb => ⟨hb.1, Nat.lt_of_lt_of_le hb.2.1 hg.size, hv2 b hb.2.1 hb.2.2⟩), fun A hA => (hok2 A hA).2⟩, og, hg, hog⟩
set_option maxRecDepth 100000 in
/-- One advert in the place of another. -/
theorem OwnD.set {base i g n cap : Nat} {l : List Ad} {w w1 : World} {B : Ad} (h : OwnD base l (.slice (some ⟨g, 0, none⟩) n cap) w) (hown : w1.ownsRow base 38 5 (.slice (some ⟨g, 0, none⟩) n cap) l.length ((l.set i B).flatMap adL)) (hg : w.grownBy w1 (some g)) (hok : AdOk w (qO base (.slice (some ⟨g, 0, none⟩) n cap) w) B) (hnl : AdNl B) : OwnD base (l.set i B) (.slice (some ⟨g, 0, none⟩) n cap) w1 := by
  have hok2 : ∀ A ∈ l.set i B, AdOk w (qO base (.slice (some ⟨g, 0, none⟩) n cap) w) A ∧ AdNl A := fun A hA => by
    rcases List.mem_or_eq_of_mem_set hA with hA | rfl
    · exact ⟨h.ok A hA, h.nl A hA⟩
    · exact ⟨hok, hnl⟩
  exact ⟨by rw [List.length_set]; exact hown, fun A hA => ((hok2 A hA).1.grown hg (fun b hb e => hb.2.2 (by rw [Option.some.inj e]; rfl))).mono (fun b hb => ⟨hb.1, Nat.lt_of_lt_of_le hb.2.1 hg.size, hb.2.2⟩), fun A hA => (hok2 A hA).2⟩
/-- While put works: the row, the advert's box. -/
structure PW (W : World) (base : Nat) (l : List Ad) (v : Value) (A : Ad) (q : Nat → Prop) (w : World) : Prop where
  o : OwnD base l v w
  bx : w.heap[W.heap.size]? = some (.cells #[.int .i64 A.r, .int .i64 A.q, .bool A.cp, .slice A.pL A.L.length A.cL, .slice A.pC A.C.length A.cC] 38 (0, 0))
  ok : AdOk w q A
  gr : W.grownBy w none
set_option maxRecDepth 100000 in
theorem PW.keep {W w w1 : World} {base : Nat} {l : List Ad} {v : Value} {A : Ad} {q : Nat → Prop} (h : PW W base l v A q w) (g : w.grownBy w1 none) : PW W base l v A q w1 := ⟨h.o.keep g, kept_row h.bx g (by simp), h.ok.keep g, grown_trans h.gr g⟩
set_option maxRecDepth 100000 in
theorem PW.e {W w : World} {base : Nat} {l : List Ad} {v : Value} {A : Ad} {q : Nat → Prop} (h : PW W base l v A q w) : w.cell? ⟨W.heap.size, 0, none⟩ = some (.int .i64 A.r) ∧ w.cell? ⟨W.heap.size, 1, none⟩ = some (.int .i64 A.q) ∧ w.cell? ⟨W.heap.size, 2, none⟩ = some (.bool A.cp) ∧ w.cell? ⟨W.heap.size, 3, none⟩ = some (.slice A.pL A.L.length A.cL) ∧ w.cell? ⟨W.heap.size, 4, none⟩ = some (.slice A.pC A.C.length A.cC) := row5 h.bx
set_option maxRecDepth 100000 in
theorem PW.at_ {W w : World} {base g n cap i : Nat} {l : List Ad} {A B : Ad} {q : Nat → Prop} (h : PW W base l (.slice (some ⟨g, 0, none⟩) n cap) A q w) (hB : l[i]? = some B) : w.cell? ⟨g, i * 5, none⟩ = some (.int .i64 B.r) ∧ w.cell? ⟨g, i * 5 + 1, none⟩ = some (.int .i64 B.q) ∧ w.cell? ⟨g, i * 5 + 2, none⟩ = some (.bool B.cp) ∧ w.cell? ⟨g, i * 5 + 3, none⟩ = some (.slice B.pL B.L.length B.cL) ∧ w.cell? ⟨g, i * 5 + 4, none⟩ = some (.slice B.pC B.C.length B.cC) := by
  have h1 := rda_at h.o.rda.2 hB
  rw [Nat.zero_add] at h1
  exact h1
/-- What put leaves. -/
def PutPost (base : Nat) (l : List Ad) (v : Value) (A : Ad) (W : World) (e : Ending) (w' : World) : Prop :=
  ∃ (m : List Ad) (v' : Value), e = .returned (.tuple #[v', .bool (chg l A)]) ∧ m.map fz = (put1 l A).map fz ∧ OwnD base m v' w' ∧ W.grownBy w' v.ownBlock
set_option maxRecDepth 100000 in
set_option maxHeartbeats 6400000 in
theorem dput1_any (l : List Ad) (A : Ad) (base : Nat) (v : Value) (q : Nat → Prop) (w : World) (ho : OwnD base l v w) (hb : base ≤ w.heap.size) (hm : l.length ≤ 900) (hp : l.Pairwise (fun A B => A.r < B.r)) (hA : AdOk w q A) (hnA : AdNl A) (hs : A.L.length ≤ 1000 ∧ A.C.length ≤ 1000) :
    Calls Try.prog 61 #[v, .agg #[.int .i64 A.r, .int .i64 A.q, .bool A.cp, .slice A.pL A.L.length A.cL, .slice A.pC A.C.length A.cC]] w fun e w' => PutPost base l v A w e w' := by
  obtain ⟨k1, k2⟩ := tone_box w #[.int .i64 A.r, .int .i64 A.q, .bool A.cp, .slice A.pL A.L.length A.cL, .slice A.pC A.C.length A.cC] 38
  have H0 : Hid (PW w base l v A q _) := Lib.hid ⟨ho.keep k2, k1, hA.keep k2, k2⟩
  have HOW := Lib.hid ho.own.lt
  obtain ⟨p, c, rfl, hc, hpn⟩ := ho.shape
  clear k1 k2 ho hA
  go_enter Try.func61, Try.ntmps61
  go_upto_region 1 with fail
  generalize w.alloc _ = wa at *
  obtain ⟨a0, a1, a2, a3, a4⟩ := H0.out.e
  go_wp2_with fail
  refine (dplace_any l A.r p c _ wa H0.out.o.rda.2 (by omega)).mono ?_
  rintro e w1 ⟨i, b, rfl, hpl, hg⟩
  have H1 := Lib.hid (H0.out.keep hg)
  have HPL := Lib.hid (And.intro hpl hp)
  clear hpl hg H0 a0 a1 a2 a3 a4 hp
  cases b with
  | false =>
    have hf := (HPL.out.1.fnd HPL.out.2).2 rfl
    have HM : Hid (chg l A = true ∧ put1 l A = l.take i ++ A :: l.drop i) := Lib.hid ⟨chg_none hf, by unfold put1; rw [chg_none hf, if_pos rfl]; exact HPL.out.1.ins HPL.out.2⟩
    have hil : i ≤ l.length := HPL.out.1.le
    clear hf HPL
    obtain ⟨a0, a1, a2, a3, a4⟩ := H1.out.e
    go_wp2_with fail
    refine (dcopied_any A q w1 H1.out.ok hnA hs).mono ?_
    rintro e w2 ⟨pL, cL, pC, cC, rfl, hok, hnl, hg⟩
    have H2 := Lib.hid (H1.out.keep hg)
    obtain ⟨n1, n2⟩ := tone_box w2 #[.int .i64 A.r, .int .i64 A.q, .bool A.cp, .slice pL A.L.length cL, .slice pC A.C.length cC] 38
    have H3 := Lib.hid (H2.out.keep n2)
    have HX := Lib.hid (And.intro n1 (And.intro (hok.and.keep n2) hnl))
    have HS1 : Hid (w1.heap.size ≤ w2.heap.size ∧ w2.heap.size < (w2.alloc (.cells #[.int .i64 A.r, .int .i64 A.q, .bool A.cp, .slice pL A.L.length cL, .slice pC A.C.length cC] 38)).heap.size ∧ w.heap.size ≤ w1.heap.size) := Lib.hid ⟨hg.size, World.lt_of_row' n1, H1.out.gr.size⟩
    clear n1 n2 hok hnl hg H2 a0 a1 a2 a3 a4
    go_wp2_with fail
    refine (dinsert_any l ⟨A.r, A.q, A.cp, A.L, A.C, pL, cL, pC, cC⟩ base w2.heap.size 1 i (.slice p l.length c) _ H3.out.o.own HX.out.1 (by omega) (by have := HS1.out; omega) (fun e => by have := (HOW.out _ e).2; have := HS1.out; omega) hil).mono ?_
    intro e w3 hI
    obtain ⟨v', rfl, hO, og, hg, hog⟩ := H3.out.o.ins (K := w1.heap.size) (B := ⟨A.r, A.q, A.cp, A.L, A.C, pL, cL, pC, cC⟩) hI (HX.out.2.1.mono (fun b hb => ⟨hb.1, by have := HS1.out; omega⟩)) HX.out.2.2 (by have := HS1.out; omega) (fun b e => by have := (HOW.out b e).2; have := HS1.out; omega)
    have HF : Hid (PutPost base l (.slice p l.length c) A w (.returned (.tuple #[v', .bool true])) w3) := Lib.hid ⟨_, v', by rw [HM.out.1], by rw [HM.out.2, List.map_append, List.map_append, List.map_cons, List.map_cons]; rfl, hO, by
      rcases hog with h1 | h1
      · rw [← h1]; exact grown_trans (grown_none H3.out.gr _) hg
      · rw [h1] at hg; exact grown_none (grown_new H3.out.gr hg (by have := HS1.out; omega)) _⟩
    clear hI hO hg hog H3 HX HS1 HM H1
    go_wp2_with fail
    go_ret2
    exact HF.out
  | true =>
    obtain ⟨hf1, hf2⟩ := (HPL.out.1.fnd HPL.out.2).1 rfl
    obtain ⟨B, hB⟩ := Option.isSome_iff_exists.1 hf2
    have hiB : l[i]? = some B := hf1.trans hB
    have HB := Lib.hid (And.intro hiB (List.mem_of_getElem? hiB))
    have HM : Hid (chg l A = nwA A B ∧ putA l A = l.set i A) := Lib.hid ⟨chg_some hB, HPL.out.1.set HPL.out.2⟩
    have hil : i < l.length := (List.getElem?_eq_some_iff.1 hiB).1
    clear hf1 hf2 hB hiB HPL
    obtain ⟨g, cap, e, -, -⟩ := H1.out.o.own.form (by omega)
    injection e with e1 e2 e3
    subst e1 e3
    clear e2 hpn
    obtain ⟨X, hX⟩ : ∃ X, nwA A B = X := ⟨_, rfl⟩
    have HXX := Lib.hid hX
    rw [hX] at HM
    clear hX
    go_upto_region 4 with fail
    have HD := Lib.hid (H1.out.keep (grown_drew (grown_refl w1 none)))
    clear H1
    refine wp_region_held_drew (S := fun w' => Hid (PW w base l (.slice (some ⟨g, 0, none⟩) l.length c) A q w')) (by kernel_rfl) (Lib.hid HD.out) (fun hHeld => ?_)
    refine wpAnyH_take (i := 0) (oi := { dst := some 25, op := Op.load 38 (Operand.tmp 3), type := 38, pos := "database.go:141", after := #[], guard := none }) (v := ?_) rfl (by kernel_rfl) (by kernel_rfl) (by kernel_rfl) (fun _ _ _ h => h) (Or.inl ⟨by rfl, ?_⟩) hHeld ?_
    rotate_left 1
    · intro u hSu
      obtain ⟨q0, q1, q2, q3, q4⟩ := hSu.out.e
      obtain ⟨r0, r1, r2, r3, r4⟩ := hSu.out.at_ HB.out.1
      go_simp
      first | done | with_reducible rfl
    (try simp only [Act.put, List.setIfInBounds_toArray, List.set_cons_zero, List.set_cons_succ])
    refine wpAnyH_take (i := 1) (oi := { dst := some 26, op := Op.move (Operand.tmp 0), type := 23, pos := "database.go:141", after := #[], guard := none }) (v := ?_) rfl (by kernel_rfl) (by kernel_rfl) (by kernel_rfl) (fun _ _ _ h => h) (Or.inl ⟨by rfl, ?_⟩) hHeld ?_
    rotate_left 1
    · intro u hSu
      obtain ⟨q0, q1, q2, q3, q4⟩ := hSu.out.e
      obtain ⟨r0, r1, r2, r3, r4⟩ := hSu.out.at_ HB.out.1
      go_simp
      first | done | with_reducible rfl
    (try simp only [Act.put, List.setIfInBounds_toArray, List.set_cons_zero, List.set_cons_succ])
    refine wpAnyH_take (i := 2) (oi := { dst := some 27, op := Op.move (Operand.tmp 6), type := 3, pos := "database.go:141", after := #[], guard := none }) (v := ?_) rfl (by kernel_rfl) (by kernel_rfl) (by kernel_rfl) (fun _ _ _ h => h) (Or.inl ⟨by rfl, ?_⟩) hHeld ?_
    rotate_left 1
    · intro u hSu
      obtain ⟨q0, q1, q2, q3, q4⟩ := hSu.out.e
      obtain ⟨r0, r1, r2, r3, r4⟩ := hSu.out.at_ HB.out.1
      go_simp
      first | done | with_reducible rfl
    (try simp only [Act.put, List.setIfInBounds_toArray, List.set_cons_zero, List.set_cons_succ])
    refine wpAnyH_take (i := 3) (oi := { dst := some 28, op := Op.indexAddr 23 (Operand.tmp 26) (Operand.tmp 27), type := 0, pos := "database.go:141", after := #[{ on := 1, ground := Ground.data }, { on := 2, ground := Ground.data }], guard := none }) (v := ?_) rfl (by kernel_rfl) (by kernel_rfl) (by kernel_rfl) (fun _ _ _ h => h) (Or.inl ⟨by rfl, ?_⟩) hHeld ?_
    rotate_left 1
    · intro u hSu
      obtain ⟨q0, q1, q2, q3, q4⟩ := hSu.out.e
      obtain ⟨r0, r1, r2, r3, r4⟩ := hSu.out.at_ HB.out.1
      go_simp
      first | done | with_reducible rfl
    (try simp only [Act.put, List.setIfInBounds_toArray, List.set_cons_zero, List.set_cons_succ])
    refine wpAnyH_take (i := 4) (oi := { dst := some 29, op := Op.load 38 (Operand.tmp 28), type := 38, pos := "database.go:141", after := #[{ on := 3, ground := Ground.data }], guard := none }) (v := ?_) rfl (by kernel_rfl) (by kernel_rfl) (by kernel_rfl) (fun _ _ _ h => h) (Or.inl ⟨by rfl, ?_⟩) hHeld ?_
    rotate_left 1
    · intro u hSu
      obtain ⟨q0, q1, q2, q3, q4⟩ := hSu.out.e
      obtain ⟨r0, r1, r2, r3, r4⟩ := hSu.out.at_ HB.out.1
      go_simp
      first | done | with_reducible rfl
    (try simp only [Act.put, List.setIfInBounds_toArray, List.set_cons_zero, List.set_cons_succ])
    refine wpAnyH_ready (rs := [5]) (by kernel_rfl) (by simp) ?_
    refine AllReadyH.cons (o := { dst := some 30, op := Op.call { callee := Callee.value (Operand.func 90), args := #[Operand.tmp 25, Operand.tmp 29], argTypes := #[38, 38] }, type := 4, pos := "database.go:141", after := #[{ on := 0, ground := Ground.data }, { on := 4, ground := Ground.data }], guard := none }) rfl (fun Kz hK => ?_) AllReadyH.nil
    go_simp
    go_at_call 90
    have hcall := anewer_any A B q _ _ hHeld.out.ok (hHeld.out.o.ok B HB.out.2)
    unfold Ad.val at hcall
    refine hcall.mono ?_
    rintro e w4 ⟨rfl, hg⟩
    rw [HXX.out]
    have HDn := Lib.hid (hHeld.out.keep hg)
    clear hg HD
    have HD := HDn
    clear HDn hcall
    refine hK.out _ _ (HD) (fun hH2 => ?_)
    clear hK Kz hHeld
    have hHeld := hH2
    clear hH2
    (try simp only [Act.put, List.setIfInBounds_toArray, List.set_cons_zero, List.set_cons_succ])
    refine wpAnyH_take (i := 6) (oi := { dst := some 24, op := Op.assign (Operand.tmp 30), type := 4, pos := "database.go:141", after := #[{ on := 5, ground := Ground.data }, { on := 5, ground := Ground.chain }], guard := none }) (v := ?_) rfl (by kernel_rfl) (by kernel_rfl) (by kernel_rfl) (fun _ _ _ h => h) (Or.inl ⟨by rfl, ?_⟩) hHeld ?_
    rotate_left 1
    · intro u hSu
      obtain ⟨q0, q1, q2, q3, q4⟩ := hSu.out.e
      obtain ⟨r0, r1, r2, r3, r4⟩ := hSu.out.at_ HB.out.1
      go_simp
      first | done | with_reducible rfl
    (try simp only [Act.put, List.setIfInBounds_toArray, List.set_cons_zero, List.set_cons_succ])
    refine wpAnyH_done (by kernel_rfl) ?_ _
    clear hHeld
    cases X with
    | true =>
      have hm2 : put1 l A = l.set i A := by unfold put1; rw [HM.out.1, if_pos rfl]; exact HM.out.2
      have HM2 := Lib.hid hm2
      clear hm2
      obtain ⟨a0, a1, a2, a3, a4⟩ := HD.out.e
      go_wp2_with fail
      refine (dcopied_any A q w4 HD.out.ok hnA hs).mono ?_
      rintro e w5 ⟨pL, cL, pC, cC, rfl, hok, hnl, hg⟩
      have H5 := Lib.hid (HD.out.keep hg)
      obtain ⟨s1, s2⟩ := own_set5 ⟨A.r, A.q, A.cp, A.L, A.C, pL, cL, pC, cC⟩ H5.out.o.own hil
      dsimp only at s1 s2
      have hO := H5.out.o.set (B := ⟨A.r, A.q, A.cp, A.L, A.C, pL, cL, pC, cC⟩) s1 s2 (hok.and.mono (fun b hb => ⟨by have := HD.out.gr.size; omega, hb.2, fun e => by have := (HOW.out b e).2; have := HD.out.gr.size; omega⟩)) hnl
      have HF : Hid (PutPost base l (.slice (some ⟨g, 0, none⟩) l.length c) A w (.returned (.tuple #[.slice (some ⟨g, 0, none⟩) l.length c, .bool true])) _) := Lib.hid ⟨_, _, by rw [HM.out.1], by rw [HM2.out, List.map_set, List.map_set]; rfl, hO, grown_trans (grown_none H5.out.gr _) s2⟩
      have f0 := own_cellOk H5.out.o.own (i * 5) (by omega)
      have f1 := own_cellOk H5.out.o.own (i * 5 + 1) (by omega)
      have f2 := own_cellOk H5.out.o.own (i * 5 + 2) (by omega)
      have f3 := own_cellOk H5.out.o.own (i * 5 + 3) (by omega)
      have f4 := own_cellOk H5.out.o.own (i * 5 + 4) (by omega)
      obtain ⟨x0, g0⟩ := Option.isSome_iff_exists.1 f0.1
      obtain ⟨x1, g1⟩ := Option.isSome_iff_exists.1 f1.1
      obtain ⟨x2, g2⟩ := Option.isSome_iff_exists.1 f2.1
      obtain ⟨x3, g3⟩ := Option.isSome_iff_exists.1 f3.1
      obtain ⟨x4, g4⟩ := Option.isSome_iff_exists.1 f4.1
      replace f0 := f0.2
      replace f1 := f1.2
      replace f2 := f2.2
      replace f3 := f3.2
      replace f4 := f4.2
      clear s1 s2 hok hnl hg hO HD H5 a0 a1 a2 a3 a4 HM HM2
      go_wp2_with fail
      go_ret2
      exact HF.out
    | false =>
      have hm2 : put1 l A = l := by unfold put1; rw [HM.out.1, if_neg (by decide)]
      have HF : Hid (PutPost base l (.slice (some ⟨g, 0, none⟩) l.length c) A w (.returned (.tuple #[.slice (some ⟨g, 0, none⟩) l.length c, .bool false])) w4) := Lib.hid ⟨l, _, by rw [HM.out.1], by rw [hm2], HD.out.o, grown_none HD.out.gr _⟩
      go_wp2_with fail
      go_ret2
      exact HF.out
end Go.Proofs.Ytnpkihioklpnmaa

/- The tape's Advert: some advert; without mistakes it is valid. -/
namespace Go.Proofs.Ytnpkihioklpnmaa
open Go.RowKit Bs
end Go.Proofs.Ytnpkihioklpnmaa

/- The tape's Database. -/
namespace Go.Proofs.Ytnpkihioklpnmaa
open Go.RowKit Bs
set_option maxRecDepth 100000 in
theorem db_size1 : (Try.prog.info? 25).map (·.size) = some 1 := by kernel_rfl
/-- Where lists of a database's adverts lie while the database grows. -/
def qD (W : World) (v : Value) (w : World) (b : Nat) : Prop := W.heap.size + 2 ≤ b ∧ b < w.heap.size ∧ v.ownBlock ≠ some b
section
variable {a : Nat} {W w w1 : World} {u v v' : Value} {l : List Ad} {A : Ad}
end
set_option maxRecDepth 100000 in
theorem d1_set {w : World} {g : Nat} {t : TypeId} {x : Value} (y : Value) (h : w.heap[g]? = some (.cells #[x] t (0, 0))) : (w.setCell ⟨g, 0, none⟩ y).heap[g]? = some (.cells #[y] t (0, 0)) := by
  have h1 := heap_setCell_same w g 0 _ _ y h
  rw [h1]; rfl
end Go.Proofs.Ytnpkihioklpnmaa

/- database: Put. -/
namespace Go.Proofs.Ytnpkihioklpnmaa
open Go.RowKit Bs
set_option maxRecDepth 100000 in
theorem res_db_b {fn : Func} {p u : Tmp} (h : fn.results = #[.cell p 25, .tmp u]) (tmps : Array Value) (w : World) (g : Nat) (x : Value) (hp : tmps.getD p undef = .pointer (some ⟨g, 0, none⟩)) (hg : w.heap[g]? = some (.cells #[x] 25 (0, 0))) :
    (results fn tmps).run Try.prog w = .ok (.tuple #[.agg #[x], tmps.getD u undef]) w := by
  have hp' : tmps[p]?.getD undef = .pointer (some ⟨g, 0, none⟩) := by simpa using hp
  rw [results_cell_tmp h]
  simp [hp', asAddr, run_loadVar_row w g _ _ _ _ _ hg Try.underlying25 rfl db_size1, Result.andThen]
set_option maxRecDepth 100000 in
theorem three_boxesD (w : World) (X Y Z : Array Value) (t u s : TypeId) :
    (((w.alloc (.cells X t)).alloc (.cells Y u)).alloc (.cells Z s)).heap[w.heap.size]? = some (.cells X t (0, 0)) ∧ (((w.alloc (.cells X t)).alloc (.cells Y u)).alloc (.cells Z s)).heap[w.heap.size + 1]? = some (.cells Y u (0, 0)) ∧ (((w.alloc (.cells X t)).alloc (.cells Y u)).alloc (.cells Z s)).heap[w.heap.size + 2]? = some (.cells Z s (0, 0)) ∧ w.grownBy (((w.alloc (.cells X t)).alloc (.cells Y u)).alloc (.cells Z s)) none ∧ (((w.alloc (.cells X t)).alloc (.cells Y u)).alloc (.cells Z s)).heap.size = w.heap.size + 3 := by
  obtain ⟨k1, k2, k3, k4⟩ := two_boxes w X Y t u
  obtain ⟨n1, n2⟩ := tone_box ((w.alloc (.cells X t)).alloc (.cells Y u)) Z s
  rw [k4] at n1
  refine ⟨kept_row k1 n2 (by simp), kept_row k2 n2 (by simp), n1, grown_trans k3 n2, ?_⟩
  rw [World.size_alloc, k4]
/-- What Put returns. -/
def PutRes (l : List Ad) (A : Ad) (q : Nat → Prop) (W : World) (e : Ending) (w' : World) : Prop :=
  ∃ (m : List Ad) (p : Option Addr) (c : Nat), e = .returned (.tuple #[.agg #[.slice p m.length c], .bool (pD l A)]) ∧ m.map fz = (putV l A).map fz ∧ RdA w' q (.slice p m.length c) m ∧ (m.length ≤ c ∧ c ≤ 9223372036854775807) ∧ (p = none → c = 0) ∧ W.grownBy w' none
/-- While Put works: the arguments' boxes, the result's. -/
structure PuW (W : World) (l : List Ad) (p : Option Addr) (c : Nat) (A : Ad) (w : World) : Prop where
  d : w.heap[W.heap.size]? = some (.cells #[.slice p l.length c] 25 (0, 0))
  a : w.heap[W.heap.size + 1]? = some (.cells #[.int .i64 A.r, .int .i64 A.q, .bool A.cp, .slice A.pL A.L.length A.cL, .slice A.pC A.C.length A.cC] 38 (0, 0))
  z : w.heap[W.heap.size + 2]? = some (.cells #[.slice none 0 0] 25 (0, 0))
  db : RdA w (· < W.heap.size) (.slice p l.length c) l
  ok : AdOk w (· < W.heap.size) A
  gr : W.grownBy w none
set_option maxRecDepth 100000 in
theorem PuW.keep {W w w1 : World} {l : List Ad} {p : Option Addr} {c : Nat} {A : Ad} (h : PuW W l p c A w) (g : w.grownBy w1 none) : PuW W l p c A w1 := ⟨kept_row h.d g (by simp), kept_row h.a g (by simp), kept_row h.z g (by simp), h.db.keep g, h.ok.keep g, grown_trans h.gr g⟩
set_option maxRecDepth 100000 in
theorem pu_start {w : World} {l : List Ad} {p : Option Addr} {c : Nat} {A : Ad} {q : Nat → Prop} (hR : RdA w q (.slice p l.length c) l) (hA : AdOk w q A) : PuW w l p c A (((w.alloc (.cells #[.slice p l.length c] 25)).alloc (.cells #[.int .i64 A.r, .int .i64 A.q, .bool A.cp, .slice A.pL A.L.length A.cL, .slice A.pC A.C.length A.cC] 38)).alloc (.cells #[.slice none 0 0] 25)) ∧ (((w.alloc (.cells #[.slice p l.length c] 25)).alloc (.cells #[.int .i64 A.r, .int .i64 A.q, .bool A.cp, .slice A.pL A.L.length A.cL, .slice A.pC A.C.length A.cC] 38)).alloc (.cells #[.slice none 0 0] 25)).heap.size = w.heap.size + 3 := by
  obtain ⟨k1, k2, k3, k4, k5⟩ := three_boxesD w #[.slice p l.length c] #[.int .i64 A.r, .int .i64 A.q, .bool A.cp, .slice A.pL A.L.length A.cL, .slice A.pC A.C.length A.cC] #[.slice none 0 0] 25 38 25
  exact ⟨⟨k1, k2, k3, hR.old.keep k4, hA.old.keep k4, k4⟩, k5⟩
set_option maxRecDepth 100000 in
theorem pD_eq {l m : List Ad} (h : m.map fz = l.map fz) (A : Ad) : okD m = okD l ∧ chg m A = chg l A ∧ (putA m A).map fz = (putA l A).map fz ∧ (put1 m A).map fz = (put1 l A).map fz ∧ (putV m A).map fz = (putV l A).map fz := by
  refine ⟨by rw [← okD_fz m, h, okD_fz], by rw [← chg_fz m, h, chg_fz], by rw [← putA_fz m, h, putA_fz], by rw [← put1_fz m, h, put1_fz], by rw [← putV_fz m, h, putV_fz]⟩
set_option maxRecDepth 100000 in
theorem fz_len {l m : List Ad} (h : m.map fz = l.map fz) : m.length = l.length := by
  have := congrArg List.length h
  rwa [List.length_map, List.length_map] at this
set_option maxRecDepth 100000 in
/-- The row is given back in the result's box. -/
theorem PuW.fin {W w w1 : World} {l m : List Ad} {p p' : Option Addr} {c c' base : Nat} {A : Ad} {v : Value} (h : PuW W l p c A w) (hb : W.heap.size + 3 ≤ base) (g : w.grownBy w1 v.ownBlock) (hv : ∀ b, v.ownBlock = some b → base ≤ b) (hO : OwnD base m (.slice p' m.length c') w1) :
    (w1.setCell ⟨W.heap.size + 2, 0, none⟩ (.slice p' m.length c')).heap[W.heap.size + 2]? = some (.cells #[.slice p' m.length c'] 25 (0, 0)) ∧ OwnD base m (.slice p' m.length c') (w1.setCell ⟨W.heap.size + 2, 0, none⟩ (.slice p' m.length c')) ∧ W.grownBy (w1.setCell ⟨W.heap.size + 2, 0, none⟩ (.slice p' m.length c')) none ∧ w1.cell? ⟨W.heap.size + 2, 0, none⟩ = some (.slice none 0 0) ∧ w1.frozen? ⟨W.heap.size + 2, 0, none⟩ = false := by
  have hz : w1.heap[W.heap.size + 2]? = some (.cells #[.slice none 0 0] 25 (0, 0)) := kept_row h.z g (fun e => by have := hv _ e.symm; omega)
  have gs := grown_setCell w1 ⟨W.heap.size + 2, 0, none⟩ (.slice p' m.length c')
  have g1 : W.grownBy w1 none := by
    cases hvb : v.ownBlock with
    | none => rw [hvb] at g; exact grown_trans h.gr g
    | some b => rw [hvb] at g; exact grown_new h.gr g (by have := hv b hvb; omega)
  exact ⟨d1_set _ hz, hO.grown gs (fun b e => by have : W.heap.size + 2 = b := Option.some.inj e; omega), grown_new g1 gs (by show W.heap.size ≤ W.heap.size + 2; omega), cell_of_row _ _ _ _ _ _ hz, frozen_of_row _ _ 0 _ _ hz⟩
set_option maxRecDepth 100000 in
set_option maxHeartbeats 6400000 in
theorem dput_any (l : List Ad) (A : Ad) (p : Option Addr) (c : Nat) (q : Nat → Prop) (w : World) (hR : RdA w q (.slice p l.length c) l) (hn : p = none → c = 0) (hc : l.length ≤ c ∧ c ≤ 9223372036854775807) (hm : l.length ≤ 900) (hs : ∀ A ∈ l, A.L.length ≤ 1000 ∧ A.C.length ≤ 1000) (hA : AdOk w q A) (hnA : AdNl A) (hsA : A.L.length ≤ 1000 ∧ A.C.length ≤ 1000) :
    Calls Try.prog 26 #[.agg #[.slice p l.length c], .agg #[.int .i64 A.r, .int .i64 A.q, .bool A.cp, .slice A.pL A.L.length A.cL, .slice A.pC A.C.length A.cC]] w fun e w' => PutRes l A (w.heap.size ≤ ·) w e w' := by
  have H0 := Lib.hid (pu_start hR hA).1
  have HS0 := Lib.hid (pu_start hR hA).2
  clear hR hA
  go_enter Try.func26, Try.ntmps26
  go_upto_region 1 with fail
  generalize ((w.alloc _).alloc _).alloc _ = wa at *
  have c0 : wa.cell? ⟨w.heap.size, 0, none⟩ = some (.slice p l.length c) := cell_of_row _ _ _ _ _ _ H0.out.d
  go_wp2_with fail
  refine (dcopies_any l p c _ wa H0.out.db hn hc (by omega) hs).mono ?_
  rintro e w1 ⟨m0, v, rfl, hfz, hO, hg⟩
  have H1 := Lib.hid (H0.out.keep hg)
  have HE := Lib.hid (pD_eq hfz A)
  have HL := Lib.hid (fz_len hfz)
  have HFZ := Lib.hid hfz
  have hbs : w.heap.size + 3 ≤ wa.heap.size := Nat.le_of_eq HS0.out.symm
  obtain ⟨p1, c1, rfl, hc1, hn1⟩ := hO.shape
  obtain ⟨base, hbase⟩ : ∃ base, wa.heap.size = base := ⟨_, rfl⟩
  rw [hbase] at hO hbs
  have HO := Lib.hid (And.intro hO (show base ≤ w1.heap.size by rw [← hbase]; exact hg.size))
  clear hfz hO hg hbase H0 HS0 c0
  have c0 : w1.cell? ⟨w.heap.size, 0, none⟩ = some (.slice p l.length c) := cell_of_row _ _ _ _ _ _ H1.out.d
  go_wp2_with fail
  refine (dvalid_any l p c _ w1 H1.out.db (by omega)).mono ?_
  rintro e w2 ⟨rfl, hg⟩
  have H2 := Lib.hid (H1.out.keep hg)
  have HO2 := Lib.hid (And.intro (HO.out.1.keep hg) (Nat.le_trans HO.out.2 hg.size))
  clear hg H1 HO c0
  obtain ⟨X, hX⟩ : ∃ X, okD l = X := ⟨_, rfl⟩
  have HX := Lib.hid hX
  rw [hX]
  clear hX
  cases X with
  | false =>
    have hp : pD l A = false := by unfold pD; rw [HX.out]; rfl
    obtain ⟨t1, t2, t3, t4, t5⟩ := H2.out.fin (v := .slice none 0 0) hbs (grown_none (grown_refl _ _) _) (fun b e => by cases e) HO2.out.1
    have HF : Hid (PutRes l A (w.heap.size ≤ ·) w (.returned (.tuple #[.agg #[.slice p1 m0.length c1], .bool false])) _) := Lib.hid ⟨m0, p1, c1, by rw [hp], by rw [HFZ.out]; unfold putV; rw [hp]; rfl, t2.rda.2.mono (fun b hb => by omega), hc1, hn1, t3⟩
    have HT := Lib.hid t1
    clear t1 t2 t3 hp H2 HO2
    go_wp2_with fail
    refine bodyPost_ret (res_db_b rfl _ _ (w.heap.size + 2) _ rfl HT.out) rfl ?_
    exact HF.out
  | true =>
    obtain ⟨a0, a1, a2, a3, a4⟩ := row5 H2.out.a
    go_wp2_with fail
    refine (avalid_any A _ w2 H2.out.ok).mono ?_
    rintro e w3 ⟨rfl, hg⟩
    have H3 := Lib.hid (H2.out.keep hg)
    have HO3 := Lib.hid (And.intro (HO2.out.1.keep hg) (Nat.le_trans HO2.out.2 hg.size))
    clear hg H2 HO2 a0 a1 a2 a3 a4
    obtain ⟨Y, hY⟩ : ∃ Y, vAd A = Y := ⟨_, rfl⟩
    have HY := Lib.hid hY
    rw [hY]
    clear hY
    cases Y with
    | false =>
      have hp : pD l A = false := by unfold pD; rw [HX.out, HY.out]; rfl
      obtain ⟨t1, t2, t3, t4, t5⟩ := H3.out.fin (v := .slice none 0 0) hbs (grown_none (grown_refl _ _) _) (fun b e => by cases e) HO3.out.1
      have HF : Hid (PutRes l A (w.heap.size ≤ ·) w (.returned (.tuple #[.agg #[.slice p1 m0.length c1], .bool false])) _) := Lib.hid ⟨m0, p1, c1, by rw [hp], by rw [HFZ.out]; unfold putV; rw [hp]; rfl, t2.rda.2.mono (fun b hb => by omega), hc1, hn1, t3⟩
      have HT := Lib.hid t1
      clear t1 t2 t3 hp H3 HO3
      go_wp2_with fail
      refine bodyPost_ret (res_db_b rfl _ _ (w.heap.size + 2) _ rfl HT.out) rfl ?_
      exact HF.out
    | true =>
      obtain ⟨a0, a1, a2, a3, a4⟩ := row5 H3.out.a
      have hpair := (okD_OkD (by rw [HE.out.1]; exact HX.out : okD m0 = true)).pair
      go_wp2_with fail
      refine (dput1_any m0 A base (.slice p1 m0.length c1) _ w3 HO3.out.1 HO3.out.2 (by rw [HL.out]; exact hm) hpair H3.out.ok hnA hsA).mono ?_
      rintro e w4 ⟨m, v', rfl, hmf, hO, hg⟩
      obtain ⟨p2, c2, rfl, hc2, hn2⟩ := hO.shape
      have hp : pD l A = chg m0 A := by unfold pD; rw [HX.out, HY.out, HE.out.2.1]; rfl
      obtain ⟨t1, t2, t3, t4, t5⟩ := H3.out.fin (v := .slice p1 m0.length c1) hbs hg (fun b e => (HO3.out.1.own.lt b e).1) hO
      have HF : Hid (PutRes l A (w.heap.size ≤ ·) w (.returned (.tuple #[.agg #[.slice p2 m.length c2], .bool (chg m0 A)])) _) := Lib.hid ⟨m, p2, c2, by rw [hp], by
        rw [hmf, HE.out.2.2.2.1]; unfold putV put1; rw [hp, HE.out.2.1], t2.rda.2.mono (fun b hb => by omega), hc2, hn2, t3⟩
      have HT := Lib.hid t1
      clear t1 t2 t3 hp hO hg hmf H3 HO3 a0 a1 a2 a3 a4 hpair
      obtain ⟨cb, hcb⟩ : ∃ cb, chg m0 A = cb := ⟨_, rfl⟩
      rw [hcb] at HF ⊢
      clear hcb
      go_wp2_with fail
      refine bodyPost_ret (res_db_b rfl _ _ (w.heap.size + 2) _ rfl HT.out) rfl ?_
      exact HF.out
end Go.Proofs.Ytnpkihioklpnmaa

/- The reference's With. -/
namespace Go.Proofs.Ytnpkihioklpnmaa
open Go.RowKit Bs
/-! With, step by step. -/
section
variable {W w w1 : World} {l acc : List Ad} {p : Option Addr} {c : Nat} {A B : Ad} {q : Nat → Prop} {u v v' : Value}
end
end Go.Proofs.Ytnpkihioklpnmaa

/- The reference's Check of databases. -/
namespace Go.Proofs.Ytnpkihioklpnmaa
open Go.RowKit Bs
end Go.Proofs.Ytnpkihioklpnmaa

/- advert: the order of the encodings of valid adverts is that of their fields. -/
namespace Go.Proofs.Ytnpkihioklpnmaa
open Go.RowKit Bs
end Go.Proofs.Ytnpkihioklpnmaa

/- What the reference's Append gives lies in memory of the call's own. -/
namespace Go.Proofs.Ytnpkihioklpnmaa
open Go.RowKit Bs
end Go.Proofs.Ytnpkihioklpnmaa

/- What the reference's Align gives back, where its argument lies in memory of the call's own. -/
namespace Go.Proofs.Ytnpkihioklpnmaa
open Go.RowKit Bs
end Go.Proofs.Ytnpkihioklpnmaa

/- The reference's put of adverts: its bytes are new; Align of bytes of one's own. -/
namespace Go.Proofs.Ytnpkihioklpnmaa
open Go.RowKit Bs
end Go.Proofs.Ytnpkihioklpnmaa

/- The reference's Encode of adverts. -/
namespace Go.Proofs.Ytnpkihioklpnmaa
open Go.RowKit Bs
end Go.Proofs.Ytnpkihioklpnmaa

/- The reference's Newer of adverts. -/
namespace Go.Proofs.Ytnpkihioklpnmaa
open Go.RowKit Bs
end Go.Proofs.Ytnpkihioklpnmaa

/- The reference's Put. -/
namespace Go.Proofs.Ytnpkihioklpnmaa
open Go.RowKit Bs
section
variable {W w w1 : World} {l : List Ad} {p : Option Addr} {c : Nat} {A B : Ad} {q : Nat → Prop} {u v v' : Value}
end
end Go.Proofs.Ytnpkihioklpnmaa

/- database: Merge. -/
namespace Go.Proofs.Ytnpkihioklpnmaa
open Go.RowKit Bs
section
variable {W w w1 : World} {a b m : List Ad} {p p2 p' : Option Addr} {c c2 c' base : Nat} {v : Value}
end
end Go.Proofs.Ytnpkihioklpnmaa

/- The reference's Merge. -/
namespace Go.Proofs.Ytnpkihioklpnmaa
open Go.RowKit Bs
set_option maxRecDepth 100000 in
theorem RdA.and {w : World} {q : Nat → Prop} {v : Value} {l : List Ad} (h : RdA w q v l) : RdA w (fun b => q b ∧ b < w.heap.size) v l := ⟨rdf_and h.row, fun A hA => (h.ok A hA).and, h.nl⟩
section
variable {W w w1 : World} {m m2 b : List Ad} {p p2 p3 : Option Addr} {c c2 c3 : Nat} {q : Nat → Prop}
end
end Go.Proofs.Ytnpkihioklpnmaa

/- database.View: the topology around a router. -/
namespace Go.Proofs.Ytnpkihioklpnmaa
open Go.RowKit Bs
set_option maxRecDepth 100000 in
set_option maxHeartbeats 12800000 in
theorem dview_any (l : List Ad) (r : Int) (p : Option Addr) (c : Nat) (q : Nat → Prop) (w : World) (hR : RdA w q (.slice p l.length c) l) (hm : l.length ≤ 9223372036854775807) :
    Calls Try.prog 34 #[.agg #[.slice p l.length c], .int .i64 r] w fun e w' => VwPost l r w e w' := by
  obtain ⟨ir, hir, hr0, hr1, hr2⟩ := info_parts info_rtV
  obtain ⟨il, hil, hl0, hl1, hl2⟩ := info_parts info_lkV
  obtain ⟨k1, k2, k3, -⟩ := two_boxes w #[.slice p l.length c] #[.slice none 0 0, .slice none 0 0] 25 59
  have H0 := Lib.hid (And.intro k1 (And.intro k2 (And.intro k3 ((RdA.old hR).keep k3))))
  clear k1 k2 k3 hR
  go_enter Try.func34, Try.ntmps34
  go_upto_region 1 with fail
  generalize World.alloc (w.alloc _) _ = wa at *
  have c0 : wa.cell? ⟨w.heap.size, 0, none⟩ = some (.slice p l.length c) := cell_of_row _ _ _ _ _ _ H0.out.1
  go_wp2_with fail
  refine (dvalid_any l p c _ wa H0.out.2.2.2 hm).mono ?_
  rintro e w1 ⟨rfl, hg⟩
  have H1 := Lib.hid (And.intro (kept_row H0.out.1 hg (by simp)) (And.intro (kept_row H0.out.2.1 hg (by simp)) (And.intro (grown_trans H0.out.2.2.1 hg) (H0.out.2.2.2.keep hg))))
  clear hg H0 c0
  obtain ⟨ov, hov⟩ : ∃ ov, okD l = ov := ⟨_, rfl⟩
  rw [hov]
  cases ov with
  | false =>
    have HV : Hid (viewV l r = ([], [])) := Lib.hid (by unfold viewV; rw [if_neg (by rw [hov]; decide)])
    clear hov
    have z0 := cell_of_row _ _ 0 _ _ _ H1.out.2.1
    have z1 := cell_of_row _ _ 1 _ _ _ H1.out.2.1
    have f0 := frozen_of_row _ _ 0 _ _ H1.out.2.1
    have f1 := frozen_of_row _ _ 1 _ _ H1.out.2.1
    obtain ⟨t1, t2⟩ := store2c (.slice none 0 0) (.slice none 0 0) H1.out.2.1
    have HT := Lib.hid (And.intro t1 (grown_new H1.out.2.2.1 t2 (by omega)))
    clear t1 t2 H1
    go_wp2_with fail
    refine bodyPost_ret (res_topoV rfl _ _ (w.heap.size + 1) _ _ rfl HT.out.1) rfl ?_
    exact vw_no HV.out HT.out.2
  | true =>
  have HOV : Hid (OkD l) := Lib.hid (chk_OkD (by unfold okD at hov; simpa using hov))
  have HVW : Hid (viewV l r = if chk (vwR l (reS l r)) (vwL l (reS l r)) = 0 then (vwR l (reS l r), vwL l (reS l r)) else ([], [])) := Lib.hid (by unfold viewV; rw [if_pos hov])
  have HP := Lib.hid HOV.out.pair
  have hll := HOV.out.len
  have HRNG : Hid (∀ A ∈ l, (1 ≤ A.r ∧ A.r ≤ 99) ∧ A.L.length ≤ 23) := Lib.hid (fun A hA => ⟨(VA.of (HOV.out.v A hA)).r, (VA.of (HOV.out.v A hA)).ll⟩)
  clear hov
  have c0 : w1.cell? ⟨w.heap.size, 0, none⟩ = some (.slice p l.length c) := cell_of_row _ _ _ _ _ _ H1.out.1
  go_wp2_with fail
  refine (dreached_any l r p c _ w1 H1.out.2.2.2 HOV.out).mono ?_
  rintro e w2 ⟨vm, rfl, hmv, hg⟩
  obtain ⟨S, hS⟩ : ∃ S, reS l r = S := ⟨_, rfl⟩
  rw [hS] at hmv HVW
  have g2 := grown_trans H1.out.2.2.1 hg
  have ga := World.grownBy_alloc w2 (.cells #[.slice none 0 0, .slice none 0 0] 59) none
  have hsz2 : w.heap.size + 1 < w2.heap.size := World.lt_of_row' (kept_row H1.out.2.1 hg (by simp))
  have hsz1 := H1.out.2.2.1.size
  have K0 : Hid (VS w l p c w2.heap.size S vm (.slice none 0 0) (.slice none 0 0) (.slice none 0 0) (.slice none 0 0) [] [] (w2.alloc (.cells #[.slice none 0 0, .slice none 0 0] 59))) := Lib.hid
    ⟨(H1.out.2.2.2.keep hg).keep ga, kept_row (kept_row H1.out.1 hg (by simp)) ga (by simp), kept_row (kept_row H1.out.2.1 hg (by simp)) ga (by simp), heap_alloc_new w2 _, World.ownsRow_nil _ _ _ _, World.ownsRow_nil _ _ _ _, (fun g h => by cases h),
      (hmv.mono (q' := fun b => w.heap.size ≤ b ∧ b < w2.heap.size) (fun b hb hlt => ⟨by omega, hlt⟩)).keep ga, hsz2, World.lt_of_row' (heap_alloc_new w2 _), grown_trans g2 ga⟩
  clear H1 c0 hS hmv hg g2 ga hsz1 hsz2
  go_upto_region 5 with fail
  generalize w2.alloc _ = w3 at *
  generalize w2.heap.size = B at *
  have c0 : w3.cell? ⟨w.heap.size, 0, none⟩ = some (.slice p l.length c) := cell_of_row _ _ _ _ _ _ K0.out.d
  go_wp2_with fail
  clear c0
  go_loopw [22] (fun a wr => ∃ (k : Nat) (vR vL : Value) (R : List Rt) (L : List Lk), k ≤ l.length ∧ a = .int .i64 (k : Int) ∧ R.length ≤ k ∧ L.length ≤ 23 * k ∧ Hid (((l.take k).filter (inV S)).map toR = R ∧ ((l.take k).filter (inV S)).flatMap (vL1 l) = L) ∧ Hid (VS w l p c B S vm vR vL vR vL R L wr)) (fun a _ => l.length - (RowKit.intOf a).toNat)
  case atStart => exact ⟨0, _, _, [], [], Nat.zero_le _, rfl, Nat.le_refl _, Nat.zero_le _, Lib.hid ⟨rfl, rfl⟩, K0⟩
  case round =>
  obtain ⟨k, vR, vL, R, L, hk, rfl, hRk, hLk, HI, K⟩ := hrel
  clear K0
  by_cases hlt : k < l.length
  · obtain ⟨-, b1, off1, rfl, -, -⟩ := rda_cells K.out.db (by omega)
    obtain ⟨A, hA⟩ : ∃ A, l[k]? = some A := ⟨_, List.getElem?_eq_getElem hlt⟩
    obtain ⟨a0, a1, a2, a3, a4⟩ := rda_at K.out.db hA
    have HAM := Lib.hid (List.mem_of_getElem? hA)
    have HST := Lib.hid (vw_step (S := S) hA)
    have hAI : I64 A.r := by have := (HRNG.out A HAM.out).1; unfold I64; omega
    have hAL := (HRNG.out A HAM.out).2
    have gal := World.grownBy_alloc wr (.cells #[.int .i64 A.r, .int .i64 A.q, .bool A.cp, .slice A.pL A.L.length A.cL, .slice A.pC A.C.length A.cC] 38) none
    have KB : Hid (VB w l (some ⟨b1, off1, none⟩) c B S vm vR vL vR vL R L A wr.heap.size (wr.alloc (.cells #[.int .i64 A.r, .int .i64 A.q, .bool A.cp, .slice A.pL A.L.length A.cL, .slice A.pC A.C.length A.cC] 38))) := Lib.hid
      ⟨K.out.keep gal, heap_alloc_new wr _, fun e => by have := (K.out.oR.lt _ e).2; omega, fun e => by have := (K.out.oL.lt _ e).2; omega, K.out.sz, World.lt_of_row' (heap_alloc_new wr _)⟩
    clear hA gal K
    go_upto_region 8 with fail
    clear a0 a1 a2 a3 a4
    generalize wr.alloc _ = wy at *
    generalize wr.heap.size = X at *
    obtain ⟨d0, d1, d2, d3, d4⟩ := row5 KB.out.a
    have hlook := KB.out.s.mp.look hAI
    obtain ⟨bs, hbs⟩ : ∃ bs, inS S A.r = bs := ⟨_, rfl⟩
    rw [hbs] at hlook
    cases bs with
    | false =>
      have HN : Hid (((l.take (k + 1)).filter (inV S)).map toR = R ∧ ((l.take (k + 1)).filter (inV S)).flatMap (vL1 l) = L) := Lib.hid (by rw [HST.out.1, HST.out.2, hbs, HI.out.1, HI.out.2]; simp)
      have KN := Lib.hid KB.out.s
      clear hbs KB
      go_wp2_with fail
      exact ⟨⟨k + 1, vR, vL, R, L, by omega, congrArg _ (by omega), by omega, by omega, HN, KN⟩, by simp only [RowKit.intOf]; omega⟩
    | true =>
      have HN : Hid (((l.take (k + 1)).filter (inV S)).map toR = R ++ [toR A] ∧ ((l.take (k + 1)).filter (inV S)).flatMap (vL1 l) = L ++ vL1 l A) := Lib.hid (by rw [HST.out.1, HST.out.2, hbs, HI.out.1, HI.out.2]; simp)
      clear hbs HST HI
      go_upto_region 9 with fail
      clear hlook
      obtain ⟨b0, b2⟩ := row_cells KB.out.s.t
      go_wp2_with (at_builtin; refine hold_on ?_)
      refine Lib.hid ?_
      have gr2 := World.grownBy_alloc wy (.cells #[.int .i64 A.r, .bool A.cp] 69) none
      have KC := Lib.hid (KB.out.keep gr2)
      clear gr2
      refine wpList_append_own_at _ rfl _ _ 56 rfl (B + 1) 69 ir (.agg #[.int .i64 0, .bool false]) 2 16 Try.underlying56 hir hr0 hr1 hr2 rfl (by decide) vR R.length (R.flatMap rtC) (by rfl) KC.out.s.oR ⟨wy.heap.size, 0, none⟩ 1 1 (rtC (toR A)) (by rfl) rfl (cells2V _ _ _ _) (rtV_one _) (by unfold maxLen; omega) (by omega) (by have := KC.out.s.sz; omega) ?_
      intro v' w9 hown hg _ hat
      have hfl : R.flatMap rtC ++ rtC (toR A) = (R ++ [toR A]).flatMap rtC := by rw [List.flatMap_append, List.flatMap_cons, List.flatMap_nil, List.append_nil]
      have hRl : (R ++ [toR A]).length = R.length + 1 := by rw [List.length_append]; rfl
      obtain ⟨p5, c5, rfl, -, -⟩ := own_shape hown
      have hown2 : w9.ownsRow (B + 1) 69 2 (.slice p5 (R.length + 1) c5) (R ++ [toR A]).length ((R ++ [toR A]).flatMap rtC) := by rw [hRl, ← hfl]; exact hown
      have K9 := Lib.hid (KC.out.addR hown2 hg hat)
      clear hown hown2 hRl hg hat hfl KB KC b0 b2 d0 d1 d2 d3 d4
      simp only [Act.put, List.setIfInBounds_toArray, List.set_cons_zero, List.set_cons_succ]
      obtain ⟨b0, b2⟩ := row_cells K9.out.s.t
      have f0 := frozen_of_row _ _ 0 _ _ K9.out.s.t
      have K10 := Lib.hid K9.out.putR
      go_upto_region 10 with fail
      clear b0 b2 f0 K9
      generalize w9.setCell _ _ = w10 at *
      obtain ⟨d0, d1, d2, d3, d4⟩ := row5 K10.out.a
      have c0 : w10.cell? ⟨w.heap.size, 0, none⟩ = some (.slice (some ⟨b1, off1, none⟩) l.length c) := cell_of_row _ _ _ _ _ _ K10.out.s.d
      go_wp2_with fail
      refine (dlinked_any l A (some ⟨b1, off1, none⟩) c _ w10 K10.out.s.db (K10.out.s.db.ok A HAM.out) HP.out (by omega) (by omega)).mono ?_
      rintro e w5 ⟨pm, cm, rfl, hM, hMl, hg⟩
      have hlen := lnk_len l A
      have HVL : Hid (vL1 l A = ((lnk l A).filter (ltA A)).map (btw A)) := Lib.hid rfl
      obtain ⟨M, hMM⟩ : ∃ M, lnk l A = M := ⟨_, rfl⟩
      rw [hMM] at hM hMl hlen HVL ⊢
      have HMM := Lib.hid hMM
      have C0 : Hid (VI w l (some ⟨b1, off1, none⟩) c B S vm (.slice p5 (R.length + 1) c5) vL (.slice p5 (R.length + 1) c5) vL (R ++ [toR A]) L A X pm cm M w10.heap.size w5.heap.size w5) := Lib.hid ⟨K10.out.keep hg, hM, fun g h => .inl (K10.out.s.oL.lt g h).2, K10.out.s.sz, Nat.le_refl _⟩
      clear hM hg hMM d0 d1 d2 d3 d4 c0 K10
      generalize w10.heap.size = h7 at *
      generalize w5.heap.size = h8 at *
      have hMx : M.length ≤ 23 := by omega
      clear hlen
      go_wp2_with fail
      go_loopw [46] (fun a wq => ∃ (j : Nat) (vL2 : Value) (L2 : List Lk), j ≤ M.length ∧ a = .int .i64 (j : Int) ∧ L2.length ≤ L.length + j ∧ Hid (L ++ ((M.take j).filter (ltA A)).map (btw A) = L2) ∧ Hid (VI w l (some ⟨b1, off1, none⟩) c B S vm (.slice p5 (R.length + 1) c5) vL2 (.slice p5 (R.length + 1) c5) vL2 (R ++ [toR A]) L2 A X pm cm M h7 h8 wq)) (fun a _ => M.length - (RowKit.intOf a).toNat)
      case atStart => exact ⟨0, vL, L, Nat.zero_le _, rfl, Nat.le_refl _, Lib.hid (by simp), C0⟩
      case round =>
      obtain ⟨j, vL2, L2, hj, rfl, hL2, HL, C⟩ := hrel
      clear C0
      by_cases hlt2 : j < M.length
      · obtain ⟨-, bm, offm, rfl, -, -⟩ := RdF.cells (f := adL) (k := 5) adL_len (by decide) C.out.m (by omega)
        obtain ⟨x, hx⟩ : ∃ x, M[j]? = some x := ⟨_, List.getElem?_eq_getElem hlt2⟩
        have hcx : wr.cell? ⟨bm, offm + j * 5, none⟩ = some (.int .i64 x.r) ∧ wr.cell? ⟨bm, offm + j * 5 + 1, none⟩ = some (.int .i64 x.q) ∧ wr.cell? ⟨bm, offm + j * 5 + 2, none⟩ = some (.bool x.cp) ∧ wr.cell? ⟨bm, offm + j * 5 + 3, none⟩ = some (.slice x.pL x.L.length x.cL) ∧ wr.cell? ⟨bm, offm + j * 5 + 4, none⟩ = some (.slice x.pC x.C.length x.cC) := by
          obtain ⟨-, b', o', e, -, hc⟩ := RdF.cells (f := adL) (k := 5) adL_len (by decide) C.out.m (by omega)
          injection e with e
          injection e with e1 e2
          subst e1
          subst e2
          exact ⟨hc j x hx 0 _ rfl, hc j x hx 1 _ rfl, hc j x hx 2 _ rfl, hc j x hx 3 _ rfl, hc j x hx 4 _ rfl⟩
        obtain ⟨a0, a1, a2, a3, a4⟩ := hcx
        have hxm : x ∈ l := by
          have := List.mem_of_getElem? hx
          rw [← HMM.out] at this
          exact lnk_mem this
        have HXM := Lib.hid hxm
        have HFS := Lib.hid (flt_step (A := A) hx)
        have gal := World.grownBy_alloc wr (.cells #[.int .i64 x.r, .int .i64 x.q, .bool x.cp, .slice x.pL x.L.length x.cL, .slice x.pC x.C.length x.cC] 38) none
        have C1 : Hid (VI w l (some ⟨b1, off1, none⟩) c B S vm (.slice p5 (R.length + 1) c5) vL2 (.slice p5 (R.length + 1) c5) vL2 (R ++ [toR A]) L2 A X (some ⟨bm, offm, none⟩) cm M h7 h8 (wr.alloc (.cells #[.int .i64 x.r, .int .i64 x.q, .bool x.cp, .slice x.pL x.L.length x.cL, .slice x.pC x.C.length x.cC] 38)) ∧ (wr.alloc (.cells #[.int .i64 x.r, .int .i64 x.q, .bool x.cp, .slice x.pL x.L.length x.cL, .slice x.pC x.C.length x.cC] 38)).heap[wr.heap.size]? = some (.cells #[.int .i64 x.r, .int .i64 x.q, .bool x.cp, .slice x.pL x.L.length x.cL, .slice x.pC x.C.length x.cC] 38 (0, 0))) := Lib.hid ⟨C.out.keep gal, heap_alloc_new wr _⟩
        clear hx hxm gal C
        go_upto_region 13 with fail
        clear a0 a1 a2 a3 a4
        generalize wr.alloc _ = wy at *
        generalize wr.heap.size = Y at *
        obtain ⟨d0, d1, d2, d3, d4⟩ := row5 C1.out.1.b.a
        obtain ⟨e0, e1, e2, e3, e4⟩ := row5 C1.out.2
        by_cases hlr : A.r < x.r
        · have HF : Hid (L ++ ((M.take (j + 1)).filter (ltA A)).map (btw A) = L2 ++ [btw A x]) := Lib.hid (by rw [HFS.out, if_pos hlr, ← List.append_assoc, HL.out])
          clear HFS HL
          go_upto_region 14 with fail
          have HD := Lib.hid (And.intro (C1.out.1.keep (grown_drew (grown_refl wy none))) (kept_row C1.out.2 (grown_drew (grown_refl wy none)) (by simp)))
          clear C1 d0 d1 d2 d3 d4 e0 e1 e2 e3 e4
          refine region_until (S := fun w' => Hid (VI w l (some ⟨b1, off1, none⟩) c B S vm (.slice p5 (R.length + 1) c5) vL2 (.slice p5 (R.length + 1) c5) vL2 (R ++ [toR A]) L2 A X (some ⟨bm, offm, none⟩) cm M h7 h8 w' ∧ w'.heap[Y]? = some (.cells #[.int .i64 x.r, .int .i64 x.q, .bool x.cp, .slice x.pL x.L.length x.cL, .slice x.pC x.C.length x.cC] 38 (0, 0)))) (fun j => j == 6 || j == 7 || j == 8) (by kernel_rfl) (HD) (fun hHeld => ?_)
          refine anyU_take (i := 0) (oi := { dst := some 55, op := Op.fieldAddr 59 (Operand.tmp 6) 1, type := 0, pos := "database.go:76", after := #[], guard := none }) (v := ?_) rfl (by kernel_rfl) (by kernel_rfl) (by kernel_rfl) (by kernel_rfl) (by kernel_rfl) (fun _ _ _ h => h) (Or.inl ⟨by rfl, ?_⟩) hHeld ?_
          rotate_left 1
          · intro u hSu
            obtain ⟨b0, b2⟩ := row_cells hSu.out.1.b.s.t
            obtain ⟨d0, d1, d2, d3, d4⟩ := row5 hSu.out.1.b.a
            obtain ⟨e0, e1, e2, e3, e4⟩ := row5 hSu.out.2
            go_simp
            first | done | with_reducible rfl
          (try simp only [Act.put, List.setIfInBounds_toArray, List.set_cons_zero, List.set_cons_succ])
          refine anyU_take (i := 1) (oi := { dst := some 56, op := Op.load 57 (Operand.tmp 55), type := 57, pos := "database.go:76", after := #[{ on := 0, ground := Ground.data }], guard := none }) (v := ?_) rfl (by kernel_rfl) (by kernel_rfl) (by kernel_rfl) (by kernel_rfl) (by kernel_rfl) (fun _ _ _ h => h) (Or.inl ⟨by rfl, ?_⟩) hHeld ?_
          rotate_left 1
          · intro u hSu
            obtain ⟨b0, b2⟩ := row_cells hSu.out.1.b.s.t
            obtain ⟨d0, d1, d2, d3, d4⟩ := row5 hSu.out.1.b.a
            obtain ⟨e0, e1, e2, e3, e4⟩ := row5 hSu.out.2
            go_simp
            first | done | with_reducible rfl
          (try simp only [Act.put, List.setIfInBounds_toArray, List.set_cons_zero, List.set_cons_succ])
          refine anyU_take (i := 2) (oi := { dst := some 57, op := Op.load 38 (Operand.tmp 8), type := 38, pos := "database.go:76", after := #[], guard := none }) (v := ?_) rfl (by kernel_rfl) (by kernel_rfl) (by kernel_rfl) (by kernel_rfl) (by kernel_rfl) (fun _ _ _ h => h) (Or.inl ⟨by rfl, ?_⟩) hHeld ?_
          rotate_left 1
          · intro u hSu
            obtain ⟨b0, b2⟩ := row_cells hSu.out.1.b.s.t
            obtain ⟨d0, d1, d2, d3, d4⟩ := row5 hSu.out.1.b.a
            obtain ⟨e0, e1, e2, e3, e4⟩ := row5 hSu.out.2
            go_simp
            first | done | with_reducible rfl
          (try simp only [Act.put, List.setIfInBounds_toArray, List.set_cons_zero, List.set_cons_succ])
          refine anyU_take (i := 3) (oi := { dst := some 58, op := Op.load 38 (Operand.tmp 10), type := 38, pos := "database.go:76", after := #[], guard := none }) (v := ?_) rfl (by kernel_rfl) (by kernel_rfl) (by kernel_rfl) (by kernel_rfl) (by kernel_rfl) (fun _ _ _ h => h) (Or.inl ⟨by rfl, ?_⟩) hHeld ?_
          rotate_left 1
          · intro u hSu
            obtain ⟨b0, b2⟩ := row_cells hSu.out.1.b.s.t
            obtain ⟨d0, d1, d2, d3, d4⟩ := row5 hSu.out.1.b.a
            obtain ⟨e0, e1, e2, e3, e4⟩ := row5 hSu.out.2
            go_simp
            first | done | with_reducible rfl
          (try simp only [Act.put, List.setIfInBounds_toArray, List.set_cons_zero, List.set_cons_succ])
          refine anyU_ready (rs := [4]) (by kernel_rfl) (by simp) ?_
          refine EachU.cons (o := { dst := some 59, op := Op.call { callee := Callee.value (Operand.func 67), args := #[Operand.tmp 57, Operand.tmp 58], argTypes := #[38, 38] }, type := 71, pos := "database.go:76", after := #[{ on := 2, ground := Ground.data }, { on := 3, ground := Ground.data }], guard := none }) rfl (fun Kz hK => ?_) EachU.nil
          go_simp
          go_at_call 67
          refine (dbtw_any A x _ _ _ (hHeld.out.1.b.s.db.ok A HAM.out) (hHeld.out.1.b.s.db.ok x HXM.out)).mono ?_
          rintro e w5 ⟨rfl, hg⟩
          have hHn := Lib.hid (And.intro (hHeld.out.1.keep hg) (kept_row hHeld.out.2 hg (by simp)))
          clear hg
          refine hK.out _ _ (fun _ => hHn) (fun hH2 => ?_)
          clear hK Kz hHeld
          have hHeld := hH2 rfl
          clear hH2
          (try simp only [Act.put, List.setIfInBounds_toArray, List.set_cons_zero, List.set_cons_succ])
          refine anyU_ready (rs := [5]) (by kernel_rfl) (by simp) ?_
          refine EachU.cons (o := { dst := some 60, op := Op.buildSlice 57 1 #[(0, Operand.tmp 59)], type := 57, pos := "database.go:76", after := #[{ on := 4, ground := Ground.data }], guard := none }) rfl (fun Kz hK => ?_) EachU.nil
          go_simp
          have hHn := Lib.hid (And.intro (hHeld.out.1.keep (World.grownBy_alloc _ (.cells #[.int .i64 (btw A x).a, .int .i64 (btw A x).b, .int .i64 (btw A x).ca, .int .i64 (btw A x).cb, .int .i64 (btw A x).cp] 71) none)) (kept_row hHeld.out.2 (World.grownBy_alloc _ (.cells #[.int .i64 (btw A x).a, .int .i64 (btw A x).b, .int .i64 (btw A x).ca, .int .i64 (btw A x).cb, .int .i64 (btw A x).cp] 71) none) (by simp)))
          refine hK.out _ _ (fun _ => hHn) (fun hH2 => ?_)
          clear hK Kz hHeld
          have hHeld := hH2 rfl
          clear hH2
          (try simp only [Act.put, List.setIfInBounds_toArray, List.set_cons_zero, List.set_cons_succ])
          refine anyU_ready (rs := [6]) (by kernel_rfl) (by simp) ?_
          refine EachU.cons (o := { dst := some 61, op := Op.call { callee := Callee.builtin Builtin.append, args := #[Operand.tmp 56, Operand.tmp 60], argTypes := #[57, 57] }, type := 57, pos := "database.go:76", after := #[{ on := 1, ground := Ground.data }, { on := 5, ground := Ground.data }, { on := 4, ground := Ground.chain }], guard := none }) rfl (fun Kz hK => ?_) EachU.nil
          refine (astep_app lkC 5 40 (by decide) (fun _ => rfl) lkV_one 71 57 il _ Try.underlying57 hil hl0 hl1 hl2 rfl (by decide) (by rfl) _ _ (by rfl) (B + 1) vL2 L2 (by rfl) hHeld.out.1.b.s.oL (some ⟨_, 0, none⟩) 1 1 [btw A x] (by rfl) rfl (by simp) (fun _ => True) (rdf_one _ trivial (cells5V _ _ _ _ _ _ _) 1) (by omega) (by simp; omega) (by have := hHeld.out.1.b.s.sz; omega) ?_)
          intro p4 c4 w8 hown hg hat
          have HD5 := Lib.hid (hHeld.out.1.addL (L2 := L2 ++ [btw A x]) hown hg hat)
          obtain ⟨b0, b2⟩ := row_cells HD5.out.b.s.t
          have fB := frozen_of_row _ _ 1 _ _ HD5.out.b.s.t
          clear hown hg hat
          refine hK.out _ _ (fun h => by cases h) (fun _ => ?_)
          clear hK Kz
          (try simp only [Act.put, List.setIfInBounds_toArray, List.set_cons_zero, List.set_cons_succ])
          refine anyU_ready (rs := [7]) (by kernel_rfl) (by simp) ?_
          refine EachU.cons (o := { dst := some 62, op := Op.fieldAddr 59 (Operand.tmp 6) 1, type := 0, pos := "database.go:76", after := #[{ on := 0, ground := Ground.phase }, { on := 1, ground := Ground.phase }, { on := 2, ground := Ground.phase }, { on := 3, ground := Ground.phase }, { on := 4, ground := Ground.phase }, { on := 5, ground := Ground.phase }, { on := 6, ground := Ground.phase }], guard := none }) rfl (fun Kz hK => ?_) EachU.nil
          go_simp
          refine hK.out _ _ (fun h => by cases h) (fun _ => ?_)
          clear hK Kz
          (try simp only [Act.put, List.setIfInBounds_toArray, List.set_cons_zero, List.set_cons_succ])
          refine anyU_ready (rs := [8]) (by kernel_rfl) (by simp) ?_
          refine EachU.cons (o := { dst := none, op := Op.store 57 (Operand.tmp 62) (Operand.tmp 61), type := 0, pos := "database.go:76", after := #[{ on := 7, ground := Ground.data }, { on := 6, ground := Ground.data }, { on := 6, ground := Ground.chain }, { on := 0, ground := Ground.phase }, { on := 1, ground := Ground.phase }, { on := 2, ground := Ground.phase }, { on := 3, ground := Ground.phase }, { on := 4, ground := Ground.phase }, { on := 5, ground := Ground.phase }, { on := 6, ground := Ground.phase }], guard := none }) rfl (fun Kz hK => ?_) EachU.nil
          go_simp
          refine hK.out _ _ (fun h => by cases h) (fun _ => ?_)
          clear hK Kz
          (try simp only [Act.put, List.setIfInBounds_toArray, List.set_cons_zero, List.set_cons_succ])
          refine anyU_done (by kernel_rfl) ?_ _
          have HN2 := Lib.hid HD5.out.putL
          clear HD5 HD b0 b2 fB
          go_wp2_with fail
          exact ⟨⟨j + 1, _, L2 ++ [btw A x], by omega, congrArg _ (by omega), by rw [List.length_append]; simp; omega, HF, HN2⟩, by simp only [RowKit.intOf]; omega⟩
        · have HF : Hid (L ++ ((M.take (j + 1)).filter (ltA A)).map (btw A) = L2) := Lib.hid (by rw [HFS.out, if_neg hlr, List.append_nil, HL.out])
          have C2 := Lib.hid C1.out.1
          clear HFS HL C1
          go_wp2_with fail
          exact ⟨⟨j + 1, vL2, L2, by omega, congrArg _ (by omega), by omega, HF, C2⟩, by simp only [RowKit.intOf]; omega⟩
      · obtain rfl : j = M.length := by omega
        have hL9 := HL.out
        rw [List.take_length, ← HVL.out] at hL9
        have KN := Lib.hid C.out.b.s
        rw [hL9] at HN
        have hRl : (R ++ [toR A]).length = R.length + 1 := by rw [List.length_append]; rfl
        clear C HL hL9
        go_wp2_with fail
        exact ⟨⟨k + 1, .slice p5 (R.length + 1) c5, vL2, R ++ [toR A], L2, by omega, congrArg _ (by omega), by omega, by omega, HN, KN⟩, by simp only [RowKit.intOf]; omega⟩
  · obtain rfl : k = l.length := by omega
    have hI := HI.out
    rw [List.take_length] at hI
    have hI1 : vwR l S = R := hI.1
    have hI2 : vwL l S = L := hI.2
    rw [hI1, hI2] at HVW
    have hTK := K.out
    obtain ⟨pR, cR, rfl, n1, m1⟩ := own_shape K.out.oR
    obtain ⟨pL, cL, rfl, n2, m2⟩ := own_shape K.out.oL
    have hlo := K.out.lo
    have HTG : Hid (TgOk wr (fun b => B + 1 ≤ b ∧ b < wr.heap.size) ⟨R, L, pR, cR, pL, cL⟩) := Lib.hid ⟨rdf_of_own2 K.out.oR, rdf_of_own2 K.out.oL, ⟨n1, m1⟩, ⟨n2, m2⟩⟩
    clear hI hI1 hI2 hTK n1 m1 n2 m2 HI
    obtain ⟨b0, b2⟩ := row_cells K.out.t
    go_wp2_with fail
    refine (tcheck_any ⟨R, L, pR, cR, pL, cL⟩ _ wr HTG.out).mono ?_
    rintro e w5 ⟨rfl, hg⟩
    have HT5 := Lib.hid (HTG.out.keep hg)
    have K5 := Lib.hid (K.out.keep hg)
    clear hg K HTG b0 b2
    simp only
    obtain ⟨z, hz⟩ : ∃ z, chk R L = z := ⟨_, rfl⟩
    rw [hz] at HVW ⊢
    clear hz
    obtain ⟨b0, b2⟩ := row_cells K5.out.t
    have z0 := cell_of_row _ _ 0 _ _ _ K5.out.z
    have z1 := cell_of_row _ _ 1 _ _ _ K5.out.z
    have f0 := frozen_of_row _ _ 0 _ _ K5.out.z
    have f1 := frozen_of_row _ _ 1 _ _ K5.out.z
    by_cases hz0 : z = 0
    · have HV : Hid ((R, L) = viewV l r) := Lib.hid (by rw [HVW.out, if_pos hz0])
      obtain ⟨t1, t2⟩ := store2c (.slice pR R.length cR) (.slice pL L.length cL) K5.out.z
      have HT := Lib.hid (And.intro t1 (And.intro (grown_new K5.out.gr t2 (by omega)) (HT5.out.grown t2 (fun b hb e => by have := Option.some.inj e; omega))))
      clear t1 t2 K5 HT5
      subst hz0
      go_wp2_with fail
      refine bodyPost_ret (res_topoV rfl _ _ (w.heap.size + 1) _ _ rfl HT.out.1) rfl ?_
      exact ⟨⟨R, L, pR, cR, pL, cL⟩, rfl, HV.out, HT.out.2.2.mono (fun b hb => by omega), HT.out.2.1⟩
    · have HV : Hid (viewV l r = ([], [])) := Lib.hid (by rw [HVW.out, if_neg hz0])
      obtain ⟨t1, t2⟩ := store2c (.slice none 0 0) (.slice none 0 0) K5.out.z
      have HT := Lib.hid (And.intro t1 (grown_new K5.out.gr t2 (by omega)))
      clear t1 t2 K5 HT5
      go_wp2_with fail
      refine bodyPost_ret (res_topoV rfl _ _ (w.heap.size + 1) _ _ rfl HT.out.1) rfl ?_
      exact vw_no HV.out HT.out.2
end Go.Proofs.Ytnpkihioklpnmaa

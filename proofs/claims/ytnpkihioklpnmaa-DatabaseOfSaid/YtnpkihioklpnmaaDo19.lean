/- Parts of the proof, packed: DbAwk, DbRs, DbMgM, DbAgM, ToRcp, DbOfM, DbClm, DbRVw, DbCkM, DbRCl, ToSameT, DbAgLaw. -/
import Derived.Test.YtnpkihioklpnmaaDo18
import Derived.Test.YtnpkihioklpnmaaDo16
import Derived.Test.YtnpkihioklpnmaaDo9
import Derived.Test.YtnpkihioklpnmaaDo6
import Derived.Test.YtnpkihioklpnmaaDo10
import Derived.BigQuiet
import Derived.Test.YtnpkihioklpnmaaDo4
import Derived.Test.YtnpkihioklpnmaaDo3
import Derived.Test.YtnpkihioklpnmaaDo2
import Derived.Deep.CutBlock
import Derived.Deep.CutRange
import Derived.Test.YtnpkihioklpnmaaDo5
import Derived.Test.YtnpkihioklpnmaaDo7
/- The laws of databases: the example. -/
namespace Go.Proofs.Ytnpkihioklpnmaa
open Go.RowKit Bs
set_option maxRecDepth 100000 in
theorem rdf_rowD {w : World} {g : Nat} {t : TypeId} {n c : Nat} {xs : List Value} (h : w.heap[g]? = some (.cells xs.toArray t (0, 0))) : RdF w (· = g) (.slice (some ⟨g, 0, none⟩) n c) n xs :=
  ⟨some ⟨g, 0, none⟩, c, rfl, fun _ => ⟨g, 0, rfl, rfl, fun i x hi => by
    rw [cell_of_row _ _ _ _ _ _ h, Nat.zero_add]
    simpa using hi⟩⟩
def xD (p1 p2 : Option Addr) : List Ad := [⟨1, 1, false, [⟨2, 1, 0⟩, ⟨3, 1, 0⟩], [], p1, 2, none, 0⟩, ⟨2, 1, false, [⟨1, 4, 0⟩], [], p2, 1, none, 0⟩, ⟨3, 1, false, [], [], none, 0, none, 0⟩]
set_option maxRecDepth 100000 in
theorem xD_chk (p1 p2 : Option Addr) : chkD (xD p1 p2) = 0 := by kernel_rfl
set_option maxRecDepth 100000 in
theorem xD_view (p1 p2 : Option Addr) : viewV (xD p1 p2) 1 = ([⟨1, false⟩, ⟨2, false⟩], [⟨1, 2, 1, 4, 0⟩]) := by kernel_rfl
/-- The example in memory. -/
structure XM (w : World) (wb : World) : Prop where
  box : wb.heap[w.heap.size + 1 + 1 + 1]? = some (.cells #[.slice (some ⟨w.heap.size + 1 + 1, 0, none⟩) 3 3] 25 (0, 0))
  r : RdA wb (fun _ => True) (.slice (some ⟨w.heap.size + 1 + 1, 0, none⟩) 3 3) (xD (some ⟨w.heap.size, 0, none⟩) (some ⟨w.heap.size + 1, 0, none⟩))
  gr : w.grownBy wb none
set_option maxRecDepth 100000 in
theorem XM.keep {w wb w1 : World} (h : XM w wb) (g : wb.grownBy w1 none) : XM w w1 := ⟨kept_row h.box g (by simp), h.r.keep g, grown_trans h.gr g⟩
set_option maxRecDepth 100000 in
theorem xm_start (w : World) : XM w ((((w.alloc (.cells #[.int .i64 2, .int .i64 1, .int .i64 0, .int .i64 3, .int .i64 1, .int .i64 0] 73)).alloc (.cells #[.int .i64 1, .int .i64 4, .int .i64 0] 73)).alloc (.cells #[.int .i64 1, .int .i64 1, .bool false, .slice (some ⟨w.heap.size, 0, none⟩) 2 2, .slice none 0 0, .int .i64 2, .int .i64 1, .bool false, .slice (some ⟨w.heap.size + 1, 0, none⟩) 1 1, .slice none 0 0, .int .i64 3, .int .i64 1, .bool false, .slice none 0 0, .slice none 0 0] 38)).alloc (.cells #[.slice (some ⟨w.heap.size + 1 + 1, 0, none⟩) 3 3] 25)) := by
  obtain ⟨k1, k2, k3, k4⟩ := two_boxes w #[.int .i64 2, .int .i64 1, .int .i64 0, .int .i64 3, .int .i64 1, .int .i64 0] #[.int .i64 1, .int .i64 4, .int .i64 0] 73 73
  obtain ⟨wb, hwb⟩ : ∃ wb, wb = (w.alloc (.cells #[.int .i64 2, .int .i64 1, .int .i64 0, .int .i64 3, .int .i64 1, .int .i64 0] 73)).alloc (.cells #[.int .i64 1, .int .i64 4, .int .i64 0] 73) := ⟨_, rfl⟩
  rw [← hwb] at k1 k2 k3 k4 ⊢
  obtain ⟨j1, j2, j3, j4⟩ := two_boxes wb #[.int .i64 1, .int .i64 1, .bool false, .slice (some ⟨w.heap.size, 0, none⟩) 2 2, .slice none 0 0, .int .i64 2, .int .i64 1, .bool false, .slice (some ⟨w.heap.size + 1, 0, none⟩) 1 1, .slice none 0 0, .int .i64 3, .int .i64 1, .bool false, .slice none 0 0, .slice none 0 0] #[.slice (some ⟨w.heap.size + 1 + 1, 0, none⟩) 3 3] 38 25
  rw [k4] at j1 j2
  have a1 := kept_row k1 j3 (by simp)
  have a2 := kept_row k2 j3 (by simp)
  refine ⟨j2, ⟨(rdf_rowD (xs := (xD (some ⟨w.heap.size, 0, none⟩) (some ⟨w.heap.size + 1, 0, none⟩)).flatMap adL) j1).mono (fun _ _ => trivial), fun A hA => ?_, fun A hA => ?_⟩, grown_trans k3 j3⟩
  · simp only [xD, List.mem_cons, List.not_mem_nil, or_false] at hA
    rcases hA with rfl | rfl | rfl
    · exact ⟨(rdf_rowD (xs := [(⟨2, 1, 0⟩ : T3), ⟨3, 1, 0⟩].flatMap t3C) a1).mono (fun _ _ => trivial), ⟨none, 0, rfl, fun h => absurd rfl h⟩, ⟨Nat.le_refl 2, by show (2 : Nat) ≤ _; decide⟩, ⟨Nat.le_refl 0, by show (0 : Nat) ≤ _; decide⟩⟩
    · exact ⟨(rdf_rowD (xs := [(⟨1, 4, 0⟩ : T3)].flatMap t3C) a2).mono (fun _ _ => trivial), ⟨none, 0, rfl, fun h => absurd rfl h⟩, ⟨Nat.le_refl 1, by show (1 : Nat) ≤ _; decide⟩, ⟨Nat.le_refl 0, by show (0 : Nat) ≤ _; decide⟩⟩
    · exact ⟨⟨none, 0, rfl, fun h => absurd rfl h⟩, ⟨none, 0, rfl, fun h => absurd rfl h⟩, ⟨Nat.le_refl 0, by show (0 : Nat) ≤ _; decide⟩, ⟨Nat.le_refl 0, by show (0 : Nat) ≤ _; decide⟩⟩
  · simp only [xD, List.mem_cons, List.not_mem_nil, or_false] at hA
    rcases hA with rfl | rfl | rfl
    · exact ⟨fun h => (by cases h), fun _ => rfl⟩
    · exact ⟨fun h => (by cases h), fun _ => rfl⟩
    · exact ⟨fun _ => rfl, fun _ => rfl⟩
set_option maxRecDepth 100000 in
set_option maxHeartbeats 3200000 in
theorem dawake_any (w : World) : Calls Try.prog 22 #[] w fun e w' => e = .returned (.bool true) ∧ w.grownBy w' none := by
  have H0 := Lib.hid (xm_start w)
  go_enter Try.func22, Try.ntmps22
  go_upto_region 2 with fail
  generalize World.alloc (((w.alloc _).alloc _).alloc _) _ = wb at *
  have c0 : wb.cell? ⟨w.heap.size + 1 + 1 + 1, 0, none⟩ = some (.slice (some ⟨w.heap.size + 1 + 1, 0, none⟩) 3 3) := cell_of_row _ _ _ _ _ _ H0.out.box
  go_wp2_with fail
  refine (dview_any (xD (some ⟨w.heap.size, 0, none⟩) (some ⟨w.heap.size + 1, 0, none⟩)) 1 (some ⟨w.heap.size + 1 + 1, 0, none⟩) 3 _ wb H0.out.r (show 3 ≤ 9223372036854775807 by decide)).mono ?_
  rintro e w1 ⟨⟨R, L, pR, cR, pL, cL⟩, rfl, hv, hT, hg⟩
  rw [xD_view] at hv
  injection hv with e1 e2
  simp only at e1 e2
  subst e1 e2
  have gal := World.grownBy_alloc w1 (.cells #[.slice pR 2 cR, .slice pL 1 cL] 59) none
  have H1 := Lib.hid (And.intro (H0.out.keep (grown_trans hg gal)) (And.intro (heap_alloc_new w1 (.cells #[.slice pR 2 cR, .slice pL 1 cL] 59)) (hT.keep gal)))
  clear hT hg gal H0 c0
  go_upto_region 3 with fail
  generalize w1.alloc _ = w2 at *
  have c0 : w2.cell? ⟨w.heap.size + 1 + 1 + 1, 0, none⟩ = some (.slice (some ⟨w.heap.size + 1 + 1, 0, none⟩) 3 3) := cell_of_row _ _ _ _ _ _ H1.out.1.box
  go_wp2_with fail
  refine (dcheck_any (xD (some ⟨w.heap.size, 0, none⟩) (some ⟨w.heap.size + 1, 0, none⟩)) (some ⟨w.heap.size + 1 + 1, 0, none⟩) 3 _ w2 H1.out.1.r (show 3 ≤ 9223372036854775807 by decide)).mono ?_
  rw [xD_chk]
  rintro e w3 ⟨rfl, hg⟩
  have H2 := Lib.hid (And.intro (kept_row H1.out.2.1 hg (by simp)) (And.intro (grown_trans H1.out.1.gr hg) (H1.out.2.2.keep hg)))
  clear hg H1 c0
  obtain ⟨b0, b1⟩ := row_cells H2.out.1
  obtain ⟨-, b, off, rfl, -, hc⟩ := RdF.cells (f := lkC) (k := 5) (fun _ => rfl) (by decide) H2.out.2.2.l (show 0 < 1 by decide)
  have l0 := hc 0 ⟨1, 2, 1, 4, 0⟩ rfl 0 _ rfl
  have l1 := hc 0 ⟨1, 2, 1, 4, 0⟩ rfl 1 _ rfl
  have l2 := hc 0 ⟨1, 2, 1, 4, 0⟩ rfl 2 _ rfl
  have l3 := hc 0 ⟨1, 2, 1, 4, 0⟩ rfl 3 _ rfl
  have l4 := hc 0 ⟨1, 2, 1, 4, 0⟩ rfl 4 _ rfl
  simp only [Nat.zero_mul, Nat.add_zero] at l0 l1 l2 l3 l4
  clear hc
  go_wp2_with fail
  go_ret
  exact ⟨rfl, H2.out.2.1⟩
end Go.Proofs.Ytnpkihioklpnmaa

/- The reference's Same of databases. -/
namespace Go.Proofs.Ytnpkihioklpnmaa
open Go.RowKit Bs
end Go.Proofs.Ytnpkihioklpnmaa

/- The law DatabaseMerges: the mathematics, what memory holds. -/
namespace Go.Proofs.Ytnpkihioklpnmaa
open Go.RowKit Bs
section
variable {w w' : World} {q q' : Nat → Prop} {l m a b : List Ad} {p : Option Addr} {c n : Nat}
set_option maxRecDepth 100000 in
theorem vAd_sz {A : Ad} (h : vAd A = true) : A.L.length ≤ 23 ∧ A.C.length ≤ 8 := by
  unfold vAd at h
  rw [Bool.and_eq_true, Bool.and_eq_true] at h
  obtain ⟨h1, -, h3⟩ := h
  unfold vHd at h1
  unfold vClaims at h3
  rw [Bool.and_eq_true] at h3
  exact ⟨(of_decide_eq_true h1).2.2, of_decide_eq_true h3.1⟩
end
/-! Merge is commutative, associative, idempotent. -/
set_option maxRecDepth 100000 in
theorem OkD.fz {l : List Ad} (h : OkD l) : OkD (l.map fz) := okD_OkD (by rw [okD_fz]; exact h.ok)
section
variable {a b c a' b' : List Ad}
end
end Go.Proofs.Ytnpkihioklpnmaa

/- A View is a valid connected topology, the same for all of its routers: the mathematics. -/
namespace Go.Proofs.Ytnpkihioklpnmaa
open Go.RowKit Bs
set_option maxRecDepth 100000 in
theorem add_mono : ∀ (M : List Ad) (st : List Int × List Ad) (y : Int), inS st.1 y = true → inS (M.foldl addA st).1 y = true
  | [], _, _, h => h
  | B :: M, st, y, h => by
    rw [List.foldl_cons]
    refine add_mono M _ y ?_
    unfold addA
    split
    · exact h
    · rw [inS_app, h]; rfl
set_option maxRecDepth 100000 in
theorem add_has : ∀ (M : List Ad) (st : List Int × List Ad), ∀ B ∈ M, inS (M.foldl addA st).1 B.r = true
  | C :: M, st, B, hB => by
    rw [List.foldl_cons]
    rcases List.mem_cons.1 hB with rfl | hB
    · refine add_mono M _ _ ?_
      unfold addA
      split
      · assumption
      · rw [inS_app, inS_one, decide_eq_true rfl, Bool.or_true]
    · exact add_has M _ B hB
set_option maxRecDepth 100000 in
theorem add_work : ∀ (M : List Ad) (st : List Int × List Ad), ∀ B ∈ st.2, B ∈ (M.foldl addA st).2
  | [], _, _, h => h
  | C :: M, st, B, h => by
    rw [List.foldl_cons]
    refine add_work M _ B ?_
    unfold addA
    split
    · exact h
    · exact List.mem_append_left _ h
set_option maxRecDepth 100000 in
/-- Who is new is to be looked at. -/
theorem add_new : ∀ (M : List Ad) (st : List Int × List Ad) (y : Int), inS (M.foldl addA st).1 y = true → inS st.1 y = false → ∃ B ∈ (M.foldl addA st).2, B ∈ M ∧ B.r = y
  | [], st, y, h, h2 => by rw [List.foldl_nil] at h; rw [h] at h2; cases h2
  | C :: M, st, y, h, h2 => by
    rw [List.foldl_cons] at h ⊢
    cases hc : inS (addA st C).1 y with
    | false =>
      obtain ⟨B, b1, b2, b3⟩ := add_new M _ y h hc
      exact ⟨B, b1, List.mem_cons_of_mem _ b2, b3⟩
    | true =>
      unfold addA at hc
      split at hc
      · rw [hc] at h2; cases h2
      · rename_i hn
        rw [inS_app, h2, Bool.false_or, inS_one] at hc
        refine ⟨C, add_work M _ C ?_, List.mem_cons_self, of_decide_eq_true hc⟩
        unfold addA
        rw [if_neg hn]
        exact List.mem_append_right _ (List.mem_singleton_self _)
/-- What holds while the routers are looked at: whoever has been reached is still to be looked at, or his neighbours have been reached. -/
def ClsI (l : List Ad) (S : List Int) (W : List Ad) : Prop := ∀ A ∈ l, inS S A.r = true → A ∈ W ∨ ∀ B ∈ l, lkAd A B = true → inS S B.r = true
set_option maxRecDepth 100000 in
theorem fnd_inj {l : List Ad} (h : OkD l) {A B : Ad} (hA : A ∈ l) (hB : B ∈ l) (e : A.r = B.r) : A = B := by
  have h1 := fnd_selfV h.asc A hA
  have h2 := fnd_selfV h.asc B hB
  rw [e, h2] at h1
  exact (Option.some.inj h1).symm
set_option maxRecDepth 100000 in
theorem cls_step {l : List Ad} (h : OkD l) {S : List Int} {A : Ad} {W : List Ad} (hA : A ∈ l) (hc : ClsI l S (A :: W)) : ClsI l ((lnk l A).foldl addA (S, W)).1 ((lnk l A).foldl addA (S, W)).2 := by
  intro B hB hi
  cases hs : inS S B.r with
  | false =>
    obtain ⟨C, c1, c2, c3⟩ := add_new (lnk l A) (S, W) B.r hi hs
    rw [← fnd_inj h (lnk_mem c2) hB c3]
    exact .inl c1
  | true =>
    rcases hc B hB hs with hw | hw
    · rcases List.mem_cons.1 hw with rfl | hw
      · refine .inr fun D hD hk => ?_
        refine add_has _ _ D ?_
        rw [lnk_flt h hB, List.mem_filter]
        exact ⟨hD, hk⟩
      · exact .inl (add_work _ _ B hw)
    · exact .inr fun D hD hk => add_mono _ _ _ (hw D hD hk)
set_option maxRecDepth 100000 in
theorem bfs_cls {l : List Ad} (h : OkD l) : ∀ (n : Nat) (S : List Int) (W : List Ad), unv l S + W.length ≤ n → (∀ B ∈ W, B ∈ l) → ClsI l S W → (∀ y, inS S y = true → inS (bfs l n S W) y = true) ∧ ClsI l (bfs l n S W) []
  | n, S, [], _, _, hc => by rw [bfs_nil]; exact ⟨fun _ h => h, hc⟩
  | 0, S, A :: W, hn, _, _ => by simp only [List.length_cons] at hn; omega
  | n + 1, S, A :: W, hn, hw, hc => by
    have hA := hw A List.mem_cons_self
    rw [bfs]
    have hk := add_keep h.pair (lnk l A) (fun B hB => lnk_mem hB) (S, W)
    simp only [List.length_cons] at hn
    obtain ⟨i1, i2⟩ := bfs_cls h n _ _ (by rw [hk]; show unv l S + W.length ≤ n; omega) (add_from _ (fun B hB => lnk_mem hB) _ (fun B hB => hw B (List.mem_cons_of_mem _ hB))) (cls_step h hA hc)
    exact ⟨fun y hy => i1 y (add_mono _ _ y hy), i2⟩
set_option maxRecDepth 100000 in
theorem reS_self {l : List Ad} (h : OkD l) {r : Int} {A : Ad} (hf : fndA l r = some A) : inS (reS l r) r = true ∧ ClsI l (reS l r) [] := by
  obtain ⟨h1, h2⟩ := fndA_some hf
  unfold reS
  rw [hf]
  obtain ⟨i1, i2⟩ := bfs_cls h (unv l [r] + 1) [r] [A] (by simp) (fun B hB => by rw [List.mem_singleton] at hB; subst hB; exact h1) (fun B hB hi => by
    rw [inS_one] at hi
    have : B = A := fnd_inj h hB h1 (by rw [h2]; exact (of_decide_eq_true hi).symm)
    rw [this]
    exact .inl List.mem_cons_self)
  exact ⟨i1 r (by rw [inS_one, decide_eq_true rfl]), i2⟩
set_option maxRecDepth 100000 in
theorem reS_none {l : List Ad} {r : Int} (h : fndA l r = none) : reS l r = [] := by unfold reS; rw [h]
set_option maxRecDepth 100000 in
/-- What is reached is closed under links. -/
theorem reS_closed {l : List Ad} (h : OkD l) {r : Int} {A B : Ad} (hA : A ∈ l) (hi : inS (reS l r) A.r = true) (hB : B ∈ l) (hk : lkAd A B = true) : inS (reS l r) B.r = true := by
  cases hf : fndA l r with
  | none => rw [reS_none hf] at hi; cases hi
  | some C =>
    rcases (reS_self h hf).2 A hA hi with hw | hw
    · cases hw
    · exact hw B hB hk
set_option maxRecDepth 100000 in
theorem bfs_min {l : List Ad} (h : OkD l) (P : Int → Prop) (hP : ∀ A ∈ l, ∀ B ∈ l, P A.r → lkAd A B = true → P B.r) : ∀ (n : Nat) (S : List Int) (W : List Ad), (∀ B ∈ W, B ∈ l ∧ P B.r) → (∀ y, inS S y = true → P y) → ∀ y, inS (bfs l n S W) y = true → P y
  | 0, S, W, _, hs, y, hy => hs y hy
  | n + 1, S, [], _, hs, y, hy => hs y hy
  | n + 1, S, A :: W, hw, hs, y, hy => by
    rw [bfs] at hy
    obtain ⟨a1, a2⟩ := hw A List.mem_cons_self
    have hl : ∀ B ∈ lnk l A, B ∈ l ∧ P B.r := fun B hB => by
      rw [lnk_flt h a1, List.mem_filter] at hB
      exact ⟨hB.1, hP A a1 B hB.1 a2 hB.2⟩
    refine bfs_min h P hP n _ _ (fun B hB => ?_) (fun y hy => ?_) y hy
    · have hwork : ∀ (M : List Ad), (∀ B ∈ M, B ∈ l ∧ P B.r) → ∀ st : List Int × List Ad, (∀ B ∈ st.2, B ∈ l ∧ P B.r) → ∀ B ∈ (M.foldl addA st).2, B ∈ l ∧ P B.r := by
        intro M
        induction M with
        | nil => intro _ st hst B hB; exact hst B hB
        | cons C M ih =>
          intro hM st hst B hB
          rw [List.foldl_cons] at hB
          refine ih (fun D hD => hM D (List.mem_cons_of_mem _ hD)) (addA st C) (fun D hD => ?_) B hB
          unfold addA at hD
          split at hD
          · exact hst D hD
          · rcases List.mem_append.1 hD with hD | hD
            · exact hst D hD
            · rw [List.mem_singleton] at hD; subst hD; exact hM D List.mem_cons_self
      exact hwork _ hl (S, W) (fun B hB => hw B (List.mem_cons_of_mem _ hB)) B hB
    · rcases add_in _ _ y hy with h1 | ⟨B, h1, h2⟩
      · exact hs y h1
      · rw [← h2]; exact (hl B h1).2
set_option maxRecDepth 100000 in
/-- And it is the least that is. -/
theorem reS_min {l : List Ad} (h : OkD l) {r : Int} (P : Int → Prop) (h0 : P r) (hP : ∀ A ∈ l, ∀ B ∈ l, inS (reS l r) A.r = true → P A.r → lkAd A B = true → P B.r) : ∀ y, inS (reS l r) y = true → P y := by
  intro y hy
  cases hf : fndA l r with
  | none => rw [reS_none hf] at hy; cases hy
  | some C =>
    obtain ⟨h1, h2⟩ := fndA_some hf
    have hi := (reS_self h hf).1
    have key := bfs_min h (fun y => inS (reS l r) y = true ∧ P y) (fun A hA B hB hp hk => ⟨reS_closed h hA hp.1 hB hk, hP A hA B hB hp.1 hp.2 hk⟩) (unv l [r] + 1) [r] [C]
      (fun B hB => by rw [List.mem_singleton] at hB; subst hB; rw [h2]; exact ⟨h1, hi, h0⟩)
      (fun z hz => by rw [inS_one] at hz; rw [← of_decide_eq_true hz]; exact ⟨hi, h0⟩) y
    refine (key ?_).2
    have e : reS l r = bfs l (unv l [r] + 1) [r] [C] := by unfold reS; rw [hf]
    rw [← e]; exact hy
set_option maxRecDepth 100000 in
theorem reS_mem {l : List Ad} {r y : Int} (h : OkD l) (hi : inS (reS l r) y = true) : ∃ B, fndA l y = some B := by
  cases hf : fndA l r with
  | none => rw [reS_none hf] at hi; cases hi
  | some C =>
    obtain ⟨h1, h2⟩ := fndA_some hf
    have e : reS l r = bfs l (unv l [r] + 1) [r] [C] := by unfold reS; rw [hf]
    rw [e] at hi
    rcases bfs_in _ _ _ y hi with hi | ⟨B, b1, b2⟩
    · rw [inS_one] at hi
      exact ⟨C, by rw [← of_decide_eq_true hi]; exact hf⟩
    · exact ⟨B, by rw [← b2]; exact fnd_selfV h.asc B b1⟩
set_option maxRecDepth 100000 in
theorem lkAd_fnd {A B : Ad} (h : lkAd A B = true) : (∃ x, rcA A B.r = some x ∧ x ∈ A.L) ∧ ∃ y, rcA B A.r = some y ∧ y ∈ B.L := by
  unfold lkAd at h
  rw [Bool.and_eq_true] at h
  obtain ⟨x, hx⟩ := Option.isSome_iff_exists.1 h.1
  obtain ⟨y, hy⟩ := Option.isSome_iff_exists.1 h.2
  exact ⟨⟨x, hx, (rcA_some hx).1⟩, y, hy, (rcA_some hy).1⟩
set_option maxRecDepth 100000 in
theorem vRe_nums {r : Int} : ∀ {M : List T3} {k : Int}, vRe r k M = true → ∀ x ∈ M, (1 ≤ x.b ∧ x.b ≤ 1000) ∧ 0 ≤ x.c ∧ x.c ≤ 1000
  | [], _, _, x, hx => by cases hx
  | y :: M, k, h, x, hx => by
    rw [vRe, Bool.and_eq_true] at h
    rcases List.mem_cons.1 hx with rfl | hx
    · have := h.1; unfold okRe at this; exact (of_decide_eq_true this).2.2.2
    · exact vRe_nums h.2 x hx
set_option maxRecDepth 100000 in
theorem rcV_some {A : Ad} {r : Int} {x : T3} (h : rcA A r = some x) : rcV A r = x := by unfold rcV; rw [h]; rfl
set_option maxRecDepth 100000 in
theorem vwL_mem {l : List Ad} (h : OkD l) {S : List Int} {m : Lk} : m ∈ vwL l S ↔ ∃ A ∈ l, inS S A.r = true ∧ ∃ B ∈ l, lkAd A B = true ∧ A.r < B.r ∧ m = btw A B := by
  unfold vwL
  rw [List.mem_flatMap]
  constructor
  · rintro ⟨A, hA, hm⟩
    rw [List.mem_filter] at hA
    unfold vL1 at hm
    obtain ⟨B, hB, e⟩ := List.mem_map.1 hm
    rw [List.mem_filter, lnk_flt h hA.1, List.mem_filter] at hB
    exact ⟨A, hA.1, hA.2, B, hB.1.1, hB.1.2, of_decide_eq_true hB.2, e.symm⟩
  · rintro ⟨A, hA, hi, B, hB, hk, hlt, e⟩
    refine ⟨A, List.mem_filter.2 ⟨hA, hi⟩, ?_⟩
    unfold vL1
    refine List.mem_map.2 ⟨B, List.mem_filter.2 ⟨?_, decide_eq_true hlt⟩, e.symm⟩
    rw [lnk_flt h hA, List.mem_filter]
    exact ⟨hB, hk⟩
set_option maxRecDepth 100000 in
theorem ascB_of {α : Type} (f : α → α → Bool) : ∀ l : List α, l.Pairwise (fun a b => f a b = true) → ascB f l = true
  | [], _ => rfl
  | [a], _ => rfl
  | a :: b :: t, h => by
    obtain ⟨h1, h2⟩ := List.pairwise_cons.1 h
    rw [ascB, h1 b List.mem_cons_self, ascB_of f (b :: t) h2]; rfl
set_option maxRecDepth 100000 in
theorem vwR_mem {l : List Ad} {S : List Int} {x : Rt} : x ∈ vwR l S ↔ ∃ A ∈ l, inS S A.r = true ∧ x = toR A := by
  unfold vwR
  rw [List.mem_map]
  constructor
  · rintro ⟨A, hA, e⟩
    rw [List.mem_filter] at hA
    exact ⟨A, hA.1, hA.2, e.symm⟩
  · rintro ⟨A, hA, hi, e⟩
    exact ⟨A, List.mem_filter.2 ⟨hA, hi⟩, e.symm⟩
set_option maxRecDepth 100000 in
theorem has_vwR {l : List Ad} {S : List Int} {y : Int} : hasR (vwR l S) y = true ↔ ∃ A ∈ l, inS S A.r = true ∧ A.r = y := by
  unfold hasR
  rw [List.any_eq_true]
  constructor
  · rintro ⟨x, hx, e⟩
    obtain ⟨A, hA, hi, rfl⟩ := vwR_mem.1 hx
    exact ⟨A, hA, hi, of_decide_eq_true e⟩
  · rintro ⟨A, hA, hi, e⟩
    exact ⟨toR A, vwR_mem.2 ⟨A, hA, hi, rfl⟩, decide_eq_true e⟩
set_option maxRecDepth 100000 in
theorem vwL_asc {l : List Ad} (h : OkD l) (S : List Int) : (vwL l S).Pairwise (fun a b => ltL a b = true) := by
  have one : ∀ A ∈ l, (vL1 l A).Pairwise (fun a b => ltL a b = true) := fun A hA => by
    unfold vL1
    rw [List.pairwise_map, lnk_flt h hA]
    refine ((h.pair.filter _).filter _).imp (fun {B C} hlt => ?_)
    unfold ltL btw
    exact decide_eq_true (.inr ⟨rfl, hlt⟩)
  have key : ∀ (M : List Ad), (∀ A ∈ M, A ∈ l) → M.Pairwise (fun A B => A.r < B.r) → (M.flatMap (vL1 l)).Pairwise (fun a b => ltL a b = true) := by
    intro M
    induction M with
    | nil => intro _ _; exact List.Pairwise.nil
    | cons A M ih =>
      intro hM hp
      obtain ⟨p1, p2⟩ := List.pairwise_cons.1 hp
      rw [List.flatMap_cons]
      refine List.pairwise_append.2 ⟨one A (hM A List.mem_cons_self), ih (fun B hB => hM B (List.mem_cons_of_mem _ hB)) p2, fun m hm n hn => ?_⟩
      obtain ⟨B, hB, hn⟩ := List.mem_flatMap.1 hn
      unfold vL1 at hm hn
      obtain ⟨C, _, rfl⟩ := List.mem_map.1 hm
      obtain ⟨D, _, rfl⟩ := List.mem_map.1 hn
      unfold ltL btw
      exact decide_eq_true (.inl (p1 B hB))
  exact key _ (fun A hA => (List.mem_filter.1 hA).1) (h.pair.filter _)
set_option maxRecDepth 100000 in
theorem vw_chk2 {l : List Ad} (h : OkD l) (r : Int) (hlR : (vwR l (reS l r)).length ≤ 24) (hlL : (vwL l (reS l r)).length ≤ 60) : chk (vwR l (reS l r)) (vwL l (reS l r)) = 0 := by
  generalize hS : reS l r = S at hlR hlL ⊢
  have hcl : ∀ A ∈ l, inS S A.r = true → ∀ B ∈ l, lkAd A B = true → inS S B.r = true := fun A hA hi B hB hk => by
    rw [← hS] at hi ⊢
    exact reS_closed h hA hi hB hk
  have c2 : (vwR l S).any wrId = false := by
    rw [List.any_eq_false]
    intro x hx
    obtain ⟨A, hA, _, rfl⟩ := vwR_mem.1 hx
    have hv := h.v A hA
    unfold vAd at hv
    rw [Bool.and_eq_true] at hv
    have := hv.1
    unfold vHd at this
    have := (of_decide_eq_true this).1
    unfold wrId toR
    rw [decide_eq_true this]
    decide
  have c3 : ascB ltR (vwR l S) = true := by
    refine ascB_of _ _ ?_
    unfold vwR
    rw [List.pairwise_map]
    exact (h.pair.filter _).imp (fun {A B} hlt => decide_eq_true hlt)
  have c4 : (vwL l S).any wrNum = false := by
    rw [List.any_eq_false]
    intro m hm
    obtain ⟨A, hA, _, B, hB, hk, _, rfl⟩ := (vwL_mem h).1 hm
    obtain ⟨⟨x, hx, hx2⟩, y, hy, hy2⟩ := lkAd_fnd hk
    have b1 := vRe_nums (vAd_re (h.v A hA)) x hx2
    have b2 := vRe_nums (vAd_re (h.v B hB)) y hy2
    unfold wrNum btw
    rw [rcV_some hx, rcV_some hy]
    rw [decide_eq_true (by refine ⟨b1.1, b2.1, ?_, ?_⟩ <;> simp only <;> omega)]
    decide
  have c5 : (vwL l S).any (unk (vwR l S)) = false := by
    rw [List.any_eq_false]
    intro m hm
    obtain ⟨A, hA, hi, B, hB, hk, _, rfl⟩ := (vwL_mem h).1 hm
    have e1 : hasR (vwR l S) A.r = true := has_vwR.2 ⟨A, hA, hi, rfl⟩
    have e2 : hasR (vwR l S) B.r = true := has_vwR.2 ⟨B, hB, hcl A hA hi B hB hk, rfl⟩
    unfold unk btw
    rw [e1, e2]
    decide
  have c6 : (vwL l S).any wrEnd = false := by
    rw [List.any_eq_false]
    intro m hm
    obtain ⟨A, hA, hi, B, hB, hk, hlt, rfl⟩ := (vwL_mem h).1 hm
    unfold wrEnd btw
    rw [decide_eq_false (by simp only; omega)]
    decide
  have c7 : ascB ltL (vwL l S) = true := ascB_of _ _ (vwL_asc h S)
  unfold chk
  rw [if_neg (by omega), c2, c3, c4, c5, c6, c7]
  rfl
set_option maxRecDepth 100000 in
theorem okD_of {l : List Ad} (h : OkD l) : okD l = true := by
  unfold okD chkD
  rw [if_neg (by have := h.len; omega)]
  have : l.any notV = false := by
    rw [List.any_eq_false]
    intro A hA
    unfold notV
    rw [h.v A hA]; decide
  rw [this, if_neg (by decide), h.asc]
  rfl
end Go.Proofs.Ytnpkihioklpnmaa

/- The reference's Components and Connected. -/
namespace Go.Proofs.Ytnpkihioklpnmaa
open Go.RowKit Bs
set_option maxRecDepth 100000 in
theorem conn_ref (R : List Rt) (L : List Lk) (a b : Int) : conn R L a b = (hasV R L a && (hasV R L b && hasI (cls L a) b)) := by
  cases hv : okT R L
  · unfold conn comps hasV
    rw [hv]
    rfl
  · rw [Bool.eq_iff_iff, conn_iff hv]
    unfold hasV
    rw [hv]
    simp only [Bool.true_and, Bool.and_eq_true]
    have hR : ∀ x, hasR R x = true ↔ ∃ r ∈ R, r.id = x := fun x => by
      unfold hasR
      rw [List.any_eq_true]
      simp
    rw [hR, hR, hasI_mem]
    constructor
    · rintro ⟨⟨r, hr, rfl⟩, h⟩
      obtain ⟨n, en, hn⟩ := rt_nat hv hr
      obtain ⟨-, e2⟩ := cls_spec (okT_near100 hv) hn
      rw [← en] at e2
      exact ⟨⟨r, hr, rfl⟩, reach_id hv ⟨r, hr, rfl⟩ h, (e2 b).2 h⟩
    · rintro ⟨⟨r, hr, rfl⟩, -, h⟩
      obtain ⟨n, en, hn⟩ := rt_nat hv hr
      obtain ⟨-, e2⟩ := cls_spec (okT_near100 hv) hn
      rw [← en] at e2
      exact ⟨⟨r, hr, rfl⟩, (e2 b).1 h⟩
end Go.Proofs.Ytnpkihioklpnmaa

/- The adverts of all routers of a topology: the view is the component. The mathematics. -/
namespace Go.Proofs.Ytnpkihioklpnmaa
open Go.RowKit Bs
/-- What the view reads of an advert; what a router's own advert says. -/
def k3 (A : Ad) : Int × Bool × List T3 := (A.r, A.cp, A.L)
def k3R (L : List Lk) (t : Rt) : Int × Bool × List T3 := (t.id, t.cap, reL L t.id)
/-- A database of the first routers' own adverts. -/
structure OfD (R : List Rt) (L : List Lk) (k : Nat) (l : List Ad) : Prop where
  e : l.map k3 = (R.take k).map (k3R L)
  v : ∀ A ∈ l, vAd A = true
section
variable {R : List Rt} {L : List Lk} {k : Nat} {l : List Ad}
set_option maxRecDepth 100000 in
theorem OfD.nil : OfD R L 0 [] := ⟨by rw [List.take_zero]; rfl, fun A h => by cases h⟩
set_option maxRecDepth 100000 in
theorem OfD.add (h : OfD R L k l) {t : Rt} (ht : R[k]? = some t) {A : Ad} (hA : k3 A = k3R L t) (hv : vAd A = true) : OfD R L (k + 1) (l ++ [A]) := by
  refine ⟨?_, fun B hB => ?_⟩
  · rw [List.take_add_one, ht, List.map_append, List.map_append, h.e]
    show _ ++ [k3 A] = _ ++ [k3R L t]
    rw [hA]
  · rcases List.mem_append.1 hB with hB | hB
    · exact h.v B hB
    · rw [List.mem_singleton] at hB; subst hB; exact hv
set_option maxRecDepth 100000 in
theorem OfD.mem (h : OfD R L k l) {A : Ad} (hA : A ∈ l) : ∃ t ∈ R.take k, A.r = t.id ∧ A.cp = t.cap ∧ A.L = reL L t.id := by
  have h1 : k3 A ∈ l.map k3 := List.mem_map.2 ⟨A, hA, rfl⟩
  rw [h.e] at h1
  obtain ⟨t, ht, e⟩ := List.mem_map.1 h1
  unfold k3 k3R at e
  injection e with e1 e2
  injection e2 with e2 e3
  exact ⟨t, ht, e1.symm, e2.symm, e3.symm⟩
set_option maxRecDepth 100000 in
theorem OfD.of (h : OfD R L k l) {t : Rt} (ht : t ∈ R.take k) : ∃ A ∈ l, A.r = t.id ∧ A.cp = t.cap ∧ A.L = reL L t.id := by
  have h1 : k3R L t ∈ (R.take k).map (k3R L) := List.mem_map.2 ⟨t, ht, rfl⟩
  rw [← h.e] at h1
  obtain ⟨A, hA, e⟩ := List.mem_map.1 h1
  unfold k3 k3R at e
  injection e with e1 e2
  injection e2 with e2 e3
  exact ⟨A, hA, e1, e2, e3⟩
set_option maxRecDepth 100000 in
theorem OfD.len (h : OfD R L k l) : l.length = (R.take k).length := by
  have := congrArg List.length h.e
  rwa [List.length_map, List.length_map] at this
set_option maxRecDepth 100000 in
theorem rt_pairD (ho : OkAll R L) : R.Pairwise (fun s t => s.id < t.id) :=
  (pair_of_asc ltR (fun _ _ _ h1 h2 => by unfold ltR at *; have := of_decide_eq_true h1; have := of_decide_eq_true h2; exact decide_eq_true (by omega)) R ho.rs).imp (fun {a b} h => of_decide_eq_true h)
set_option maxRecDepth 100000 in
theorem rt_id (ho : OkAll R L) {t : Rt} (ht : t ∈ R) : 1 ≤ t.id ∧ t.id ≤ 99 := by
  have := List.any_eq_false.1 ho.id t ht
  unfold wrId at this
  simpa using this
set_option maxRecDepth 100000 in
theorem OfD.pair (h : OfD R L k l) (ho : OkAll R L) : l.Pairwise (fun A B => A.r < B.r) := by
  have h1 : (l.map k3).Pairwise (fun a b => a.1 < b.1) := by
    rw [h.e, List.pairwise_map]
    exact (rt_pairD ho).sublist (List.take_sublist _ _)
  rw [List.pairwise_map] at h1
  exact h1
set_option maxRecDepth 100000 in
theorem ascD_of : ∀ {l : List Ad} {j : Int}, (∀ A ∈ l, j < A.r) → l.Pairwise (fun A B => A.r < B.r) → ascD j l = true
  | [], _, _, _ => rfl
  | A :: t, j, h1, h2 => by
    obtain ⟨p1, p2⟩ := List.pairwise_cons.1 h2
    rw [ascD, decide_eq_true (h1 A List.mem_cons_self), ascD_of p1 p2]; rfl
set_option maxRecDepth 100000 in
theorem OfD.ok (h : OfD R L k l) (ho : OkAll R L) : OkD l := by
  refine ⟨?_, h.v, ascD_of (fun A hA => ?_) (h.pair ho)⟩
  · rw [h.len, List.length_take]; have := ho.l1; omega
  · obtain ⟨t, ht, e, -⟩ := h.mem hA
    have := rt_id ho (List.mem_of_mem_take ht)
    omega
set_option maxRecDepth 100000 in
/-- Who comes next is greater than all that are there. -/
theorem OfD.lt (h : OfD R L k l) (ho : OkAll R L) {t : Rt} (ht : R[k]? = some t) : ∀ A ∈ l, A.r < t.id := by
  intro A hA
  obtain ⟨s, hs, e, -⟩ := h.mem hA
  obtain ⟨j, hj⟩ := List.mem_iff_getElem?.1 hs
  rw [List.getElem?_take] at hj
  split at hj
  · rename_i hjk
    obtain ⟨h1, e1⟩ := List.getElem?_eq_some_iff.1 hj
    obtain ⟨h2, e2⟩ := List.getElem?_eq_some_iff.1 ht
    have := List.pairwise_iff_getElem.1 (rt_pairD ho) j k h1 h2 hjk
    rw [e1, e2] at this
    omega
  · cases hj
end
/-! All routers' own adverts. -/
set_option maxRecDepth 100000 in
theorem re1_mem {x : Int} {m : Lk} {z : T3} : z ∈ re1 x m ↔ (m.b = x ∧ z = ⟨m.a, m.cb, m.cp⟩) ∨ (m.a = x ∧ z = ⟨m.b, m.ca, m.cp⟩) := by
  unfold re1
  rw [List.mem_append]
  by_cases h1 : m.b = x <;> by_cases h2 : m.a = x <;> simp [h1, h2]
section
variable {R : List Rt} {L : List Lk} {l : List Ad}
set_option maxRecDepth 100000 in
/-- The link to a neighbour, as the advert says it. -/
theorem rc_of (ho : OkAll R L) {A : Ad} {x : Int} (hL : A.L = reL L x) {z : T3} (hz : z ∈ reL L x) : rcA A z.a = some z := by
  unfold rcA
  rw [hL]
  cases hf : (reL L x).find? (isN z.a) with
  | none =>
    have := List.find?_eq_none.1 hf z hz
    unfold isN at this
    rw [decide_eq_true rfl] at this
    exact absurd rfl this
  | some y =>
    have h1 := List.mem_of_find?_eq_some hf
    have h2 : isN z.a y = true := List.find?_some hf
    have h2 := of_decide_eq_true h2
    rw [← ent_ok ho x h1, h2, ent_ok ho x hz]
set_option maxRecDepth 100000 in
theorem rc_iff {A : Ad} {x y : Int} (hL : A.L = reL L x) : (rcA A y).isSome = true ↔ y ∈ nbL L x := by
  rw [← reL_ids, List.mem_map]
  constructor
  · intro h
    obtain ⟨z, hz⟩ := Option.isSome_iff_exists.1 h
    obtain ⟨h1, h2⟩ := rcA_some hz
    rw [hL] at h1
    exact ⟨z, h1, h2⟩
  · rintro ⟨z, hz, e⟩
    unfold rcA
    rw [hL, List.find?_isSome]
    exact ⟨z, hz, by unfold isN; rw [decide_eq_true e]⟩
set_option maxRecDepth 100000 in
theorem OfD.all (h : OfD R L R.length l) {A : Ad} (hA : A ∈ l) : ∃ t ∈ R, A.r = t.id ∧ A.cp = t.cap ∧ A.L = reL L A.r := by
  obtain ⟨t, ht, e1, e2, e3⟩ := h.mem hA
  rw [List.take_length] at ht
  exact ⟨t, ht, e1, e2, by rw [e1]; exact e3⟩
set_option maxRecDepth 100000 in
theorem OfD.adv (h : OfD R L R.length l) {t : Rt} (ht : t ∈ R) : ∃ A ∈ l, A.r = t.id ∧ A.cp = t.cap ∧ A.L = reL L A.r := by
  obtain ⟨A, hA, e1, e2, e3⟩ := h.of (by rw [List.take_length]; exact ht)
  exact ⟨A, hA, e1, e2, by rw [e1]; exact e3⟩
set_option maxRecDepth 100000 in
theorem OfD.lk (h : OfD R L R.length l) {A B : Ad} (hA : A ∈ l) (hB : B ∈ l) : lkAd A B = true ↔ B.r ∈ nbL L A.r := by
  obtain ⟨-, -, -, -, a⟩ := h.all hA
  obtain ⟨-, -, -, -, b⟩ := h.all hB
  unfold lkAd
  rw [Bool.and_eq_true, rc_iff a, rc_iff b]
  exact ⟨fun h => h.1, fun h => ⟨h, nb_symm h⟩⟩
set_option maxRecDepth 100000 in
theorem ends_in (ho : OkAll R L) {m : Lk} (hm : m ∈ L) : (∃ s ∈ R, s.id = m.a) ∧ ∃ t ∈ R, t.id = m.b := by
  have h := List.any_eq_false.1 ho.un m hm
  unfold unk at h
  have hh : ∀ x, hasR R x = true → ∃ s ∈ R, s.id = x := fun x hx => by
    unfold hasR at hx
    obtain ⟨s, hs, e⟩ := List.any_eq_true.1 hx
    exact ⟨s, hs, of_decide_eq_true e⟩
  cases h1 : hasR R m.a with
  | false => rw [h1] at h; exact absurd rfl h
  | true =>
    cases h2 : hasR R m.b with
    | false => rw [h1, h2] at h; exact absurd rfl h
    | true => exact ⟨hh _ h1, hh _ h2⟩
set_option maxRecDepth 100000 in
theorem nb_in (ho : OkAll R L) {x y : Int} (h : y ∈ nbL L x) : ∃ t ∈ R, t.id = y := by
  unfold nbL at h
  obtain ⟨m, hm, h1⟩ := List.mem_flatMap.1 h
  rw [nb1_mem] at h1
  obtain ⟨e1, e2⟩ := ends_in ho hm
  rcases h1 with ⟨-, rfl⟩ | ⟨-, rfl⟩ <;> first | exact e1 | exact e2
set_option maxRecDepth 100000 in
/-- What is reached is the component. -/
theorem of_rch (h : OfD R L R.length l) (ho : OkAll R L) {r : Int} (hr : ∃ t ∈ R, t.id = r) (y : Int) : inS (reS l r) y = true ↔ Rch L r y := by
  have hok := h.ok ho
  obtain ⟨t, ht, rfl⟩ := hr
  obtain ⟨C, hC, c1, -⟩ := h.adv ht
  have hf := fnd_selfV hok.asc C hC
  rw [c1] at hf
  constructor
  · exact reS_min hok (fun y => Rch L t.id y) (Rch.refl _ _) (fun A hA B hB _ hp hk => Rch.step hp ((h.lk hA hB).1 hk)) y
  · intro hy
    refine hy (fun y => inS (reS l t.id) y = true) (reS_self hok hf).1 (fun u v hu hv => ?_)
    obtain ⟨U, hU⟩ := reS_mem hok hu
    obtain ⟨u1, u2⟩ := fndA_some hU
    obtain ⟨s, hs, e⟩ := nb_in ho hv
    obtain ⟨V, hV, v1, -⟩ := h.adv hs
    have := reS_closed hok u1 (by rw [u2]; exact hu) hV ((h.lk u1 hV).2 (by rw [u2, v1, e]; exact hv))
    rw [v1, e] at this
    exact this
set_option maxRecDepth 100000 in
theorem of_vwR (h : OfD R L R.length l) (S : List Int) : vwR l S = R.filter (fun t => inS S t.id) := by
  have e : l.map toR = R := by
    have h1 := congrArg (List.map (fun z : Int × Bool × List T3 => (⟨z.1, z.2.1⟩ : Rt))) h.e
    rw [List.take_length, List.map_map, List.map_map] at h1
    have h2 : l.map toR = R.map (fun t => (⟨t.id, t.cap⟩ : Rt)) := h1
    rw [h2]
    exact List.map_id R
  unfold vwR
  conv => rhs; rw [← e]
  rw [List.filter_map]
  rfl
set_option maxRecDepth 100000 in
theorem ascL_ext {α : Type} {f : α → α → Bool} (hirr : ∀ a, f a a = false) (htr : ∀ a b, f a b = true → f b a = false) : ∀ {l m : List α}, l.Pairwise (fun a b => f a b = true) → m.Pairwise (fun a b => f a b = true) → (∀ x, x ∈ l ↔ x ∈ m) → l = m
  | [], [], _, _, _ => rfl
  | [], b :: m, _, _, h => by have := (h b).2 List.mem_cons_self; cases this
  | a :: l, [], _, _, h => by have := (h a).1 List.mem_cons_self; cases this
  | a :: l, b :: m, h1, h2, h => by
    obtain ⟨a1, a2⟩ := List.pairwise_cons.1 h1
    obtain ⟨b1, b2⟩ := List.pairwise_cons.1 h2
    have e : a = b := by
      rcases List.mem_cons.1 ((h a).1 List.mem_cons_self) with e | ha
      · exact e
      · rcases List.mem_cons.1 ((h b).2 List.mem_cons_self) with e | hb
        · exact e.symm
        · have h3 := b1 a ha
          have h4 := a1 b hb
          rw [htr _ _ h4] at h3; cases h3
    subst e
    congr 1
    refine ascL_ext hirr htr a2 b2 (fun x => ?_)
    constructor
    · intro hx
      rcases List.mem_cons.1 ((h x).1 (List.mem_cons_of_mem _ hx)) with rfl | hx2
      · have := a1 x hx; rw [hirr] at this; cases this
      · exact hx2
    · intro hx
      rcases List.mem_cons.1 ((h x).2 (List.mem_cons_of_mem _ hx)) with rfl | hx2
      · have := b1 x hx; rw [hirr] at this; cases this
      · exact hx2
set_option maxRecDepth 100000 in
theorem lk_btw (h : OfD R L R.length l) (ho : OkAll R L) {m : Lk} (hm : m ∈ L) {A B : Ad} (hA : A ∈ l) (hB : B ∈ l) (ea : A.r = m.a) (eb : B.r = m.b) : btw A B = m := by
  obtain ⟨-, -, -, -, a⟩ := h.all hA
  obtain ⟨-, -, -, -, b⟩ := h.all hB
  have z1 : (⟨m.b, m.ca, m.cp⟩ : T3) ∈ reL L A.r := List.mem_flatMap.2 ⟨m, hm, re1_mem.2 (.inr ⟨ea.symm, rfl⟩)⟩
  have z2 : (⟨m.a, m.cb, m.cp⟩ : T3) ∈ reL L B.r := List.mem_flatMap.2 ⟨m, hm, re1_mem.2 (.inl ⟨eb.symm, rfl⟩)⟩
  have r1 := rc_of ho a z1
  have r2 := rc_of ho b z2
  simp only at r1 r2
  unfold btw
  rw [eb, ea, rcV_some r1, rcV_some r2]
  simp
set_option maxRecDepth 100000 in
theorem of_vwL (h : OfD R L R.length l) (ho : OkAll R L) (S : List Int) : vwL l S = L.filter (fun m => inS S m.a) := by
  have hok := h.ok ho
  have hlt := ends_lt ho
  refine ascL_ext (f := ltL) (fun a => by unfold ltL; exact decide_eq_false (by omega)) (fun a b hab => by unfold ltL at *; have := of_decide_eq_true hab; exact decide_eq_false (by omega)) (vwL_asc hok S) ?_ (fun m => ?_)
  · exact (pair_of_asc ltL (fun _ _ _ => ltL_trans) L ho.ls).filter _
  · rw [vwL_mem hok, List.mem_filter]
    constructor
    · rintro ⟨A, hA, hi, B, hB, hk, hl, rfl⟩
      have hn := (h.lk hA hB).1 hk
      unfold nbL at hn
      obtain ⟨m, hm, hmn⟩ := List.mem_flatMap.1 hn
      have := hlt m hm
      rw [nb1_mem] at hmn
      have hm2 : A.r = m.a ∧ B.r = m.b := by omega
      rw [lk_btw h ho hm hA hB hm2.1 hm2.2]
      exact ⟨hm, by rw [← hm2.1]; exact hi⟩
    · rintro ⟨hm, hi⟩
      obtain ⟨⟨s, hs, e1⟩, t, ht, e2⟩ := ends_in ho hm
      obtain ⟨A, hA, a1, -⟩ := h.adv hs
      obtain ⟨B, hB, b1, -⟩ := h.adv ht
      refine ⟨A, hA, by rw [a1, e1]; exact hi, B, hB, (h.lk hA hB).2 ?_, by have := hlt m hm; omega, (lk_btw h ho hm hA hB (by omega) (by omega)).symm⟩
      unfold nbL
      refine List.mem_flatMap.2 ⟨m, hm, ?_⟩
      rw [nb1_mem]
      omega
set_option maxRecDepth 100000 in
theorem cls_rch (ok : okT R L = true) {a b : Int} (ha : hasR R a = true) (hb : hasR R b = true) : hasI (cls L a) b = true ↔ Rch L a b := by
  have h1 := conn_ref R L a b
  have h2 : hasV R L a = true := by unfold hasV; rw [ok, ha]; rfl
  have h3 : hasV R L b = true := by unfold hasV; rw [ok, hb]; rfl
  rw [h2, h3, Bool.true_and, Bool.true_and] at h1
  rw [← h1, conn_iff ok]
  refine ⟨fun h => h.2, fun h => ⟨?_, h⟩⟩
  unfold hasR at ha
  obtain ⟨s, hs, e⟩ := List.any_eq_true.1 ha
  exact ⟨s, hs, of_decide_eq_true e⟩
set_option maxRecDepth 100000 in
/-- The view of all routers' own adverts is the topology without the routers outside the component. -/
theorem of_view (h : OfD R L R.length l) (ok : okT R L = true) {r : Int} (hr : ∃ t ∈ R, t.id = r) {F : Fl} (hH : F.H = []) (hX : ∀ t ∈ R, hasI F.X t.id = !hasI (cls L r) t.id) : viewV l r = (woR F R, woL F L) := by
  have ho := okT_all ok
  have hok := h.ok ho
  have hhas : ∀ t ∈ R, hasR R t.id = true := fun t ht => List.any_eq_true.2 ⟨t, ht, decide_eq_true rfl⟩
  have hrr : hasR R r = true := by obtain ⟨t, ht, rfl⟩ := hr; exact hhas t ht
  have hin : ∀ t ∈ R, inS (reS l r) t.id = !hasI F.X t.id := fun t ht => by
    rw [hX t ht, Bool.not_not, Bool.eq_iff_iff, of_rch h ho hr, cls_rch ok hrr (hhas t ht)]
  have eR : vwR l (reS l r) = woR F R := by
    rw [of_vwR h]
    unfold woR
    exact List.filter_congr (fun t ht => hin t ht)
  have eL : vwL l (reS l r) = woL F L := by
    rw [of_vwL h ho]
    unfold woL
    refine List.filter_congr (fun m hm => ?_)
    obtain ⟨⟨s, hs, e1⟩, t, ht, e2⟩ := ends_in ho hm
    have hn : nmd F.H m = false := by unfold nmd; rw [hH]; rfl
    have h1 := hin s hs
    have h2 := hin t ht
    rw [e1] at h1
    rw [e2] at h2
    have hab : inS (reS l r) m.a = inS (reS l r) m.b := by
      have hnb : m.b ∈ nbL L m.a := by
        unfold nbL
        refine List.mem_flatMap.2 ⟨m, hm, ?_⟩
        rw [nb1_mem]; omega
      rw [Bool.eq_iff_iff, of_rch h ho hr, of_rch h ho hr]
      exact ⟨fun h => Rch.step h hnb, fun h => Rch.step h (nb_symm hnb)⟩
    unfold woK
    rw [hn, ← h1, ← h2, ← hab]
    cases inS (reS l r) m.a <;> rfl
  unfold viewV
  have hc := vw_chk2 hok r (by rw [eR]; exact Nat.le_trans (List.length_filter_le _ _) ho.l1) (by rw [eL]; exact Nat.le_trans (List.length_filter_le _ _) ho.l2)
  rw [if_pos (okD_of hok), if_pos hc, eR, eL]
/-! A router's own advert is valid. -/
set_option maxRecDepth 100000 in
theorem vRe_of {x : Int} : ∀ {M : List T3} {last : Int}, (∀ z ∈ M, last < z.a) → (M.map (·.a)).Pairwise (· < ·) → (∀ z ∈ M, z.a ≤ 99 ∧ z.a ≠ x ∧ (1 ≤ z.b ∧ z.b ≤ 1000) ∧ 0 ≤ z.c ∧ z.c ≤ 1000) → vRe x last M = true
  | [], _, _, _, _ => rfl
  | z :: M, last, h1, h2, h3 => by
    rw [List.map_cons] at h2
    obtain ⟨p1, p2⟩ := List.pairwise_cons.1 h2
    have hz := h3 z List.mem_cons_self
    rw [vRe]
    have e : okRe x last z = true := by unfold okRe; exact decide_eq_true ⟨h1 z List.mem_cons_self, hz⟩
    rw [e, vRe_of (fun y hy => p1 y.a (List.mem_map.2 ⟨y, hy, rfl⟩)) p2 (fun y hy => h3 y (List.mem_cons_of_mem _ hy))]
    rfl
set_option maxRecDepth 100000 in
theorem lk_num (ho : OkAll R L) {m : Lk} (hm : m ∈ L) : (1 ≤ m.ca ∧ m.ca ≤ 1000) ∧ (1 ≤ m.cb ∧ m.cb ≤ 1000) ∧ (0 ≤ m.cp ∧ m.cp ≤ 1000) := by
  have := List.any_eq_false.1 ho.nm m hm
  unfold wrNum at this
  simpa using this
set_option maxRecDepth 100000 in
theorem of_valid (ho : OkAll R L) (h23 : R.length ≤ 23) {t : Rt} (ht : t ∈ R) {A : Ad} (hr : A.r = t.id) (hq : 1 ≤ A.q ∧ A.q ≤ 5) (hL : A.L = reL L t.id) (hC : A.C = []) : vAd A = true := by
  have hid := rt_id ho ht
  have hmap : (reL L t.id).map (·.a) = nearR R L t.id := by rw [reL_ids, near_eq ho]
  have hlen : (reL L t.id).length ≤ 23 := by
    have h1 := congrArg List.length hmap
    unfold nearR at h1
    rw [List.length_map, List.length_map] at h1
    have := List.length_filter_le (fun r => (priceV L t.id r.id).2) R
    omega
  have hpw : ((reL L t.id).map (·.a)).Pairwise (· < ·) := by
    rw [hmap]
    unfold nearR
    rw [List.pairwise_map]
    exact (rt_pairD ho).filter _
  have hall : ∀ z ∈ reL L t.id, (0 < z.a ∧ z.a ≤ 99) ∧ z.a ≠ t.id ∧ (1 ≤ z.b ∧ z.b ≤ 1000) ∧ 0 ≤ z.c ∧ z.c ≤ 1000 := fun z hz => by
    unfold reL at hz
    obtain ⟨m, hm, hz⟩ := List.mem_flatMap.1 hz
    have hn := lk_num ho hm
    have hlt := ends_lt ho m hm
    obtain ⟨⟨s, hs, e1⟩, u, hu, e2⟩ := ends_in ho hm
    have i1 := rt_id ho hs
    have i2 := rt_id ho hu
    rcases re1_mem.1 hz with ⟨e, rfl⟩ | ⟨e, rfl⟩
    · simp only; omega
    · simp only; omega
  unfold vAd vHd vClaims
  rw [hr, hL, hC, decide_eq_true (by omega), vRe_of (fun z hz => (hall z hz).1.1) hpw (fun z hz => ⟨(hall z hz).1.2, (hall z hz).2⟩)]
  rfl
set_option maxRecDepth 100000 in
theorem cap_of (ho : OkAll R L) (ok : okT R L = true) {t : Rt} (ht : t ∈ R) : capV R L t.id = t.cap := by
  unfold capV capR
  rw [ok, Bool.true_and]
  cases hf : R.find? (fun r => decide (r.id = t.id)) with
  | none =>
    have := List.find?_eq_none.1 hf t ht
    rw [decide_eq_true rfl] at this
    exact absurd rfl this
  | some s =>
    have h1 := List.mem_of_find?_eq_some hf
    have h2 := List.find?_some hf
    have h2 := of_decide_eq_true h2
    simp only
    rcases pair_mem (R := fun a b : Rt => a.id < b.id) (fun a b h3 h4 => by omega) (rt_pairD ho) s h1 t ht with e | e | e
    · rw [e]
    · omega
    · omega
end
end Go.Proofs.Ytnpkihioklpnmaa

/- database.Claims. -/
namespace Go.Proofs.Ytnpkihioklpnmaa
open Go.RowKit Bs
/-- A claim and its router. -/
structure Ow where
  r : Int
  x : T3
section
variable {W w w1 : World} {l : List Ad} {p : Option Addr} {c N Bx : Nat} {T : Tg} {v v' : Value} {out out2 : List Ow}
end
end Go.Proofs.Ytnpkihioklpnmaa

/- The reference's View. -/
namespace Go.Proofs.Ytnpkihioklpnmaa
open Go.RowKit Bs
section
variable {W w w1 : World} {l : List Ad} {p : Option Addr} {c N : Nat} {vi v' : Value} {S : List Int}
end
/-- A box of three numbers has come since w0. -/
structure N3 (w0 : World) (b : Nat) (w : World) : Prop where
  bx : w.heap[b]? = some (.cells #[.int .i64 0, .int .i64 0, .int .i64 0] 73 (0, 0))
  lo : w0.heap.size ≤ b
set_option maxRecDepth 100000 in
theorem N3.keep {w0 w w1 : World} {b : Nat} (h : N3 w0 b w) (g : w.grownBy w1 none) : N3 w0 b w1 := ⟨kept_row h.bx g (by simp), h.lo⟩
end Go.Proofs.Ytnpkihioklpnmaa

/- The law DatabaseChecks: what memory holds. -/
namespace Go.Proofs.Ytnpkihioklpnmaa
open Go.RowKit Bs
/-- A database as it lies in memory. -/
structure Dv where
  l : List Ad
  p : Option Addr
  c : Nat
section
variable {W w w1 : World} {a : Nat} {raw : Dv} {X : List Dv}
end
section
variable {W w w1 : World} {a D E : Nat} {raw : Dv} {X : List Dv} {R : List Int}
end
end Go.Proofs.Ytnpkihioklpnmaa

/- The reference's Claims. -/
namespace Go.Proofs.Ytnpkihioklpnmaa
open Go.RowKit Bs
set_option maxRecDepth 100000 in
theorem rdr_at2 {w : World} {q : Nat → Prop} {b off n c k : Nat} {R : List Rt} {t : Rt} (h : RdR w q (.slice (some ⟨b, off, none⟩) n c) R) (hx : R[k]? = some t) : w.cell? ⟨b, off + k * 2, none⟩ = some (.int .i64 t.id) ∧ w.cell? ⟨b, off + k * 2 + 1, none⟩ = some (.bool t.cap) := by
  obtain ⟨-, b', o', e, -, hc⟩ := rdr_cells h (by have := (List.getElem?_eq_some_iff.1 hx).1; omega)
  injection e with e
  injection e with e1 e2
  subst e1
  subst e2
  exact hc k t hx
end Go.Proofs.Ytnpkihioklpnmaa

/- The reference's Same, of equal topologies. -/
namespace Go.Proofs.Ytnpkihioklpnmaa
open Go.RowKit Bs
/-- Two equal topologies in two boxes. -/
structure S2 (w : World) (R : List Rt) (L : List Lk) (pR pL pR2 pL2 : Option Addr) (cR cL cR2 cL2 : Nat) (wr : World) : Prop where
  b1 : wr.heap[w.heap.size]? = some (.cells #[.slice pR R.length cR, .slice pL L.length cL] 59 (0, 0))
  b2 : wr.heap[w.heap.size + 1]? = some (.cells #[.slice pR2 R.length cR2, .slice pL2 L.length cL2] 59 (0, 0))
  t1 : TgOk wr (fun _ => True) ⟨R, L, pR, cR, pL, cL⟩
  t2 : TgOk wr (fun _ => True) ⟨R, L, pR2, cR2, pL2, cL2⟩
  gr : w.grownBy wr none
set_option maxRecDepth 100000 in
theorem S2.keep {w wr w' : World} {R : List Rt} {L : List Lk} {pR pL pR2 pL2 : Option Addr} {cR cL cR2 cL2 : Nat} (h : S2 w R L pR pL pR2 pL2 cR cL cR2 cL2 wr) (g : wr.grownBy w' none) : S2 w R L pR pL pR2 pL2 cR cL cR2 cL2 w' :=
  ⟨kept_row h.b1 g (by simp), kept_row h.b2 g (by simp), h.t1.keep g, h.t2.keep g, grown_trans h.gr g⟩
set_option maxRecDepth 100000 in
set_option maxHeartbeats 3200000 in
theorem rsameT_any (T U : Tg) (hRR : U.R = T.R) (hLL : U.L = T.L) (q q2 : Nat → Prop) (w : World) (hT : TgOk w q T) (hU : TgOk w q2 U) :
    Calls Try.prog 33 #[.agg #[.slice T.pR T.R.length T.cR, .slice T.pL T.L.length T.cL], .agg #[.slice U.pR U.R.length U.cR, .slice U.pL U.L.length U.cL]] w fun e w' => e = .returned (.bool true) ∧ w.grownBy w' none := by
  obtain ⟨R, L, pR, cR, pL, cL⟩ := T
  obtain ⟨R2, L2, pR2, cR2, pL2, cL2⟩ := U
  simp only at hRR hLL
  subst hRR
  subst hLL
  simp only
  have hm1 := Nat.le_trans hT.cr.1 hT.cr.2
  have hm2 := Nat.le_trans hT.cl.1 hT.cl.2
  simp only at hm1 hm2
  obtain ⟨k1, k2, k3, _⟩ := two_boxes w #[.slice pR R2.length cR, .slice pL L2.length cL] #[.slice pR2 R2.length cR2, .slice pL2 L2.length cL2] 59 59
  have H0 : Hid (S2 w R2 L2 pR pL pR2 pL2 cR cL cR2 cL2 _) := Lib.hid ⟨k1, k2, (hT.mono (fun _ _ => trivial)).keep k3, (hU.mono (fun _ _ => trivial)).keep k3, k3⟩
  clear k1 k2 k3 hT hU
  go_enter Try.func33, Try.ntmps33
  go_upto_region 1 with fail
  generalize ((w.alloc _).alloc _) = wa at *
  obtain ⟨c0, c1⟩ := row_cells H0.out.b1
  obtain ⟨c2, c3⟩ := row_cells H0.out.b2
  go_wp2_with fail
  go_loopw [5] (fun a wr => ∃ k : Nat, k ≤ R2.length ∧ a = .int .i64 (k : Int) ∧ Hid (S2 w R2 L2 pR pL pR2 pL2 cR cL cR2 cL2 wr)) (fun a _ => R2.length - (RowKit.intOf a).toNat)
  case atStart => exact ⟨0, Nat.zero_le _, rfl, H0⟩
  case round =>
  obtain ⟨k, hk, rfl, HK⟩ := hrel
  clear H0 c0 c1 c2 c3
  by_cases hlt : k < R2.length
  case pos =>
    obtain ⟨-, g1, o1, e1, -, hc1⟩ := rdr_cells HK.out.t1.r (by show 0 < R2.length; omega)
    obtain ⟨-, g2, o2, e2, -, hc2⟩ := rdr_cells HK.out.t2.r (by show 0 < R2.length; omega)
    simp only at e1 e2
    subst e1
    subst e2
    obtain ⟨y, hy⟩ : ∃ y, R2[k]? = some y := ⟨_, List.getElem?_eq_getElem hlt⟩
    obtain ⟨a0, a1⟩ := hc1 k y hy
    obtain ⟨a2, a3⟩ := hc2 k y hy
    obtain ⟨c0, c1⟩ := row_cells HK.out.b1
    obtain ⟨c2, c3⟩ := row_cells HK.out.b2
    have i0 : (0 : Int) ≤ (k : Int) := by omega
    have i1 : (k : Int) < (R2.length : Int) := by omega
    have HN : ∀ n, Hid (S2 w R2 L2 (some ⟨g1, o1, none⟩) pL (some ⟨g2, o2, none⟩) pL2 cR cL cR2 cL2 (wr.drewN n)) := fun n => Lib.hid (HK.out.keep (grown_drewN _ n _))
    clear hc1 hc2 hy HK
    go_wp2_with fail
    go_quiet (fail)
    clear a0 a1 a2 a3
    go_wp2_with fail
    exact ⟨⟨k + 1, by omega, congrArg _ (by omega), HN _⟩, by simp only [RowKit.intOf]; omega⟩
  obtain rfl : k = R2.length := by omega
  obtain ⟨c0, c1⟩ := row_cells HK.out.b1
  obtain ⟨c2, c3⟩ := row_cells HK.out.b2
  go_wp2_with fail
  go_loopw [6] (fun a wr => ∃ k : Nat, k ≤ L2.length ∧ a = .int .i64 (k : Int) ∧ Hid (S2 w R2 L2 pR pL pR2 pL2 cR cL cR2 cL2 wr)) (fun a _ => L2.length - (RowKit.intOf a).toNat)
  case atStart => exact ⟨0, Nat.zero_le _, rfl, HK⟩
  case round =>
  obtain ⟨k, hk, rfl, HK⟩ := hrel
  clear c0 c1 c2 c3
  by_cases hlt : k < L2.length
  case pos =>
    obtain ⟨-, g1, o1, e1, -, hc1⟩ := rdl_cells HK.out.t1.l (by show 0 < L2.length; omega)
    obtain ⟨-, g2, o2, e2, -, hc2⟩ := rdl_cells HK.out.t2.l (by show 0 < L2.length; omega)
    simp only at e1 e2
    subst e1
    subst e2
    obtain ⟨y, hy⟩ : ∃ y, L2[k]? = some y := ⟨_, List.getElem?_eq_getElem hlt⟩
    obtain ⟨a0, a1, a2, a3, a4⟩ := hc1 k y hy
    obtain ⟨d0, d1, d2, d3, d4⟩ := hc2 k y hy
    obtain ⟨c0, c1⟩ := row_cells HK.out.b1
    obtain ⟨c2, c3⟩ := row_cells HK.out.b2
    have i0 : (0 : Int) ≤ (k : Int) := by omega
    have i1 : (k : Int) < (L2.length : Int) := by omega
    have HN : ∀ n, Hid (S2 w R2 L2 pR (some ⟨g1, o1, none⟩) pR2 (some ⟨g2, o2, none⟩) cR cL cR2 cL2 (wr.drewN n)) := fun n => Lib.hid (HK.out.keep (grown_drewN _ n _))
    clear hc1 hc2 hy HK
    go_wp2_with fail
    go_quiet (fail)
    clear a0 a1 a2 a3 a4 d0 d1 d2 d3 d4
    go_wp2_with fail
    exact ⟨⟨k + 1, by omega, congrArg _ (by omega), HN _⟩, by simp only [RowKit.intOf]; omega⟩
  obtain rfl : k = L2.length := by omega
  obtain ⟨c0, c1⟩ := row_cells HK.out.b1
  obtain ⟨c2, c3⟩ := row_cells HK.out.b2
  go_wp2_with fail
  go_ret
  exact ⟨rfl, HK.out.gr⟩
end Go.Proofs.Ytnpkihioklpnmaa

/- The law DatabaseAgrees. -/
namespace Go.Proofs.Ytnpkihioklpnmaa
open Go.RowKit Bs
/-- A new box. -/
structure NX (W : World) (b : Nat) (cs : Array Value) (t : TypeId) (w : World) : Prop where
  ab : w.heap[b]? = some (.cells cs t (0, 0))
  lo : W.heap.size ≤ b
set_option maxRecDepth 100000 in
theorem NX.keep {W w w1 : World} {b : Nat} {cs : Array Value} {t : TypeId} (h : NX W b cs t w) (g : w.grownBy w1 none) : NX W b cs t w1 := ⟨kept_row h.ab g (by simp), h.lo⟩
/-- An advert in a box. -/
structure AB (b : Nat) (A : Ad) (w : World) : Prop where
  bx : w.heap[b]? = some (.cells #[.int .i64 A.r, .int .i64 A.q, .bool A.cp, .slice A.pL A.L.length A.cL, .slice A.pC A.C.length A.cC] 38 (0, 0))
  ok : AdOk w (fun _ => True) A
set_option maxRecDepth 100000 in
theorem AB.keep {w w1 : World} {b : Nat} {A : Ad} (h : AB b A w) (g : w.grownBy w1 none) : AB b A w1 := ⟨kept_row h.bx g (by simp), h.ok.keep g⟩
end Go.Proofs.Ytnpkihioklpnmaa

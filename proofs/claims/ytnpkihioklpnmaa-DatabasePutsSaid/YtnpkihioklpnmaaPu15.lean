/- Parts of the proof, packed: DbRWi, AdSq, AdRSm, AdRVa. -/
import Derived.Test.YtnpkihioklpnmaaPu14
import Derived.Test.YtnpkihioklpnmaaPu4
import Derived.BigQuiet
import Derived.Test.YtnpkihioklpnmaaPu6
import Derived.Laws.StructEq
/- The reference's With. -/
namespace Go.Proofs.Ytnpkihioklpnmaa
open Go.RowKit Bs
/-! With, step by step. -/
def wS0 (A : Ad) (st : List Ad × Bool) (B : Ad) : List Ad × Bool := if (!st.2 && decide (A.r ≤ B.r)) = true then (st.1 ++ [A], true) else st
def wS1 (A : Ad) (st : List Ad × Bool) (B : Ad) : List Ad × Bool := (if B.r = A.r then (wS0 A st B).1 else (wS0 A st B).1 ++ [B], (wS0 A st B).2)
def wSt (A : Ad) (l : List Ad) : List Ad × Bool := l.foldl (wS1 A) ([], false)
set_option maxRecDepth 100000 in
theorem wSt_take {A B : Ad} {l : List Ad} {k : Nat} (h : l[k]? = some B) : wSt A (l.take (k + 1)) = wS1 A (wSt A (l.take k)) B := by
  unfold wSt
  rw [List.take_add_one, h, List.foldl_append]; rfl
set_option maxRecDepth 100000 in
theorem wS_done {A : Ad} : ∀ {l : List Ad} (acc : List Ad), (∀ B ∈ l, B.r ≠ A.r) → l.foldl (wS1 A) (acc, true) = (acc ++ l, true)
  | [], acc, _ => by simp
  | B :: t, acc, h => by
    rw [List.foldl_cons]
    have e : wS1 A (acc, true) B = (acc ++ [B], true) := by
      unfold wS1 wS0
      rw [if_neg (h B List.mem_cons_self)]
      rfl
    rw [e, wS_done (acc ++ [B]) (fun C hC => h C (List.mem_cons_of_mem _ hC)), List.append_assoc]; rfl
set_option maxRecDepth 100000 in
theorem wS_fin {A : Ad} : ∀ {l : List Ad} {k : Int} (acc : List Ad), ascD k l = true → (if (l.foldl (wS1 A) (acc, false)).2 = true then (l.foldl (wS1 A) (acc, false)).1 else (l.foldl (wS1 A) (acc, false)).1 ++ [A]) = acc ++ putA l A
  | [], k, acc, _ => by rw [putA]; rfl
  | B :: t, k, acc, h => by
    rw [ascD, Bool.and_eq_true] at h
    have hgt := (asc_pair t B.r h.2).1
    rw [List.foldl_cons, putA]
    by_cases h1 : B.r < A.r
    · have e : wS1 A (acc, false) B = (acc ++ [B], false) := by
        unfold wS1 wS0
        rw [if_neg (by omega), decide_eq_false (by omega)]
        rfl
      rw [e, if_pos h1, wS_fin (acc ++ [B]) h.2, List.append_assoc]; rfl
    · rw [if_neg h1]
      by_cases h2 : B.r = A.r
      · have e : wS1 A (acc, false) B = (acc ++ [A], true) := by
          unfold wS1 wS0
          rw [if_pos h2, decide_eq_true (by omega)]
          rfl
        rw [e, if_pos h2, wS_done _ (fun C hC => by have := hgt C hC; omega)]
        simp
      · have e : wS1 A (acc, false) B = (acc ++ [A] ++ [B], true) := by
          unfold wS1 wS0
          rw [if_neg h2, decide_eq_true (by omega)]
          rfl
        rw [e, if_neg h2, wS_done _ (fun C hC => by have := hgt C hC; omega)]
        simp
/-- While With works: the arguments' boxes, the result's, the row that grows. -/
structure WW (W : World) (l : List Ad) (p : Option Addr) (c : Nat) (A : Ad) (q : Nat → Prop) (u v : Value) (acc : List Ad) (w : World) : Prop where
  d : w.heap[W.heap.size]? = some (.cells #[.slice p l.length c] 25 (0, 0))
  a : w.heap[W.heap.size + 1]? = some (.cells #[.int .i64 A.r, .int .i64 A.q, .bool A.cp, .slice A.pL A.L.length A.cL, .slice A.pC A.C.length A.cC] 38 (0, 0))
  z : w.heap[W.heap.size + 2]? = some (.cells #[.slice none 0 0] 25 (0, 0))
  o : w.heap[W.heap.size + 3]? = some (.cells #[u] 25 (0, 0))
  own : w.ownsRow (W.heap.size + 4) 38 5 v acc.length (acc.flatMap adL)
  db : RdA w q (.slice p l.length c) l
  ok : AdOk w q A
  lt : ∀ b, q b → b < W.heap.size
  fr : ∀ B ∈ acc, B = A ∨ B ∈ l
  gr : W.grownBy w none
section
variable {W w w1 : World} {l acc : List Ad} {p : Option Addr} {c : Nat} {A B : Ad} {q : Nat → Prop} {u v v' : Value}
set_option maxRecDepth 100000 in
theorem WW.sz (h : WW W l p c A q u v acc w) : W.heap.size + 4 ≤ w.heap.size := World.lt_of_row' h.o
set_option maxRecDepth 100000 in
theorem WW.keep (h : WW W l p c A q u v acc w) (g : w.grownBy w1 none) : WW W l p c A q u v acc w1 :=
  ⟨kept_row h.d g (by simp), kept_row h.a g (by simp), kept_row h.z g (by simp), kept_row h.o g (by simp), h.own.kept g (by cases hv : v.ownBlock with
    | none => exact .inl rfl
    | some k => exact .inr (by simp)), h.db.keep g, h.ok.keep g, h.lt, h.fr, grown_trans h.gr g⟩
set_option maxRecDepth 100000 in
theorem WW.app (h : WW W l p c A q u v acc w) (hB : B = A ∨ B ∈ l) (hown : w1.ownsRow (W.heap.size + 4) 38 5 v' (acc ++ [B]).length ((acc ++ [B]).flatMap adL)) (hg : w.grownBy w1 v.ownBlock) : WW W l p c A q u v' (acc ++ [B]) w1 := by
  have hne : ∀ b, b < W.heap.size + 4 → some b ≠ v.ownBlock := fun b hb e => by have := (h.own.lt b e.symm).1; omega
  refine ⟨kept_row h.d hg (hne _ (by omega)), kept_row h.a hg (hne _ (by omega)), kept_row h.z hg (hne _ (by omega)), kept_row h.o hg (hne _ (by omega)), hown, h.db.grown hg (fun b hb => hne b (by have := h.lt b hb; omega)), h.ok.grown hg (fun b hb => hne b (by have := h.lt b hb; omega)), h.lt, fun C hC => ?_, ?_⟩
  · rcases List.mem_append.1 hC with hC | hC
    · exact h.fr C hC
    · rw [List.mem_singleton] at hC; subst hC; exact hB
  · cases hv : v.ownBlock with
    | none => rw [hv] at hg; exact grown_trans h.gr hg
    | some b => rw [hv] at hg; exact grown_new h.gr hg (by have := (h.own.lt b hv).1; omega)
set_option maxRecDepth 100000 in
theorem WW.put (h : WW W l p c A q u v acc w) : WW W l p c A q v v acc (w.setCell ⟨W.heap.size + 3, 0, none⟩ v) := by
  have g := grown_setCell w ⟨W.heap.size + 3, 0, none⟩ v
  have hne : ∀ b, b < W.heap.size + 3 → some b ≠ some (W.heap.size + 3) := fun b hb e => by have := Option.some.inj e; omega
  exact ⟨kept_row h.d g (hne _ (by omega)), kept_row h.a g (hne _ (by omega)), kept_row h.z g (hne _ (by omega)), d1_set _ h.o, h.own.kept g (by
    cases hv : v.ownBlock with
    | none => exact .inl rfl
    | some k => exact .inr (fun e => by have e2 : k = W.heap.size + 3 := Option.some.inj e; have := (h.own.lt k hv).1; omega)), h.db.grown g (fun b hb => hne b (by have := h.lt b hb; omega)), h.ok.grown g (fun b hb => hne b (by have := h.lt b hb; omega)), h.lt, h.fr, grown_new h.gr g (by show W.heap.size ≤ W.heap.size + 3; omega)⟩
set_option maxRecDepth 100000 in
theorem WW.e (h : WW W l p c A q u v acc w) : w.cell? ⟨W.heap.size, 0, none⟩ = some (.slice p l.length c) ∧ w.cell? ⟨W.heap.size + 3, 0, none⟩ = some u ∧ w.frozen? ⟨W.heap.size + 3, 0, none⟩ = false ∧ w.cell? ⟨W.heap.size + 1, 0, none⟩ = some (.int .i64 A.r) ∧ w.cell? ⟨W.heap.size + 1, 1, none⟩ = some (.int .i64 A.q) ∧ w.cell? ⟨W.heap.size + 1, 2, none⟩ = some (.bool A.cp) ∧ w.cell? ⟨W.heap.size + 1, 3, none⟩ = some (.slice A.pL A.L.length A.cL) ∧ w.cell? ⟨W.heap.size + 1, 4, none⟩ = some (.slice A.pC A.C.length A.cC) := ⟨cell_of_row _ _ _ _ _ _ h.d, cell_of_row _ _ _ _ _ _ h.o, frozen_of_row _ _ 0 _ _ h.o, row5 h.a⟩
set_option maxRecDepth 100000 in
theorem WW.box (h : WW W l p c A q u v acc w) (X : Array Value) (t : TypeId) : WW W l p c A q u v acc (w.alloc (.cells X t)) ∧ (w.alloc (.cells X t)).heap[w.heap.size]? = some (.cells X t (0, 0)) := ⟨h.keep (tone_box w X t).2, (tone_box w X t).1⟩
set_option maxRecDepth 100000 in
/-- The result. -/
theorem WW.fin {p' : Option Addr} {n c' : Nat} (h : WW W l p c A q u (.slice p' n c') acc w) (hnA : AdNl A) :
    (w.setCell ⟨W.heap.size + 2, 0, none⟩ (.slice p' n c')).heap[W.heap.size + 2]? = some (.cells #[.slice p' n c'] 25 (0, 0)) ∧ RdA (w.setCell ⟨W.heap.size + 2, 0, none⟩ (.slice p' n c')) (fun b => q b ∨ W.heap.size ≤ b) (.slice p' n c') acc ∧ W.grownBy (w.setCell ⟨W.heap.size + 2, 0, none⟩ (.slice p' n c')) none ∧ w.cell? ⟨W.heap.size + 2, 0, none⟩ = some (.slice none 0 0) ∧ w.frozen? ⟨W.heap.size + 2, 0, none⟩ = false := by
  have gs := grown_setCell w ⟨W.heap.size + 2, 0, none⟩ (.slice p' n c')
  have hne : ∀ b, q b → some b ≠ some (W.heap.size + 2) := fun b hb e => by have := h.lt b hb; have := Option.some.inj e; omega
  refine ⟨d1_set _ h.z, ⟨(rdf_of_own h.own).grown gs (fun b hb e => by have : b = W.heap.size + 2 := Option.some.inj e; omega) |>.mono (fun b hb => Or.inr (by omega)), fun B hB => ?_, fun B hB => ?_⟩, grown_new h.gr gs (by show W.heap.size ≤ W.heap.size + 2; omega), cell_of_row _ _ _ _ _ _ h.z, frozen_of_row _ _ 0 _ _ h.z⟩
  · rcases h.fr B hB with rfl | hB
    · exact (h.ok.grown gs hne).mono (fun b hb => Or.inl hb)
    · exact ((h.db.ok B hB).grown gs hne).mono (fun b hb => Or.inl hb)
  · rcases h.fr B hB with rfl | hB
    · exact hnA
    · exact h.db.nl B hB
end
set_option maxRecDepth 100000 in
theorem ww_start {w : World} {l : List Ad} {p : Option Addr} {c : Nat} {A : Ad} {q : Nat → Prop} (hR : RdA w q (.slice p l.length c) l) (hA : AdOk w q A) (hq : ∀ b, q b → b < w.heap.size) : WW w l p c A q (.slice none 0 0) (.slice none 0 0) [] ((((w.alloc (.cells #[.slice p l.length c] 25)).alloc (.cells #[.int .i64 A.r, .int .i64 A.q, .bool A.cp, .slice A.pL A.L.length A.cL, .slice A.pC A.C.length A.cC] 38)).alloc (.cells #[.slice none 0 0] 25)).alloc (.cells #[.slice none 0 0] 25)) := by
  obtain ⟨k1, k2, k3, k4, k5⟩ := three_boxesD w #[.slice p l.length c] #[.int .i64 A.r, .int .i64 A.q, .bool A.cp, .slice A.pL A.L.length A.cL, .slice A.pC A.C.length A.cC] #[.slice none 0 0] 25 38 25
  obtain ⟨n1, n2⟩ := tone_box (((w.alloc (.cells #[.slice p l.length c] 25)).alloc (.cells #[.int .i64 A.r, .int .i64 A.q, .bool A.cp, .slice A.pL A.L.length A.cL, .slice A.pC A.C.length A.cC] 38)).alloc (.cells #[.slice none 0 0] 25)) #[.slice none 0 0] 25
  rw [k5] at n1
  exact ⟨kept_row k1 n2 (by simp), kept_row k2 n2 (by simp), kept_row k3 n2 (by simp), n1, World.ownsRow_nil _ _ _ _, (hR.keep k4).keep n2, (hA.keep k4).keep n2, hq, (fun B h => by cases h), grown_trans k4 n2⟩
/-- What With returns. -/
def WithRes (l : List Ad) (A : Ad) (q : Nat → Prop) (W : World) (e : Ending) (w' : World) : Prop :=
  ∃ (m : List Ad) (p : Option Addr) (c : Nat), e = .returned (.agg #[.slice p m.length c]) ∧ m = putA l A ∧ RdA w' (fun b => q b ∨ W.heap.size ≤ b) (.slice p m.length c) m ∧ (m.length ≤ c ∧ c ≤ 9223372036854775807) ∧ (p = none → c = 0) ∧ W.grownBy w' none
set_option maxRecDepth 100000 in
set_option maxHeartbeats 12800000 in
theorem rwith_any (l : List Ad) (A : Ad) (p : Option Addr) (c : Nat) (q : Nat → Prop) (w : World) (hR : RdA w q (.slice p l.length c) l) (hm : l.length ≤ 900) (hA : AdOk w q A) (hnA : AdNl A) (hq : ∀ b, q b → b < w.heap.size) (hasc : ∃ k, ascD k l = true) :
    Calls Try.prog 62 #[.agg #[.slice p l.length c], .agg #[.int .i64 A.r, .int .i64 A.q, .bool A.cp, .slice A.pL A.L.length A.cL, .slice A.pC A.C.length A.cC]] w fun e w' => WithRes l A q w e w' := by
  obtain ⟨ia, hia, hz0, hz1, hz2⟩ := info_parts info_ad5
  have H0 := Lib.hid (ww_start hR hA hq)
  clear hR hA hq
  have HASC := Lib.hid hasc
  clear hasc
  go_enter Try.func62, Try.ntmps62
  go_upto_region 2 with fail
  generalize (((w.alloc _).alloc _).alloc _).alloc _ = wa at *
  go_wp2_with fail
  go_loopw [6, 7] (fun d x wr => ∃ (k : Nat) (dn : Bool) (acc : List Ad) (u : Value), k ≤ l.length ∧ x = .int .i64 (k : Int) ∧ d = .bool dn ∧ Hid (WW w l p c A q u u acc wr ∧ wSt A (l.take k) = (acc, dn) ∧ acc.length ≤ 2 * k)) (fun _ x _ => l.length - (RowKit.intOf x).toNat)
  case atStart => exact ⟨0, false, [], _, Nat.zero_le _, rfl, rfl, Lib.hid ⟨H0.out, by rw [List.take_zero]; rfl, by simp⟩⟩
  case round =>
  obtain ⟨k, dn, acc, u, hk, rfl, rfl, K⟩ := hrel
  clear H0
  obtain ⟨pu, cu, rfl, hcu1, hcu2⟩ := own_shape K.out.1.own
  obtain ⟨e0, e1, e2, e3, e4, e5, e6, e7⟩ := K.out.1.e
  by_cases hlt : k < l.length
  · obtain ⟨-, b, off, rfl, -, -⟩ := rda_cells K.out.1.db (by omega)
    obtain ⟨B, hB⟩ : ∃ B, l[k]? = some B := ⟨_, List.getElem?_eq_getElem hlt⟩
    obtain ⟨a0, a1, a2, a3, a4⟩ := rda_at K.out.1.db hB
    have HB := Lib.hid (And.intro hB (List.mem_of_getElem? hB))
    clear hB
    obtain ⟨T, hT⟩ : ∃ T, (!dn && decide (A.r ≤ B.r)) = T := ⟨_, rfl⟩
    have HT := Lib.hid hT
    have HN : ∀ n, Hid (WW w l (some ⟨b, off, none⟩) c A q (.slice pu acc.length cu) (.slice pu acc.length cu) acc (wr.drewN n) ∧ wSt A (l.take k) = (acc, dn) ∧ acc.length ≤ 2 * k) := fun n => Lib.hid ⟨K.out.1.keep (grown_drewN _ n _), K.out.2⟩
    go_upto_region 6 with fail
    go_cut [27] from 15 to 27 (fun v wx => v = .bool T ∧ Hid (WW w l (some ⟨b, off, none⟩) c A q (.slice pu acc.length cu) (.slice pu acc.length cu) acc wx ∧ wSt A (l.take k) = (acc, dn) ∧ acc.length ≤ 2 * k))
    case first =>
      clear HT
      cases dn with
      | true =>
        obtain rfl : T = false := by rw [← hT]; rfl
        go_quiet (fail)
        go_wp2_with fail
        go_meet
        exact ⟨rfl, HN _⟩
      | false =>
        by_cases hle : A.r ≤ B.r
        · have hd : decide (A.r ≤ B.r) = true := decide_eq_true hle
          obtain rfl : T = true := by rw [← hT, hd]; rfl
          go_quiet (fail)
          go_wp2_with fail
          go_meet
          exact ⟨rfl, HN _⟩
        · have hd : decide (A.r ≤ B.r) = false := decide_eq_false hle
          obtain rfl : T = false := by rw [← hT, hd]; rfl
          go_quiet (fail)
          go_wp2_with fail
          go_meet
          exact ⟨rfl, HN _⟩
    case rest =>
    obtain ⟨rfl, K1⟩ := hcut
    clear K HN hT e0 e1 e2 e3 e4 e5 e6 e7 a0 a1 a2 a3 a4
    obtain ⟨e0, e1, e2, e3, e4, e5, e6, e7⟩ := K1.out.1.e
    go_upto_if 27 with fail
    go_cut [6] from 28 to 33 (fun d wx => ∃ (dn2 : Bool) (acc2 : List Ad) (u2 : Value), d = .bool dn2 ∧ Hid (WW w l (some ⟨b, off, none⟩) c A q u2 u2 acc2 wx ∧ wS0 A (wSt A (l.take k)) B = (acc2, dn2) ∧ acc2.length ≤ 2 * k + 1))
    case first =>
      cases T with
      | false =>
        have hw0 : wS0 A (wSt A (l.take k)) B = (acc, dn) := by rw [K1.out.2.1]; unfold wS0; rw [show (!(acc, dn).2 && decide (A.r ≤ B.r)) = false from HT.out, if_neg (by decide)]
        have HR := Lib.hid (And.intro K1.out.1 (And.intro hw0 (show acc.length ≤ 2 * k + 1 by have := K1.out.2.2; omega)))
        clear hw0
        go_wp2_with fail
        go_meet
        exact ⟨dn, acc, _, rfl, HR⟩
      | true =>
        have hw0 : wS0 A (wSt A (l.take k)) B = (acc ++ [A], true) := by rw [K1.out.2.1]; unfold wS0; rw [show (!(acc, dn).2 && decide (A.r ≤ B.r)) = true from HT.out, if_pos rfl]
        have HW0 := Lib.hid hw0
        clear hw0
        have K2 := Lib.hid (K1.out.1.box #[.int .i64 A.r, .int .i64 A.q, .bool A.cp, .slice A.pL A.L.length A.cL, .slice A.pC A.C.length A.cC] 38)
        go_wp2_with (at_builtin; refine hold_on ?_)
        refine Lib.hid ?_
        refine wpList_append_f adL 5 72 (by decide) adL_len ad_one 38 23 ia _ Try.underlying23 hia hz0 hz1 hz2 rfl (by decide) rfl _ _ rfl (w.heap.size + 4) _ acc _ rfl rfl K2.out.1.own (some ⟨_, 0, none⟩) 1 1 [A] rfl rfl (fun h => by cases h) (fun _ => True) (rdf_one _ trivial (cells5V _ _ _ _ _ _ _) 1) (Nat.le_refl _) (by have := K1.out.2.2; simp; omega) K2.out.1.sz ?_
        intro v' w5 hown hg
        have K3 := Lib.hid (K2.out.1.app (Or.inl rfl) hown hg)
        obtain ⟨p5, c5, rfl, hc51, hc52⟩ := own_shape hown
        have K4 := Lib.hid K3.out.put
        rw [show (acc ++ [A]).length = acc.length + 1 by simp] at K4
        have HLN : Hid ((acc ++ [A]).length ≤ 2 * k + 1) := Lib.hid (by have := K1.out.2.2; simp; omega)
        clear hown hg K2 K1 e0 e1 e2 e3 e4 e5 e6 e7
        obtain ⟨e0, e1, e2, e3, e4, e5, e6, e7⟩ := K3.out.e
        clear K3
        go_wp2_with fail
        go_meet
        exact ⟨true, acc ++ [A], _, rfl, Lib.hid ⟨K4.out, HW0.out, HLN.out⟩⟩
    case rest =>
    obtain ⟨dn2, acc2, u2, rfl, K2⟩ := hcut
    clear K1 HT e0 e1 e2 e3 e4 e5 e6 e7
    obtain ⟨p2, c2, rfl, hc21, hc22⟩ := own_shape K2.out.1.own
    obtain ⟨e0, e1, e2, e3, e4, e5, e6, e7⟩ := K2.out.1.e
    obtain ⟨a0, a1, a2, a3, a4⟩ := rda_at K2.out.1.db HB.out.1
    by_cases hne : B.r = A.r
    · have hd : (B.r == A.r) = true := by simpa using hne
      have hw1 : wSt A (l.take (k + 1)) = (acc2, dn2) := by rw [wSt_take HB.out.1]; unfold wS1; rw [K2.out.2.1, if_pos hne]
      have hl1 : acc2.length ≤ 2 * (k + 1) := by have := K2.out.2.2; omega
      have HR := fun n : Nat => Lib.hid (And.intro (K2.out.1.keep (grown_drewN _ n none)) (And.intro hw1 hl1))
      clear hw1 hl1
      clear hne K2
      go_upto_region 9 with fail
      go_quiet (fail)
      go_wp2_with fail
      exact ⟨⟨k + 1, dn2, acc2, _, by omega, congrArg _ (by omega), rfl, HR _⟩, by simp only [RowKit.intOf]; omega⟩
    · have hd : (B.r == A.r) = false := by simpa using hne
      have HW1 : Hid (wSt A (l.take (k + 1)) = (acc2 ++ [B], dn2)) := Lib.hid (by rw [wSt_take HB.out.1]; unfold wS1; rw [K2.out.2.1, if_neg hne])
      have HN2 := fun n : Nat => Lib.hid (And.intro (K2.out.1.keep (grown_drewN _ n none)) K2.out.2)
      clear hne K2
      go_upto_region 9 with fail
      go_quiet (fail)
      have K3 := HN2 nq
      clear HN2 e0 e1 e2 e3 e4 e5 e6 e7 a0 a1 a2 a3 a4
      generalize World.drewN _ _ = w3 at *
      go_upto_region 10 with fail
      have HD := Lib.hid (K3.out.1.keep (grown_drew (grown_refl w3 none)))
      have HK3 := Lib.hid K3.out.1
      have HLN : Hid ((acc2 ++ [B]).length ≤ 2 * (k + 1)) := Lib.hid (by have := K3.out.2.2; simp; omega)
      have hl2 : acc2.length ≤ 2 * 900 + 1 := by have := K3.out.2.2; omega
      clear K3
      refine region_until (S := fun w' => Hid (WW w l (some ⟨b, off, none⟩) c A q (.slice p2 acc2.length c2) (.slice p2 acc2.length c2) acc2 w')) (fun j => j == 8 || j == 9 || j == 10) (by kernel_rfl) (HD) (fun hHeld => ?_)
      refine anyU_take (i := 0) (oi := { dst := some 43, op := Op.fieldAddr 25 (Operand.tmp 5) 0, type := 0, pos := "ref.go:62", after := #[], guard := none }) (v := ?_) rfl (by kernel_rfl) (by kernel_rfl) (by kernel_rfl) (by kernel_rfl) (by kernel_rfl) (fun _ _ _ h => h) (Or.inl ⟨by rfl, ?_⟩) hHeld ?_
      rotate_left 1
      · intro u hSu
        obtain ⟨e0, e1, e2, -⟩ := hSu.out.e
        obtain ⟨a0, a1, a2, a3, a4⟩ := rda_at hSu.out.db HB.out.1
        go_simp
        first | done | with_reducible rfl
      (try simp only [Act.put, List.setIfInBounds_toArray, List.set_cons_zero, List.set_cons_succ])
      refine anyU_take (i := 1) (oi := { dst := some 44, op := Op.load 23 (Operand.tmp 43), type := 23, pos := "ref.go:62", after := #[{ on := 0, ground := Ground.data }], guard := none }) (v := ?_) rfl (by kernel_rfl) (by kernel_rfl) (by kernel_rfl) (by kernel_rfl) (by kernel_rfl) (fun _ _ _ h => h) (Or.inl ⟨by rfl, ?_⟩) hHeld ?_
      rotate_left 1
      · intro u hSu
        obtain ⟨e0, e1, e2, -⟩ := hSu.out.e
        obtain ⟨a0, a1, a2, a3, a4⟩ := rda_at hSu.out.db HB.out.1
        go_simp
        first | done | with_reducible rfl
      (try simp only [Act.put, List.setIfInBounds_toArray, List.set_cons_zero, List.set_cons_succ])
      refine anyU_take (i := 2) (oi := { dst := some 45, op := Op.fieldAddr 25 (Operand.tmp 2) 0, type := 0, pos := "ref.go:62", after := #[], guard := none }) (v := ?_) rfl (by kernel_rfl) (by kernel_rfl) (by kernel_rfl) (by kernel_rfl) (by kernel_rfl) (fun _ _ _ h => h) (Or.inl ⟨by rfl, ?_⟩) hHeld ?_
      rotate_left 1
      · intro u hSu
        obtain ⟨e0, e1, e2, -⟩ := hSu.out.e
        obtain ⟨a0, a1, a2, a3, a4⟩ := rda_at hSu.out.db HB.out.1
        go_simp
        first | done | with_reducible rfl
      (try simp only [Act.put, List.setIfInBounds_toArray, List.set_cons_zero, List.set_cons_succ])
      refine anyU_take (i := 3) (oi := { dst := some 46, op := Op.load 23 (Operand.tmp 45), type := 23, pos := "ref.go:62", after := #[{ on := 2, ground := Ground.data }], guard := none }) (v := ?_) rfl (by kernel_rfl) (by kernel_rfl) (by kernel_rfl) (by kernel_rfl) (by kernel_rfl) (fun _ _ _ h => h) (Or.inl ⟨by rfl, ?_⟩) hHeld ?_
      rotate_left 1
      · intro u hSu
        obtain ⟨e0, e1, e2, -⟩ := hSu.out.e
        obtain ⟨a0, a1, a2, a3, a4⟩ := rda_at hSu.out.db HB.out.1
        go_simp
        first | done | with_reducible rfl
      (try simp only [Act.put, List.setIfInBounds_toArray, List.set_cons_zero, List.set_cons_succ])
      refine anyU_take (i := 4) (oi := { dst := some 47, op := Op.move (Operand.tmp 7), type := 3, pos := "ref.go:62", after := #[], guard := none }) (v := ?_) rfl (by kernel_rfl) (by kernel_rfl) (by kernel_rfl) (by kernel_rfl) (by kernel_rfl) (fun _ _ _ h => h) (Or.inl ⟨by rfl, ?_⟩) hHeld ?_
      rotate_left 1
      · intro u hSu
        obtain ⟨e0, e1, e2, -⟩ := hSu.out.e
        obtain ⟨a0, a1, a2, a3, a4⟩ := rda_at hSu.out.db HB.out.1
        go_simp
        first | done | with_reducible rfl
      (try simp only [Act.put, List.setIfInBounds_toArray, List.set_cons_zero, List.set_cons_succ])
      refine anyU_take (i := 5) (oi := { dst := some 48, op := Op.indexAddr 23 (Operand.tmp 46) (Operand.tmp 47), type := 0, pos := "ref.go:62", after := #[{ on := 3, ground := Ground.data }, { on := 4, ground := Ground.data }], guard := none }) (v := ?_) rfl (by kernel_rfl) (by kernel_rfl) (by kernel_rfl) (by kernel_rfl) (by kernel_rfl) (fun _ _ _ h => h) (Or.inl ⟨by rfl, ?_⟩) hHeld ?_
      rotate_left 1
      · intro u hSu
        obtain ⟨e0, e1, e2, -⟩ := hSu.out.e
        obtain ⟨a0, a1, a2, a3, a4⟩ := rda_at hSu.out.db HB.out.1
        go_simp
        first | done | with_reducible rfl
      (try simp only [Act.put, List.setIfInBounds_toArray, List.set_cons_zero, List.set_cons_succ])
      refine anyU_take (i := 6) (oi := { dst := some 49, op := Op.load 38 (Operand.tmp 48), type := 38, pos := "ref.go:62", after := #[{ on := 5, ground := Ground.data }], guard := none }) (v := ?_) rfl (by kernel_rfl) (by kernel_rfl) (by kernel_rfl) (by kernel_rfl) (by kernel_rfl) (fun _ _ _ h => h) (Or.inl ⟨by rfl, ?_⟩) hHeld ?_
      rotate_left 1
      · intro u hSu
        obtain ⟨e0, e1, e2, -⟩ := hSu.out.e
        obtain ⟨a0, a1, a2, a3, a4⟩ := rda_at hSu.out.db HB.out.1
        go_simp
        first | done | with_reducible rfl
      (try simp only [Act.put, List.setIfInBounds_toArray, List.set_cons_zero, List.set_cons_succ])
      refine anyU_ready (rs := [7]) (by kernel_rfl) (by simp) ?_
      refine EachU.cons (o := { dst := some 50, op := Op.buildSlice 23 1 #[(0, Operand.tmp 49)], type := 23, pos := "ref.go:62", after := #[{ on := 6, ground := Ground.data }], guard := none }) rfl (fun Kz hK => ?_) EachU.nil
      go_simp
      have HQ := Lib.hid ((HK3.out.box #[.int .i64 B.r, .int .i64 B.q, .bool B.cp, .slice B.pL B.L.length B.cL, .slice B.pC B.C.length B.cC] 38).1.keep (grown_drew (grown_refl _ none)))
      refine hK.out _ _ (fun _ => HQ) (fun hH2 => ?_)
      clear hK Kz hHeld
      have hHeld := hH2 rfl
      clear hH2
      (try simp only [Act.put, List.setIfInBounds_toArray, List.set_cons_zero, List.set_cons_succ])
      refine anyU_ready (rs := [8]) (by kernel_rfl) (by simp) ?_
      refine EachU.cons (o := { dst := some 51, op := Op.call { callee := Callee.builtin Builtin.append, args := #[Operand.tmp 44, Operand.tmp 50], argTypes := #[23, 23] }, type := 23, pos := "ref.go:62", after := #[{ on := 1, ground := Ground.data }, { on := 7, ground := Ground.data }], guard := none }) rfl (fun Kz hK => ?_) EachU.nil
      refine (astep_app adL 5 72 (by decide) adL_len ad_one 38 23 ia _ Try.underlying23 hia hz0 hz1 hz2 rfl (by decide) (by rfl) _ _ (by rfl) (w.heap.size + 4) _ acc2 (by rfl) HQ.out.own (some ⟨_, 0, none⟩) 1 1 [B] (by rfl) rfl (by simp) (fun _ => True) (rdf_one _ trivial (cells5V _ _ _ _ _ _ _) 1) (by omega) (by simp; omega) (by have := HQ.out.sz; omega) ?_)
      intro p4 c4 w8 hown hg hat
      have HD5 := Lib.hid (HQ.out.app (Or.inr HB.out.2) hown hg)
      obtain ⟨-, b0, fB, -⟩ := HD5.out.e
      clear hown hg hat HQ
      refine hK.out _ _ (fun h => by cases h) (fun _ => ?_)
      clear hK Kz
      (try simp only [Act.put, List.setIfInBounds_toArray, List.set_cons_zero, List.set_cons_succ])
      refine anyU_ready (rs := [9]) (by kernel_rfl) (by simp) ?_
      refine EachU.cons (o := { dst := some 52, op := Op.fieldAddr 25 (Operand.tmp 5) 0, type := 0, pos := "ref.go:62", after := #[{ on := 0, ground := Ground.phase }, { on := 1, ground := Ground.phase }, { on := 2, ground := Ground.phase }, { on := 3, ground := Ground.phase }, { on := 4, ground := Ground.phase }, { on := 5, ground := Ground.phase }, { on := 6, ground := Ground.phase }, { on := 7, ground := Ground.phase }, { on := 8, ground := Ground.phase }], guard := none }) rfl (fun Kz hK => ?_) EachU.nil
      go_simp
      refine hK.out _ _ (fun h => by cases h) (fun _ => ?_)
      clear hK Kz
      (try simp only [Act.put, List.setIfInBounds_toArray, List.set_cons_zero, List.set_cons_succ])
      refine anyU_ready (rs := [10]) (by kernel_rfl) (by simp) ?_
      refine EachU.cons (o := { dst := none, op := Op.store 23 (Operand.tmp 52) (Operand.tmp 51), type := 0, pos := "ref.go:62", after := #[{ on := 9, ground := Ground.data }, { on := 8, ground := Ground.data }, { on := 8, ground := Ground.chain }, { on := 0, ground := Ground.phase }, { on := 1, ground := Ground.phase }, { on := 2, ground := Ground.phase }, { on := 3, ground := Ground.phase }, { on := 4, ground := Ground.phase }, { on := 5, ground := Ground.phase }, { on := 6, ground := Ground.phase }, { on := 7, ground := Ground.phase }, { on := 8, ground := Ground.phase }], guard := none }) rfl (fun Kz hK => ?_) EachU.nil
      go_simp
      refine hK.out _ _ (fun h => by cases h) (fun _ => ?_)
      clear hK Kz
      (try simp only [Act.put, List.setIfInBounds_toArray, List.set_cons_zero, List.set_cons_succ])
      refine anyU_done (by kernel_rfl) ?_ _
      have HNX := Lib.hid HD5.out.put
      clear HD5 hHeld b0 fB HD
      go_wp2_with fail
      exact ⟨⟨k + 1, dn2, acc2 ++ [B], _, by omega, congrArg _ (by omega), rfl, Lib.hid ⟨HNX.out, HW1.out, HLN.out⟩⟩, by simp only [RowKit.intOf]; omega⟩
  · obtain rfl : k = l.length := by omega
    have hput : (if dn = true then acc else acc ++ [A]) = putA l A := by
      obtain ⟨k0, hk0⟩ := HASC.out
      have h1 := wS_fin (A := A) [] hk0
      have h2 := K.out.2.1
      rw [List.take_length] at h2
      unfold wSt at h2
      rw [h2] at h1
      exact h1
    have HP := Lib.hid hput
    clear hput HASC
    have hla : acc.length ≤ 1800 := by have := K.out.2.2; omega
    cases dn with
    | true =>
      obtain ⟨t1, t2, t3, t4, t5⟩ := K.out.1.fin hnA
      have HF : Hid (WithRes l A q w (.returned (.agg #[.slice pu acc.length cu])) _) := Lib.hid ⟨acc, pu, cu, rfl, HP.out, t2, ⟨hcu1, hcu2⟩, own_nl K.out.1.own, t3⟩
      have HT := Lib.hid t1
      clear t1 t2 t3 K HP
      go_wp2_with fail
      refine bodyPost_ret (res_db1 rfl _ _ (w.heap.size + 2) _ rfl HT.out) rfl ?_
      exact HF.out
    | false =>
      have K2 := Lib.hid (K.out.1.box #[.int .i64 A.r, .int .i64 A.q, .bool A.cp, .slice A.pL A.L.length A.cL, .slice A.pC A.C.length A.cC] 38)
      go_wp2_with (at_builtin; refine hold_on ?_)
      refine Lib.hid ?_
      refine wpList_append_f adL 5 72 (by decide) adL_len ad_one 38 23 ia _ Try.underlying23 hia hz0 hz1 hz2 rfl (by decide) rfl _ _ rfl (w.heap.size + 4) _ acc _ rfl rfl K2.out.1.own (some ⟨_, 0, none⟩) 1 1 [A] rfl rfl (fun h => by cases h) (fun _ => True) (rdf_one _ trivial (cells5V _ _ _ _ _ _ _) 1) (Nat.le_refl _) (by simp; omega) K2.out.1.sz ?_
      intro v' w5 hown hg
      have K3 := Lib.hid (K2.out.1.app (Or.inl rfl) hown hg)
      obtain ⟨p5, c5, rfl, hc51, hc52⟩ := own_shape hown
      have hnil5 := own_nl hown
      have K4 := Lib.hid K3.out.put
      clear hown hg K2 K e0 e1 e2 e3 e4 e5 e6 e7
      obtain ⟨e0, e1, e2, e3, e4, e5, e6, e7⟩ := K3.out.e
      clear K3
      obtain ⟨t1, t2, t3, t4, t5⟩ := K4.out.fin hnA
      have HF : Hid (WithRes l A q w (.returned (.agg #[.slice p5 (acc ++ [A]).length c5])) _) := Lib.hid ⟨acc ++ [A], p5, c5, rfl, HP.out, t2, ⟨hc51, hc52⟩, hnil5, t3⟩
      have HT := Lib.hid t1
      obtain ⟨x0, x1, -⟩ := K4.out.e
      clear t1 t2 t3 K4 HP
      rw [show (acc ++ [A]).length = acc.length + 1 by simp] at HF HT t4 t5 x0 x1
      go_upto_region 13 with fail
      clear e0 e1 e2 e3 e4 e5 e6 e7
      generalize World.setCell _ _ _ = w6 at *
      go_wp2_with fail
      refine bodyPost_ret (res_db1 rfl _ _ (w.heap.size + 2) _ rfl HT.out) rfl ?_
      exact HF.out
end Go.Proofs.Ytnpkihioklpnmaa

/- Two links compared, two claims compared. -/
namespace Go.Proofs.Ytnpkihioklpnmaa
open Go.RowKit Bs
set_option maxRecDepth 100000 in
theorem neq_reach (x y : T3) (w : World) : (binOp .neq 73 (.agg #[.int .i64 x.a, .int .i64 x.b, .int .i64 x.c]) (.agg #[.int .i64 y.a, .int .i64 y.b, .int .i64 y.c])).run Try.prog w = .ok (.bool (!(x.a == y.a && (x.b == y.b && x.c == y.c)))) w := by
  go_simp
  by_cases h1 : x.a = y.a <;> by_cases h2 : x.b = y.b <;> by_cases h3 : x.c = y.c <;> simp [h1, h2, h3]
set_option maxRecDepth 100000 in
theorem neq_claim (x y : T3) (w : World) : (binOp .neq 62 (.agg #[.int .i64 x.a, .int .i64 x.b, .int .i64 x.c]) (.agg #[.int .i64 y.a, .int .i64 y.b, .int .i64 y.c])).run Try.prog w = .ok (.bool (!(x.a == y.a && (x.b == y.b && x.c == y.c)))) w := by
  go_simp
  by_cases h1 : x.a = y.a <;> by_cases h2 : x.b = y.b <;> by_cases h3 : x.c = y.c <;> simp [h1, h2, h3]
set_option maxRecDepth 100000 in
theorem t3_eq (x y : T3) : (x.a == y.a && (x.b == y.b && x.c == y.c)) = decide (x = y) := by
  cases x; cases y
  simp only [T3.mk.injEq, Bool.decide_and]
  rfl
end Go.Proofs.Ytnpkihioklpnmaa

/- The reference's Same. -/
namespace Go.Proofs.Ytnpkihioklpnmaa
open Go.RowKit Bs
set_option maxRecDepth 100000 in
set_option maxHeartbeats 6400000 in
theorem rsame_any (A B : Ad) (q q2 : Nat → Prop) (w : World) (hA : AdOk w q A) (hB : AdOk w q2 B) :
    Calls Try.prog 21 #[A.val, B.val] w fun e w' => e = .returned (.bool (decide (cmpA A B = 0))) ∧ w.grownBy w' none := by
  have hm1 := Nat.le_trans hA.hl.1 hA.hl.2
  have hm2 := Nat.le_trans hA.hc.1 hA.hc.2
  have HZ := Lib.hid (two_ads w A B)
  have HOK : Hid (TwoA _ A B q q2) := Lib.hid ⟨hA.keep HZ.out.2, hB.keep HZ.out.2⟩
  have HB := Lib.hid HZ.out.1
  have K := Lib.hid HZ.out.2
  clear HZ hA hB
  obtain ⟨X, hX⟩ : ∃ X, decide (cmpA A B = 0) = X := ⟨_, rfl⟩
  rw [hX]
  have HX := Lib.hid hX
  clear hX
  unfold Ad.val
  obtain ⟨pL, hpL⟩ : ∃ p, A.pL = p := ⟨_, rfl⟩
  obtain ⟨pC, hpC⟩ : ∃ p, A.pC = p := ⟨_, rfl⟩
  obtain ⟨pL2, hpL2⟩ : ∃ p, B.pL = p := ⟨_, rfl⟩
  obtain ⟨pC2, hpC2⟩ : ∃ p, B.pC = p := ⟨_, rfl⟩
  rw [hpL, hpC, hpL2, hpC2]
  have HP := Lib.hid (And.intro hpL (And.intro hpC (And.intro hpL2 hpC2)))
  unfold adC at HB K HOK
  rw [hpL, hpC, hpL2, hpC2] at HB K HOK
  go_enter Try.func21, Try.ntmps21
  go_upto_region 1 with fail
  generalize (w.alloc _).alloc _ = wa at *
  have HB : Hid (wa.heap[w.heap.size]? = some (.cells (adC A) 38 (0, 0)) ∧ wa.heap[w.heap.size + 1]? = some (.cells (adC B) 38 (0, 0))) := Lib.hid (by unfold adC; rw [hpL, hpC, hpL2, hpC2]; exact HB.out)
  have GZ : Hid (wa.grownBy wa none) := Lib.hid (grown_refl _ _)
  clear hpL hpC hpL2 hpC2
  obtain ⟨a0, a1, a2, a3, a4, b0, b1, b2, b3, b4, -⟩ := keepTA HB.out GZ
  rw [HP.out.1] at a3
  rw [HP.out.2.1] at a4
  rw [HP.out.2.2.1] at b3
  rw [HP.out.2.2.2] at b4
  by_cases h0 : A.r = B.r
  rotate_left
  · obtain rfl : X = false := by rw [← HX.out]; exact decide_eq_false (fun h => h0 (cmpA_zero.1 h).1)
    have h' : (A.r == B.r) = false := by simpa using h0
    go_wp2_with fail
    go_ret
    exact ⟨rfl, K.out⟩
  by_cases h1 : A.q = B.q
  rotate_left
  · obtain rfl : X = false := by rw [← HX.out]; exact decide_eq_false (fun h => h1 (cmpA_zero.1 h).2.1)
    have h' : (A.q == B.q) = false := by simpa using h1
    go_wp2_with fail
    go_ret
    exact ⟨rfl, K.out⟩
  by_cases h2 : A.cp = B.cp
  rotate_left
  · obtain rfl : X = false := by rw [← HX.out]; exact decide_eq_false (fun h => h2 (cmpA_zero.1 h).2.2.1)
    have h' : (A.cp == B.cp) = false := by simpa using h2
    clear h2
    go_wp2_with fail
    go_ret
    exact ⟨rfl, K.out⟩
  have h2' : (A.cp == B.cp) = true := by simpa using h2
  have HE := Lib.hid (And.intro h0 (And.intro h1 h2))
  clear h2
  by_cases h3 : A.L.length = B.L.length
  rotate_left
  · obtain rfl : X = false := by rw [← HX.out]; exact decide_eq_false (fun h => h3 (congrArg List.length (cmpA_zero.1 h).2.2.2.1))
    have h3' : ¬ (A.L.length : Int) = (B.L.length : Int) := by omega
    clear h3
    go_wp2_with fail
    go_ret
    exact ⟨rfl, K.out⟩
  by_cases h4 : A.C.length = B.C.length
  rotate_left
  · obtain rfl : X = false := by rw [← HX.out]; exact decide_eq_false (fun h => h4 (congrArg List.length (cmpA_zero.1 h).2.2.2.2))
    have h4' : ¬ (A.C.length : Int) = (B.C.length : Int) := by omega
    rw [← h3] at b3 ⊢
    clear h3 h4
    go_wp2_with fail
    go_ret
    exact ⟨rfl, K.out⟩
  rw [← h3] at b3 ⊢
  rw [← h4] at b4 ⊢
  have H34 := Lib.hid (And.intro h3 h4)
  clear h3 h4
  go_wp2_with fail
  clear h2' h0 h1 a0 a1 a2 a3 a4 b0 b1 b2 b3 b4
  go_loopw [5] (fun a wr => ∃ k : Nat, k ≤ A.L.length ∧ a = .int .i64 (k : Int) ∧ Hid (A.L.take k = B.L.take k) ∧ Hid (wa.grownBy wr none)) (fun a _ => A.L.length - (RowKit.intOf a).toNat)
  case atStart => exact ⟨0, Nat.zero_le _, rfl, Lib.hid rfl, GZ⟩
  case round =>
  obtain ⟨w2, rfl⟩ : ∃ w2, w2 = wr := ⟨_, rfl⟩
  obtain ⟨k, hk, rfl, HI, HG⟩ := hrel
  clear GZ
  obtain ⟨a0, a1, a2, a3, a4, b0, b1, b2, b3, b4, -⟩ := keepTA HB.out HG
  rw [HP.out.1] at a3
  rw [HP.out.2.1] at a4
  rw [HP.out.2.2.1, ← H34.out.1] at b3
  rw [HP.out.2.2.2, ← H34.out.2] at b4
  clear a0 a1 a2 b0 b1 b2
  by_cases hlt : k < A.L.length
  · obtain ⟨-, bL, oL, hp, -, hc⟩ := rd3_cells (HOK.out.a.keep HG.out).l (by omega)
    obtain rfl : pL = some ⟨bL, oL, none⟩ := HP.out.1.symm.trans hp
    obtain ⟨x, hx⟩ : ∃ x, A.L[k]? = some x := ⟨_, List.getElem?_eq_getElem hlt⟩
    obtain ⟨x0, x1, x2⟩ := hc k x hx
    have hlt2 : k < B.L.length := by have := H34.out.1; omega
    obtain ⟨-, bM, oM, hp2, -, hd⟩ := rd3_cells (HOK.out.b.keep HG.out).l (by omega)
    obtain rfl : pL2 = some ⟨bM, oM, none⟩ := HP.out.2.2.1.symm.trans hp2
    obtain ⟨y, hy⟩ : ∃ y, B.L[k]? = some y := ⟨_, List.getElem?_eq_getElem hlt2⟩
    obtain ⟨y0, y1, y2⟩ := hd k y hy
    have HXY := Lib.hid (And.intro hx hy)
    clear hp hp2 hc hd hx hy hlt2
    obtain ⟨v, hv⟩ : ∃ v, decide (x = y) = v := ⟨_, rfl⟩
    have hn : ∀ w, (binOp .neq 73 (.agg #[.int .i64 x.a, .int .i64 x.b, .int .i64 x.c]) (.agg #[.int .i64 y.a, .int .i64 y.b, .int .i64 y.c])).run Try.prog w = .ok (.bool (!v)) w := fun w => by rw [neq_reach, t3_eq, hv]
    have HV := Lib.hid hv
    clear hv
    go_wp2_with fail
    go_quiet (fail)
    clear x0 x1 x2 y0 y1 y2 hn a3 a4 b3 b4
    cases v with
    | false =>
      obtain rfl : X = false := by
        rw [← HX.out]
        exact decide_eq_false (fun h => by
          have e := (cmpA_zero.1 h).2.2.2.1
          have h1 := HXY.out.1
          rw [e, HXY.out.2] at h1
          exact of_decide_eq_false HV.out (Option.some.inj h1).symm)
      go_wp2_with fail
      go_ret
      exact ⟨rfl, grown_trans K.out (grown_trans HG.out (grown_drewN _ _ _))⟩
    | true =>
      have HI2 : Hid (A.L.take (k + 1) = B.L.take (k + 1)) := Lib.hid (by
        rw [List.take_add_one, List.take_add_one, HI.out, HXY.out.1, HXY.out.2, of_decide_eq_true HV.out])
      go_wp2_with fail
      exact ⟨⟨k + 1, by omega, congrArg _ (by omega), HI2, Lib.hid (grown_trans HG.out (grown_drewN _ _ _))⟩, by simp only [RowKit.intOf]; omega⟩
  · obtain rfl : k = A.L.length := by omega
    have HLE : Hid (A.L = B.L) := Lib.hid (by
      have := HI.out
      rw [List.take_length, H34.out.1, List.take_length] at this
      exact this)
    clear HI
    go_wp2_with fail
    clear a3 a4 b3 b4
    go_loopw [6] (fun a wr => ∃ k : Nat, k ≤ A.C.length ∧ a = .int .i64 (k : Int) ∧ Hid (A.C.take k = B.C.take k) ∧ Hid (wa.grownBy wr none)) (fun a _ => A.C.length - (RowKit.intOf a).toNat)
    case atStart => exact ⟨0, Nat.zero_le _, rfl, Lib.hid rfl, HG⟩
    case round =>
    obtain ⟨w3, rfl⟩ : ∃ w3, w3 = wr := ⟨_, rfl⟩
    obtain ⟨k, hk, rfl, HI, HG3⟩ := hrel
    clear HG
    obtain ⟨a0, a1, a2, a3, a4, b0, b1, b2, b3, b4, -⟩ := keepTA HB.out HG3
    rw [HP.out.1] at a3
    rw [HP.out.2.1] at a4
    rw [HP.out.2.2.1, ← H34.out.1] at b3
    rw [HP.out.2.2.2, ← H34.out.2] at b4
    clear a0 a1 a2 b0 b1 b2
    by_cases hlt : k < A.C.length
    · obtain ⟨-, bL, oL, hp, -, hc⟩ := rd3_cells (HOK.out.a.keep HG3.out).c (by omega)
      obtain rfl : pC = some ⟨bL, oL, none⟩ := HP.out.2.1.symm.trans hp
      obtain ⟨x, hx⟩ : ∃ x, A.C[k]? = some x := ⟨_, List.getElem?_eq_getElem hlt⟩
      obtain ⟨x0, x1, x2⟩ := hc k x hx
      have hlt2 : k < B.C.length := by have := H34.out.2; omega
      obtain ⟨-, bM, oM, hp2, -, hd⟩ := rd3_cells (HOK.out.b.keep HG3.out).c (by omega)
      obtain rfl : pC2 = some ⟨bM, oM, none⟩ := HP.out.2.2.2.symm.trans hp2
      obtain ⟨y, hy⟩ : ∃ y, B.C[k]? = some y := ⟨_, List.getElem?_eq_getElem hlt2⟩
      obtain ⟨y0, y1, y2⟩ := hd k y hy
      have HXY := Lib.hid (And.intro hx hy)
      clear hp hp2 hc hd hx hy hlt2
      obtain ⟨v, hv⟩ : ∃ v, decide (x = y) = v := ⟨_, rfl⟩
      have hn : ∀ w, (binOp .neq 62 (.agg #[.int .i64 x.a, .int .i64 x.b, .int .i64 x.c]) (.agg #[.int .i64 y.a, .int .i64 y.b, .int .i64 y.c])).run Try.prog w = .ok (.bool (!v)) w := fun w => by rw [neq_claim, t3_eq, hv]
      have HV := Lib.hid hv
      clear hv
      go_wp2_with fail
      go_quiet (fail)
      clear x0 x1 x2 y0 y1 y2 hn a3 a4 b3 b4
      cases v with
      | false =>
        obtain rfl : X = false := by
          rw [← HX.out]
          exact decide_eq_false (fun h => by
            have e := (cmpA_zero.1 h).2.2.2.2
            have h1 := HXY.out.1
            rw [e, HXY.out.2] at h1
            exact of_decide_eq_false HV.out (Option.some.inj h1).symm)
        go_wp2_with fail
        go_ret
        exact ⟨rfl, grown_trans K.out (grown_trans HG3.out (grown_drewN _ _ _))⟩
      | true =>
        have HI2 : Hid (A.C.take (k + 1) = B.C.take (k + 1)) := Lib.hid (by
          rw [List.take_add_one, List.take_add_one, HI.out, HXY.out.1, HXY.out.2, of_decide_eq_true HV.out])
        go_wp2_with fail
        exact ⟨⟨k + 1, by omega, congrArg _ (by omega), HI2, Lib.hid (grown_trans HG3.out (grown_drewN _ _ _))⟩, by simp only [RowKit.intOf]; omega⟩
    · obtain rfl : k = A.C.length := by omega
      have hCE : A.C = B.C := by
        have := HI.out
        rw [List.take_length, H34.out.2, List.take_length] at this
        exact this
      obtain rfl : X = true := by
        rw [← HX.out]
        exact decide_eq_true (cmpA_zero.2 ⟨HE.out.1, HE.out.2.1, HE.out.2.2, HLE.out, hCE⟩)
      clear hCE
      go_wp2_with fail
      go_ret
      exact ⟨rfl, grown_trans K.out HG3.out⟩
end Go.Proofs.Ytnpkihioklpnmaa

/- The reference: when the claims of an advert are valid, and when an advert is. -/
namespace Go.Proofs.Ytnpkihioklpnmaa
open Go.RowKit Bs
set_option maxRecDepth 100000 in
theorem rin_any (n lo hi : Int) (w : World) :
    Calls Try.prog 82 #[.int .i64 n, .int .i64 lo, .int .i64 hi] w fun e w' => e = .returned (.bool (decide (lo ≤ n ∧ n ≤ hi))) ∧ w = w' := by
  by_cases h1 : lo ≤ n
  · by_cases h2 : n ≤ hi
    · rw [decide_eq_true (show lo ≤ n ∧ n ≤ hi from ⟨h1, h2⟩)]
      go_enter Try.func82, Try.ntmps82
      go_wp2_with fail
      go_ret
      exact ⟨rfl, rfl⟩
    · rw [decide_eq_false (show ¬ (lo ≤ n ∧ n ≤ hi) from fun h => h2 h.2)]
      go_enter Try.func82, Try.ntmps82
      go_wp2_with fail
      go_ret
      exact ⟨rfl, rfl⟩
  · rw [decide_eq_false (show ¬ (lo ≤ n ∧ n ≤ hi) from fun h => h1 h.1)]
    go_enter Try.func82, Try.ntmps82
    go_wp2_with fail
    go_ret
    exact ⟨rfl, rfl⟩
set_option maxRecDepth 100000 in
theorem rin_lit (n lo hi : Int) (b : Bool) (h : decide (lo ≤ n ∧ n ≤ hi) = b) (w : World) :
    Calls Try.prog 82 #[.int .i64 n, .int .i64 lo, .int .i64 hi] w fun e w' => e = .returned (.bool b) ∧ w = w' := by
  rw [← h]; exact rin_any n lo hi w
set_option maxRecDepth 100000 in
theorem vlr_lit (n : Int) (b : Bool) (h : vl n = b) (w : World) :
    Calls Try.prog 110 #[.int .i64 n] w fun e w' => e = .returned (.bool b) ∧ w = w' := by
  rw [← h]; exact vlr_any n w
set_option maxRecDepth 100000 in
set_option maxHeartbeats 6400000 in
theorem rvc_any (L : List T3) (p : Option Addr) (c : Nat) (q : Nat → Prop) (w : World) (hR : Rd3 w q (.slice p L.length c) L) (hm : L.length ≤ 9223372036854775807) :
    Calls Try.prog 83 #[.slice p L.length c] w fun e w' => e = .returned (.bool (vClaims L)) ∧ w.grownBy w' none := by
  have HR := Lib.hid hR
  clear hR
  by_cases h8 : 8 < L.length
  · have hX : vClaims L = false := by unfold vClaims; rw [decide_eq_false (by omega)]; rfl
    rw [hX]
    clear hX
    go_enter Try.func83, Try.ntmps83
    go_wp2_with fail
    go_ret
    exact ⟨rfl, grown_refl _ _⟩
  · obtain ⟨X, hX⟩ : ∃ X, vClaims L = X := ⟨_, rfl⟩
    rw [hX]
    have I0 : Hid (vCm (lastA (-1) L 0) (L.drop 0) = X ∧ -1 ≤ lastA (-1) L 0) := Lib.hid (by
      rw [lastA_zero]
      refine ⟨?_, by omega⟩
      unfold vClaims at hX
      rw [decide_eq_true (by omega)] at hX
      exact hX)
    have G0 : Hid (w.grownBy w none) := Lib.hid (grown_refl _ _)
    clear hX
    go_enter Try.func83, Try.ntmps83
    go_wp2_with fail
    go_loopw [3] (fun a wr => ∃ k : Nat, k ≤ L.length ∧ a = .int .i64 (k : Int) ∧ Hid (vCm (lastA (-1) L k) (L.drop k) = X ∧ -1 ≤ lastA (-1) L k) ∧ Hid (w.grownBy wr none)) (fun a _ => L.length - (RowKit.intOf a).toNat)
    case atStart => exact ⟨0, Nat.zero_le _, rfl, I0, G0⟩
    case round =>
      obtain ⟨k, hk, rfl, HI, HG⟩ := hrel
      clear I0 G0
      by_cases hlt : k < L.length
      · have hlti : (k : Int) < (L.length : Int) := by omega
        obtain ⟨-, b, off, rfl, -, -⟩ := rd3_cells HR.out (by omega)
        obtain ⟨x, hx⟩ : ∃ x, L[k]? = some x := ⟨_, List.getElem?_eq_getElem hlt⟩
        have HXX := Lib.hid hx
        have HS := Lib.hid (HI.out.1.symm.trans (vCm_step (d := -1) hx))
        have HLA := Lib.hid (lastA_succ (d := -1) hx)
        have hlo := HI.out.2
        obtain ⟨t, ht⟩ : ∃ t, lastA (-1) L k = t := ⟨_, rfl⟩
        rw [ht] at HS hlo
        have HTT := Lib.hid ht
        obtain ⟨v1, hv1⟩ : ∃ v1, decide ((0 : Int) ≤ x.a ∧ x.a ≤ 7) = v1 := ⟨_, rfl⟩
        obtain ⟨v2, hv2⟩ : ∃ v2, decide ((1 : Int) ≤ x.b ∧ x.b ≤ 256) = v2 := ⟨_, rfl⟩
        obtain ⟨v3, hv3⟩ : ∃ v3, decide (x.c = 8 ∨ x.c = 16 ∨ x.c = 32 ∨ x.c = 64) = v3 := ⟨_, rfl⟩
        have HV1 := Lib.hid hv1
        have HV2 := Lib.hid hv2
        have HV3 : Hid (vl x.c = v3) := Lib.hid (by rw [← hv3]; exact vl_dec x.c)
        have HO : Hid (okCm t x = (v1 && (v2 && (v3 && decide (t < x.a))))) := Lib.hid (by
          rw [← hv1, ← hv2, ← hv3, ← Bool.decide_and, ← Bool.decide_and, ← Bool.decide_and]
          unfold okCm
          exact decide_eq_decide.2 ⟨fun h => ⟨⟨by omega, h.2.1⟩, h.2.2.1, h.2.2.2, h.1⟩, fun h => ⟨h.2.2.2, h.1.2, h.2.1, h.2.2.1⟩⟩)
        clear hx ht hv1 hv2 hv3 HI
        obtain ⟨a0, a1, a2⟩ := rd3_at (HR.out.keep HG.out) HXX.out
        cases v1 with
        | false =>
          have hX : X = false := by rw [HS.out, HO.out]; rfl
          subst hX
          go_wp2_with fail
          go_big_quiet ((first | (go_at_call 82; first | with_reducible exact qt1 (rin_lit x.a 0 7 _ HV1.out _) | with_reducible exact qt1 (rin_lit x.b 1 256 _ HV2.out _)) | (go_at_call 110; first | with_reducible exact qt1 (vlr_lit x.c _ HV3.out _))))
          go_wp2_with fail
          go_ret
          exact ⟨rfl, grown_trans HG.out (grown_drewN _ _ _)⟩
        | true =>
        cases v2 with
        | false =>
          have hX : X = false := by rw [HS.out, HO.out]; rfl
          subst hX
          go_wp2_with fail
          go_big_quiet ((first | (go_at_call 82; first | with_reducible exact qt1 (rin_lit x.a 0 7 _ HV1.out _) | with_reducible exact qt1 (rin_lit x.b 1 256 _ HV2.out _)) | (go_at_call 110; first | with_reducible exact qt1 (vlr_lit x.c _ HV3.out _))))
          go_wp2_with fail
          go_ret
          exact ⟨rfl, grown_trans HG.out (grown_drewN _ _ _)⟩
        | true =>
        cases v3 with
        | false =>
          have hX : X = false := by rw [HS.out, HO.out]; rfl
          subst hX
          go_wp2_with fail
          go_big_quiet ((first | (go_at_call 82; first | with_reducible exact qt1 (rin_lit x.a 0 7 _ HV1.out _) | with_reducible exact qt1 (rin_lit x.b 1 256 _ HV2.out _)) | (go_at_call 110; first | with_reducible exact qt1 (vlr_lit x.c _ HV3.out _))))
          go_wp2_with fail
          go_ret
          exact ⟨rfl, grown_trans HG.out (grown_drewN _ _ _)⟩
        | true =>
        have hxa : 0 ≤ x.a ∧ x.a ≤ 7 := of_decide_eq_true HV1.out
        by_cases hk0 : k = 0
        · have ht0 : t = -1 := by rw [← HTT.out, hk0, lastA_zero]
          have hta : t < x.a := by omega
          have hkb : decide (0 < k) = false := decide_eq_false (by omega)
          clear hk0
          have HN : Hid (vCm (lastA (-1) L (k + 1)) (L.drop (k + 1)) = X ∧ -1 ≤ lastA (-1) L (k + 1)) := Lib.hid ⟨by rw [HS.out, HO.out, decide_eq_true hta]; rfl, by rw [HLA.out]; omega⟩
          go_wp2_with fail
          go_big_quiet ((first | (go_at_call 82; first | with_reducible exact qt1 (rin_lit x.a 0 7 _ HV1.out _) | with_reducible exact qt1 (rin_lit x.b 1 256 _ HV2.out _)) | (go_at_call 110; first | with_reducible exact qt1 (vlr_lit x.c _ HV3.out _))))
          go_wp2_with fail
          exact ⟨⟨k + 1, by omega, congrArg _ (by omega), HN, Lib.hid (grown_trans HG.out (grown_drewN _ _ _))⟩, by simp only [RowKit.intOf]; omega⟩
        · obtain ⟨j, rfl⟩ : ∃ j, k = j + 1 := ⟨k - 1, by omega⟩
          obtain ⟨y, hy⟩ : ∃ y, L[j]? = some y := ⟨_, List.getElem?_eq_getElem (by omega)⟩
          have hty : t = y.a := by rw [← HTT.out, lastA_succ hy]
          obtain ⟨z0, z1, z2⟩ := rd3_at (HR.out.keep HG.out) hy
          have hjp : (0 : Int) < ((j + 1 : Nat) : Int) := by omega
          have hjl : (j : Int) < (L.length : Int) := by omega
          have hj2 : ((j + 1 : Nat) : Int) - 1 = (j : Int) := by omega
          clear hy
          by_cases hta : t < x.a
          · have hc1 : ¬ x.a ≤ y.a := by omega
            have hc2 : decide (x.a ≤ y.a) = false := decide_eq_false hc1
            have HN : Hid (vCm (lastA (-1) L (j + 1 + 1)) (L.drop (j + 1 + 1)) = X ∧ -1 ≤ lastA (-1) L (j + 1 + 1)) := Lib.hid ⟨by rw [HS.out, HO.out, decide_eq_true hta]; rfl, by rw [HLA.out]; omega⟩
            go_wp2_with fail
            go_big_quiet ((first | (go_at_call 82; first | with_reducible exact qt1 (rin_lit x.a 0 7 _ HV1.out _) | with_reducible exact qt1 (rin_lit x.b 1 256 _ HV2.out _)) | (go_at_call 110; first | with_reducible exact qt1 (vlr_lit x.c _ HV3.out _))))
            go_wp2_with fail
            exact ⟨⟨j + 1 + 1, by omega, congrArg _ (by omega), HN, Lib.hid (grown_trans HG.out (grown_drewN _ _ _))⟩, by simp only [RowKit.intOf]; omega⟩
          · have hc1 : x.a ≤ y.a := by omega
            have hc2 : decide (x.a ≤ y.a) = true := decide_eq_true hc1
            have hX : X = false := by rw [HS.out, HO.out, decide_eq_false hta]; rfl
            subst hX
            go_wp2_with fail
            go_big_quiet ((first | (go_at_call 82; first | with_reducible exact qt1 (rin_lit x.a 0 7 _ HV1.out _) | with_reducible exact qt1 (rin_lit x.b 1 256 _ HV2.out _)) | (go_at_call 110; first | with_reducible exact qt1 (vlr_lit x.c _ HV3.out _))))
            go_wp2_with fail
            go_ret
            exact ⟨rfl, grown_trans HG.out (grown_drewN _ _ _)⟩
      · obtain rfl : k = L.length := by omega
        obtain rfl : X = true := by rw [← HI.out.1]; exact vCm_end
        go_wp2_with fail
        go_ret
        exact ⟨rfl, HG.out⟩
set_option maxRecDepth 100000 in
set_option maxHeartbeats 6400000 in
theorem rvalidA_any (A : Ad) (q : Nat → Prop) (w : World) (hA : AdOk w q A) :
    Calls Try.prog 51 #[A.val] w fun e w' => e = .returned (.bool (vAd A)) ∧ w.grownBy w' none := by
  have hm1 := Nat.le_trans hA.hl.1 hA.hl.2
  have hm2 := Nat.le_trans hA.hc.1 hA.hc.2
  obtain ⟨X, hX⟩ : ∃ X, vAd A = X := ⟨_, rfl⟩
  rw [hX]
  obtain ⟨r, q2, cp, L, C, pL, cL, pC, cC⟩ := A
  have hb := heap_alloc_new w (.cells #[.int .i64 r, .int .i64 q2, .bool cp, .slice pL L.length cL, .slice pC C.length cC] 38)
  have hg := World.grownBy_alloc w (.cells #[.int .i64 r, .int .i64 q2, .bool cp, .slice pL L.length cL, .slice pC C.length cC] 38) none
  have HL : Hid (Rd3 _ q (.slice pL L.length cL) L) := Lib.hid (hA.l.keep hg)
  have HC : Hid (Rd3 _ q (.slice pC C.length cC) C) := Lib.hid (hA.c.keep hg)
  have HB := Lib.hid (And.intro hb hg)
  simp only at hm1 hm2
  obtain ⟨v1, hv1⟩ : ∃ v1, decide ((1 : Int) ≤ r ∧ r ≤ 99) = v1 := ⟨_, rfl⟩
  obtain ⟨v2, hv2⟩ : ∃ v2, decide ((1 : Int) ≤ q2 ∧ q2 ≤ 1000000) = v2 := ⟨_, rfl⟩
  have HV1 := Lib.hid hv1
  have HV2 := Lib.hid hv2
  have HX : Hid (X = (v1 && (v2 && (decide (L.length ≤ 23) && (vRe r 0 L && vClaims C))))) := Lib.hid (by
    rw [← hX, ← hv1, ← hv2]
    unfold vAd vHd
    simp only [Bool.decide_and, Bool.and_assoc])
  clear hX hb hg hA hv1 hv2
  unfold Ad.val
  go_enter Try.func51, Try.ntmps51
  go_upto_region 1 with fail
  generalize w.alloc _ = wa at *
  obtain ⟨c0, c1, c2, c3, c4⟩ := row5 HB.out.1
  go_wp2_with fail
  refine (rin_lit r 1 99 _ HV1.out _).mono ?_
  rintro e w' ⟨rfl, rfl⟩
  cases v1 with
  | false =>
    obtain rfl : X = false := by rw [HX.out]; rfl
    go_wp2_with fail
    go_ret
    exact ⟨rfl, HB.out.2⟩
  | true =>
  go_wp2_with fail
  refine (rin_lit q2 1 1000000 _ HV2.out _).mono ?_
  rintro e w' ⟨rfl, rfl⟩
  cases v2 with
  | false =>
    obtain rfl : X = false := by rw [HX.out]; rfl
    go_wp2_with fail
    go_ret
    exact ⟨rfl, HB.out.2⟩
  | true =>
  by_cases h23 : 23 < L.length
  · obtain rfl : X = false := by rw [HX.out, decide_eq_false (show ¬ L.length ≤ 23 by omega)]; rfl
    go_wp2_with fail
    go_ret
    exact ⟨rfl, HB.out.2⟩
  obtain ⟨Y, hY⟩ : ∃ Y, vRe r 0 L = Y := ⟨_, rfl⟩
  have HXY : Hid (X = (Y && vClaims C)) := Lib.hid (by rw [HX.out, hY, decide_eq_true (show L.length ≤ 23 by omega)]; rfl)
  have I0 : Hid (vRe r (lastA 0 L 0) (L.drop 0) = Y ∧ 0 ≤ lastA 0 L 0) := Lib.hid (by rw [lastA_zero]; exact ⟨hY, by omega⟩)
  have G0 : Hid (wa.grownBy wa none) := Lib.hid (grown_refl _ _)
  clear hY HX
  go_wp2_with fail
  go_loopw [3] (fun a wr => ∃ k : Nat, k ≤ L.length ∧ a = .int .i64 (k : Int) ∧ Hid (vRe r (lastA 0 L k) (L.drop k) = Y ∧ 0 ≤ lastA 0 L k) ∧ Hid (wa.grownBy wr none)) (fun a _ => L.length - (RowKit.intOf a).toNat)
  case atStart => exact ⟨0, Nat.zero_le _, rfl, I0, G0⟩
  case round =>
    obtain ⟨k, hk, rfl, HI, HG⟩ := hrel
    clear I0 G0 c0 c1 c2 c3 c4
    obtain ⟨c0, c1, c2, c3, c4⟩ := row5 (kept_row HB.out.1 HG.out (by simp))
    by_cases hlt : k < L.length
    · have hlti : (k : Int) < (L.length : Int) := by omega
      obtain ⟨-, b, off, rfl, -, -⟩ := rd3_cells HL.out (by omega)
      obtain ⟨x, hx⟩ : ∃ x, L[k]? = some x := ⟨_, List.getElem?_eq_getElem hlt⟩
      obtain ⟨a0, a1, a2⟩ := rd3_at (HL.out.keep HG.out) hx
      have HS := Lib.hid (HI.out.1.symm.trans (vRe_step (r := r) (d := 0) hx))
      have HLA := Lib.hid (lastA_succ (d := 0) hx)
      have hlo := HI.out.2
      obtain ⟨t, ht⟩ : ∃ t, lastA 0 L k = t := ⟨_, rfl⟩
      rw [ht] at HS hlo
      have HTT := Lib.hid ht
      obtain ⟨v1, hv1⟩ : ∃ v1, decide ((1 : Int) ≤ x.a ∧ x.a ≤ 99) = v1 := ⟨_, rfl⟩
      obtain ⟨v2, hv2⟩ : ∃ v2, decide (x.a = r) = v2 := ⟨_, rfl⟩
      obtain ⟨v3, hv3⟩ : ∃ v3, decide ((1 : Int) ≤ x.b ∧ x.b ≤ 1000) = v3 := ⟨_, rfl⟩
      obtain ⟨v4, hv4⟩ : ∃ v4, decide ((0 : Int) ≤ x.c ∧ x.c ≤ 1000) = v4 := ⟨_, rfl⟩
      have HV1 := Lib.hid hv1
      have HV3 := Lib.hid hv3
      have HV4 := Lib.hid hv4
      have HO : Hid (okRe r t x = (v1 && (!v2 && (v3 && (v4 && decide (t < x.a)))))) := Lib.hid (by
        rw [← hv1, ← hv2, ← hv3, ← hv4]
        unfold okRe
        rw [Bool.eq_iff_iff]
        simp only [Bool.and_eq_true, Bool.not_eq_true', decide_eq_true_eq, decide_eq_false_iff_not]
        exact ⟨fun h => ⟨⟨by omega, h.2.1⟩, h.2.2.1, h.2.2.2.1, h.2.2.2.2, h.1⟩, fun h => ⟨h.2.2.2.2, h.1.2, h.2.1, h.2.2.1, h.2.2.2.1⟩⟩)
      have HEQ : Hid ((x.a == r) = v2 ∧ (x.a != r) = !v2) := Lib.hid (by rw [← hv2]; exact ⟨rfl, rfl⟩)
      have HBX := Lib.hid (heap_alloc_new wr (.cells #[.int .i64 x.a, .int .i64 x.b, .int .i64 x.c] 73))
      have HGA := Lib.hid (World.grownBy_alloc wr (.cells #[.int .i64 x.a, .int .i64 x.b, .int .i64 x.c] 73) none)
      have HXX := Lib.hid hx
      clear hx ht hv1 hv2 hv3 hv4 HI
      go_upto_region 7 with fail
      clear a0 a1 a2 c0 c1 c2 c3 c4
      generalize wr.alloc _ = w3 at *
      have HG3 := Lib.hid (grown_trans HG.out HGA.out)
      obtain ⟨c0, c1, c2, c3, c4⟩ := row5 (kept_row HB.out.1 HG3.out (by simp))
      obtain ⟨d0, d1, d2⟩ := row3 HBX.out
      clear HG HGA
      cases v1 with
      | false =>
        obtain rfl : X = false := by rw [HXY.out, HS.out, HO.out]; rfl
        go_big_quiet ((first | (go_at_call 82; first | with_reducible exact qt1 (rin_lit x.a 1 99 _ HV1.out _) | with_reducible exact qt1 (rin_lit x.b 1 1000 _ HV3.out _) | with_reducible exact qt1 (rin_lit x.c 0 1000 _ HV4.out _))))
        go_wp2_with fail
        go_ret
        exact ⟨rfl, grown_trans HB.out.2 (grown_trans HG3.out (grown_drewN _ _ _))⟩
      | true =>
      cases v2 with
      | true =>
        have he1 : (x.a == r) = true := HEQ.out.1
        have he2 : (x.a != r) = false := HEQ.out.2
        obtain rfl : X = false := by rw [HXY.out, HS.out, HO.out]; rfl
        go_big_quiet ((first | (go_at_call 82; first | with_reducible exact qt1 (rin_lit x.a 1 99 _ HV1.out _) | with_reducible exact qt1 (rin_lit x.b 1 1000 _ HV3.out _) | with_reducible exact qt1 (rin_lit x.c 0 1000 _ HV4.out _))))
        go_wp2_with fail
        go_ret
        exact ⟨rfl, grown_trans HB.out.2 (grown_trans HG3.out (grown_drewN _ _ _))⟩
      | false =>
      have he1 : (x.a == r) = false := HEQ.out.1
      have he2 : (x.a != r) = true := HEQ.out.2
      cases v3 with
      | false =>
        obtain rfl : X = false := by rw [HXY.out, HS.out, HO.out]; rfl
        go_big_quiet ((first | (go_at_call 82; first | with_reducible exact qt1 (rin_lit x.a 1 99 _ HV1.out _) | with_reducible exact qt1 (rin_lit x.b 1 1000 _ HV3.out _) | with_reducible exact qt1 (rin_lit x.c 0 1000 _ HV4.out _))))
        go_wp2_with fail
        go_ret
        exact ⟨rfl, grown_trans HB.out.2 (grown_trans HG3.out (grown_drewN _ _ _))⟩
      | true =>
      cases v4 with
      | false =>
        obtain rfl : X = false := by rw [HXY.out, HS.out, HO.out]; rfl
        go_big_quiet ((first | (go_at_call 82; first | with_reducible exact qt1 (rin_lit x.a 1 99 _ HV1.out _) | with_reducible exact qt1 (rin_lit x.b 1 1000 _ HV3.out _) | with_reducible exact qt1 (rin_lit x.c 0 1000 _ HV4.out _))))
        go_wp2_with fail
        go_ret
        exact ⟨rfl, grown_trans HB.out.2 (grown_trans HG3.out (grown_drewN _ _ _))⟩
      | true =>
      have hxa : 1 ≤ x.a ∧ x.a ≤ 99 := of_decide_eq_true HV1.out
      by_cases hk0 : k = 0
      · have ht0 : t = 0 := by rw [← HTT.out, hk0, lastA_zero]
        have hta : t < x.a := by omega
        have hkb : decide (0 < k) = false := decide_eq_false (by omega)
        clear hk0
        have HN : Hid (vRe r (lastA 0 L (k + 1)) (L.drop (k + 1)) = Y ∧ 0 ≤ lastA 0 L (k + 1)) := Lib.hid ⟨by rw [HS.out, HO.out, decide_eq_true hta]; rfl, by rw [HLA.out]; omega⟩
        go_big_quiet ((first | (go_at_call 82; first | with_reducible exact qt1 (rin_lit x.a 1 99 _ HV1.out _) | with_reducible exact qt1 (rin_lit x.b 1 1000 _ HV3.out _) | with_reducible exact qt1 (rin_lit x.c 0 1000 _ HV4.out _))))
        go_wp2_with fail
        exact ⟨⟨k + 1, by omega, congrArg _ (by omega), HN, Lib.hid (grown_trans HG3.out (grown_drewN _ _ _))⟩, by simp only [RowKit.intOf]; omega⟩
      · obtain ⟨j, rfl⟩ : ∃ j, k = j + 1 := ⟨k - 1, by omega⟩
        obtain ⟨y, hy⟩ : ∃ y, L[j]? = some y := ⟨_, List.getElem?_eq_getElem (by omega)⟩
        have hty : t = y.a := by rw [← HTT.out, lastA_succ hy]
        obtain ⟨z0, z1, z2⟩ := rd3_at (HL.out.keep HG3.out) hy
        have hjp : (0 : Int) < ((j + 1 : Nat) : Int) := by omega
        have hjl : (j : Int) < (L.length : Int) := by omega
        have hj2 : ((j + 1 : Nat) : Int) - 1 = (j : Int) := by omega
        clear hy
        by_cases hta : t < x.a
        · have hc1 : ¬ x.a ≤ y.a := by omega
          have hc2 : decide (x.a ≤ y.a) = false := decide_eq_false hc1
          have HN : Hid (vRe r (lastA 0 L (j + 1 + 1)) (L.drop (j + 1 + 1)) = Y ∧ 0 ≤ lastA 0 L (j + 1 + 1)) := Lib.hid ⟨by rw [HS.out, HO.out, decide_eq_true hta]; rfl, by rw [HLA.out]; omega⟩
          go_big_quiet ((first | (go_at_call 82; first | with_reducible exact qt1 (rin_lit x.a 1 99 _ HV1.out _) | with_reducible exact qt1 (rin_lit x.b 1 1000 _ HV3.out _) | with_reducible exact qt1 (rin_lit x.c 0 1000 _ HV4.out _))))
          go_wp2_with fail
          exact ⟨⟨j + 1 + 1, by omega, congrArg _ (by omega), HN, Lib.hid (grown_trans HG3.out (grown_drewN _ _ _))⟩, by simp only [RowKit.intOf]; omega⟩
        · have hc1 : x.a ≤ y.a := by omega
          have hc2 : decide (x.a ≤ y.a) = true := decide_eq_true hc1
          obtain rfl : X = false := by rw [HXY.out, HS.out, HO.out, decide_eq_false hta]; rfl
          go_big_quiet ((first | (go_at_call 82; first | with_reducible exact qt1 (rin_lit x.a 1 99 _ HV1.out _) | with_reducible exact qt1 (rin_lit x.b 1 1000 _ HV3.out _) | with_reducible exact qt1 (rin_lit x.c 0 1000 _ HV4.out _))))
          go_wp2_with fail
          go_ret
          exact ⟨rfl, grown_trans HB.out.2 (grown_trans HG3.out (grown_drewN _ _ _))⟩
    · obtain rfl : k = L.length := by omega
      obtain rfl : Y = true := by rw [← HI.out.1]; exact vRe_end
      go_wp2_with fail
      have hC := rvc_any C pC cC q wr (HC.out.keep HG.out) hm2
      rw [show vClaims C = X by rw [HXY.out]; rfl] at hC
      refine hC.mono ?_
      rintro e w4 ⟨rfl, hg⟩
      have HF := Lib.hid (grown_trans HB.out.2 (grown_trans HG.out hg))
      clear hg hC
      go_wp2_with fail
      go_ret
      exact ⟨rfl, HF.out⟩
end Go.Proofs.Ytnpkihioklpnmaa

/- Parts of the proof, packed: ToNear, ToHop. -/
import Derived.Test.YtiencdgmnkphjaaApl3
import Derived.Lib.SmallJoins
/- topology: neighbours. -/
namespace Go.Proofs.Ytiencdgmnkphjaa
open Go.RowKit Bs
def tv (z : Int) : Value := .int .i64 z
def nb1 (x : Int) (l : Lk) : List Int := (if l.b = x then [l.a] else []) ++ (if l.a = x then [l.b] else [])
/-- The other ends of a router's links. -/
def nbL (L : List Lk) (x : Int) : List Int := L.flatMap (nb1 x)
theorem nbL_snoc {L : List Lk} {k : Nat} {l : Lk} (x : Int) (h : L[k]? = some l) : nbL (L.take (k + 1)) x = nbL (L.take k) x ++ nb1 x l := by
  unfold nbL
  rw [List.take_add_one, h]
  simp
/-- Numbers in a row of the call's own. -/
structure NK (w : World) (v : Value) (l : List Int) (wr : World) : Prop where
  own : wr.ownsRow w.heap.size 3 1 v l.length (l.map tv)
  gr : w.grownBy wr none
theorem NK.keep {w wr w' : World} {v : Value} {l : List Int} (h : NK w v l wr) (g : wr.grownBy w' none) : NK w v l w' :=
  ⟨h.own.kept g (by cases hv : v.ownBlock <;> simp), grown_trans h.gr g⟩
theorem NK.more {w wr wy w1 : World} {v v' : Value} {l : List Int} {x : Int} {o : Obj} (h : NK w v l wr) (g : wr.grownBy wy none) (hown' : w1.ownsRow w.heap.size 3 1 v' (l.length + 1) (l.map tv ++ [.int .i64 x])) (hg : (wy.alloc o).grownBy w1 v.ownBlock) :
    NK w v' (l ++ [x]) w1 ∧ (∀ b ob, wr.heap.size ≤ b → wy.heap[b]? = some ob → w1.heap[b]? = some ob) := by
  have hy := h.keep g
  refine ⟨⟨?_, own_step hy.gr hy.own hg⟩, fun b ob hb he => ?_⟩
  · rw [List.length_append, List.map_append]; exact hown'
  · have k0 := World.grownBy_alloc wy o none
    refine kept_row (kept_row he k0 (by simp)) hg (fun e => ?_)
    have := (h.own.lt b e.symm).2
    omega
/-- What returns a list that can be read. -/
def TRet (l : List Int) (w : World) (e : Ending) (w' : World) : Prop := ∃ p c, e = .returned (.slice p l.length c) ∧ Rd w' (w.heap.size ≤ ·) (.slice p l.length c) (l.map tv) ∧ (l.length ≤ c ∧ c ≤ 9223372036854775807) ∧ (p = none → c = 0) ∧ w.grownBy w' none
theorem NK.ret {w wr : World} {v : Value} {l : List Int} (h : NK w v l wr) : ∃ p c, v = .slice p l.length c ∧ Rd wr (w.heap.size ≤ ·) (.slice p l.length c) (l.map tv) ∧ (l.length ≤ c ∧ c ≤ 9223372036854775807) ∧ (p = none → c = 0) ∧ w.grownBy wr none := by
  have hr := rd_of_own h.own
  rcases Joins.ownsRow_forms h.own with ⟨e, e0⟩ | ⟨g, cap, e⟩
  · subst e
    obtain rfl := List.eq_nil_of_length_eq_zero e0
    exact ⟨none, 0, rfl, hr, ⟨Nat.le_refl _, by omega⟩, fun _ => rfl, h.gr⟩
  · subst e
    have := own_cap h.own
    unfold maxLen at this
    exact ⟨_, cap, rfl, hr, ⟨this.1, by omega⟩, (fun e => by cases e), h.gr⟩
theorem nb1_len (x : Int) (l : Lk) : (nb1 x l).length ≤ 2 := by
  unfold nb1
  split <;> split <;> simp
theorem nbL_len (x : Int) : ∀ L : List Lk, (nbL L x).length ≤ 2 * L.length
  | [] => by simp [nbL]
  | l :: L => by
    have h1 := nb1_len x l
    have h2 := nbL_len x L
    unfold nbL at *
    rw [List.flatMap_cons, List.length_append, List.length_cons]
    omega
set_option maxRecDepth 100000 in
set_option maxHeartbeats 6400000 in
theorem tnear_any (L : List Lk) (x : Int) (p : Option Addr) (c : Nat) (q : Nat → Prop) (w : World) (hR : RdL5 w q (.slice p L.length c) L) (hm : L.length ≤ 1000) :
    Calls Try.prog 70 #[.slice p L.length c, .int .i64 x] w fun e w' => TRet (nbL L x) w e w' := by
  obtain ⟨i0, hi, hz0, hz1, hz2⟩ := info_parts info_int
  have HR := Lib.hid hR
  clear hR
  have N0 : Hid (NK w (.slice none 0 0) (nbL (L.take 0) x) w) := Lib.hid ⟨World.ownsRow_nil _ _ _ _, grown_refl _ _⟩
  go_enter Try.func70, Try.ntmps70
  go_wp2_with fail
  go_loopw [5, 10] (fun v a wr => ∃ k : Nat, k ≤ L.length ∧ a = .int .i64 (k : Int) ∧ Hid (NK w v (nbL (L.take k) x) wr)) (fun _ a _ => L.length - (intOf a).toNat)
  case atStart => exact ⟨0, Nat.zero_le _, rfl, N0⟩
  case round =>
    obtain ⟨k, hk, rfl, N⟩ := hrel
    clear N0
    by_cases hlt : k < L.length
    · obtain ⟨-, b, off, rfl, hq, hc⟩ := rdl_cells (HR.out.keep N.out.gr) (by omega)
      obtain ⟨y, hy⟩ : ∃ y, L[k]? = some y := ⟨_, List.getElem?_eq_getElem hlt⟩
      obtain ⟨a0, a1, a2, a3, a4⟩ := hc k y hy
      have gal := World.grownBy_alloc wr (.cells #[.int .i64 y.a, .int .i64 y.b, .int .i64 y.ca, .int .i64 y.cb, .int .i64 y.cp] 68) none
      have hbx := heap_alloc_new wr (.cells #[.int .i64 y.a, .int .i64 y.b, .int .i64 y.ca, .int .i64 y.cb, .int .i64 y.cp] 68)
      have HG := Lib.hid gal
      have HB := Lib.hid hbx
      have HL : Hid (nbL (L.take (k + 1)) x = nbL (L.take k) x ++ nb1 x y) := Lib.hid (nbL_snoc x hy)
      have hln := nbL_len x (L.take k)
      have hlt2 : (L.take k).length ≤ k := List.length_take_le _ _
      clear hc hy gal hbx
      go_upto_region 5 with fail
      clear a0 a1 a2 a3 a4
      generalize wr.alloc _ = wy at *
      have hsz : w.heap.size ≤ wy.heap.size := Nat.le_trans N.out.gr.size HG.out.size
      have hown := (N.out.keep HG.out).own
      obtain ⟨d0, d1, d2, d3, d4⟩ := lk_facts HB.out
      obtain ⟨M, hM⟩ : ∃ M, nbL (L.take k) x = M := ⟨_, rfl⟩
      rw [hM] at N HL hln hown
      have hMl : M.length ≤ 2000 := by omega
      clear hM hln hlt2
      by_cases e1 : y.b = x
      · have e1' : (y.b == x) = true := by simpa using e1
        have HE1 := Lib.hid e1
        clear e1
        go_wp2_with (at_builtin; refine wpList_append_own _ rfl _ _ 22 rfl w.heap.size 3 i0 (.int .i64 0) 1 8 Try.underlying22 hi hz0 hz1 hz2 rfl (by decide) _ _ _ rfl (hown.alloc _) ⟨wy.heap.size, 0, none⟩ 1 1 [.int .i64 y.a] rfl rfl ?c1 ?c2 ?c3 ?c4 ?c5 ?_)
        try (case c1 => exact cell_one _ _ _)
        case c2 => first | rfl | (intro u hu; simp at hu; subst hu; rfl)
        case c3 => first | omega | (unfold maxLen; omega)
        case c4 => omega
        case c5 => first | omega | (simp; omega)
        intro v' w1 hown' hg _
        obtain ⟨n1, n2⟩ := N.out.more HG.out hown' hg
        have N1 := Lib.hid n1
        have HB1 := Lib.hid (n2 wr.heap.size _ (Nat.le_refl _) HB.out)
        clear hown' hg n1 n2 hown d0 d1 d2 d3 d4
        obtain ⟨d0, d1, d2, d3, d4⟩ := lk_facts HB1.out
        by_cases e2 : y.a = x
        · have e2' : (y.a == x) = true := by simpa using e2
          have HE2 := Lib.hid e2
          have hown := N1.out.own
          have hsz1 := N1.out.gr.size
          have hMl1 : (M ++ [y.a]).length ≤ 2001 := by rw [List.length_append]; simp; omega
          clear e2
          obtain ⟨M1, hM1⟩ : ∃ M1, M ++ [y.a] = M1 := ⟨_, rfl⟩
          have HM1 := Lib.hid hM1
          rw [hM1] at N1 hown hMl1
          clear hM1
          go_wp2_with (at_builtin; refine wpList_append_own _ rfl _ _ 22 rfl w.heap.size 3 i0 (.int .i64 0) 1 8 Try.underlying22 hi hz0 hz1 hz2 rfl (by decide) _ _ _ rfl (hown.alloc _) ⟨w1.heap.size, 0, none⟩ 1 1 [.int .i64 y.b] rfl rfl ?c1 ?c2 ?c3 ?c4 ?c5 ?_)
          try (case c1 => exact cell_one _ _ _)
          case c2 => first | rfl | (intro u hu; simp at hu; subst hu; rfl)
          case c3 => first | omega | (unfold maxLen; omega)
          case c4 => omega
          case c5 => first | omega | (simp; omega)
          intro v2 w2 hown' hg _
          obtain ⟨n1, -⟩ := N1.out.more (grown_refl _ _) hown' hg
          have N2 : Hid (NK w v2 (nbL (L.take (k + 1)) x) w2) := Lib.hid (by rw [HL.out]; unfold nb1; rw [if_pos HE1.out, if_pos HE2.out, ← List.append_assoc, HM1.out]; exact n1)
          clear hown' hg n1 hown d0 d1 d2 d3 d4
          go_wp2_with fail
          exact ⟨⟨k + 1, by omega, congrArg _ (by omega), N2⟩, by simp only [intOf]; omega⟩
        · have e2' : (y.a == x) = false := by simpa using e2
          have N2 : Hid (NK w v' (nbL (L.take (k + 1)) x) w1) := Lib.hid (by rw [HL.out]; unfold nb1; rw [if_pos HE1.out, if_neg e2, List.append_nil]; exact N1.out)
          clear e2
          go_wp2_with fail
          exact ⟨⟨k + 1, by omega, congrArg _ (by omega), N2⟩, by simp only [intOf]; omega⟩
      · have e1' : (y.b == x) = false := by simpa using e1
        have HE1 := Lib.hid e1
        clear e1
        by_cases e2 : y.a = x
        · have e2' : (y.a == x) = true := by simpa using e2
          have HE2 := Lib.hid e2
          clear e2
          go_wp2_with (at_builtin; refine wpList_append_own _ rfl _ _ 22 rfl w.heap.size 3 i0 (.int .i64 0) 1 8 Try.underlying22 hi hz0 hz1 hz2 rfl (by decide) _ _ _ rfl (hown.alloc _) ⟨wy.heap.size, 0, none⟩ 1 1 [.int .i64 y.b] rfl rfl ?c1 ?c2 ?c3 ?c4 ?c5 ?_)
          try (case c1 => exact cell_one _ _ _)
          case c2 => first | rfl | (intro u hu; simp at hu; subst hu; rfl)
          case c3 => first | omega | (unfold maxLen; omega)
          case c4 => omega
          case c5 => first | omega | (simp; omega)
          intro v2 w2 hown' hg _
          obtain ⟨n1, -⟩ := N.out.more HG.out hown' hg
          have N2 : Hid (NK w v2 (nbL (L.take (k + 1)) x) w2) := Lib.hid (by rw [HL.out]; unfold nb1; rw [if_neg HE1.out, if_pos HE2.out, List.nil_append]; exact n1)
          clear hown' hg n1 hown d0 d1 d2 d3 d4
          go_wp2_with fail
          exact ⟨⟨k + 1, by omega, congrArg _ (by omega), N2⟩, by simp only [intOf]; omega⟩
        · have e2' : (y.a == x) = false := by simpa using e2
          have N2 : Hid (NK w u5 (nbL (L.take (k + 1)) x) wy) := Lib.hid (by rw [HL.out]; unfold nb1; rw [if_neg HE1.out, if_neg e2, List.append_nil, List.append_nil]; exact N.out.keep HG.out)
          clear e2
          go_wp2_with fail
          exact ⟨⟨k + 1, by omega, congrArg _ (by omega), N2⟩, by simp only [intOf]; omega⟩
    · obtain rfl : k = L.length := by omega
      have hN := N.out
      rw [List.take_length] at hN
      obtain ⟨pv, cv, rfl, h1, h2, h3, h4⟩ := hN.ret
      have H9 := Lib.hid (And.intro h1 (And.intro h2 (And.intro h3 h4)))
      clear h1 h2 h3 h4 hN N
      go_wp2_with fail
      go_ret
      exact ⟨pv, cv, rfl, H9.out.1, H9.out.2.1, H9.out.2.2.1, H9.out.2.2.2⟩
end Go.Proofs.Ytiencdgmnkphjaa

/- topology: Contains of numbers and of hops; the closures of Without. -/
namespace Go.Proofs.Ytiencdgmnkphjaa
open Go.RowKit Bs
structure Hp where
  f : Int
  t : Int
def hpC (h : Hp) : List Value := [.int .i64 h.f, .int .i64 h.t]
abbrev RdH (w : World) (q : Nat → Prop) (v : Value) (H : List Hp) : Prop := RdF w q v H.length (H.flatMap hpC)
theorem rdh_cells {w : World} {q : Nat → Prop} {p : Option Addr} {n c : Nat} {H : List Hp} (h : RdH w q (.slice p n c) H) (hn : 0 < H.length) :
    n = H.length ∧ ∃ b off, p = some ⟨b, off, none⟩ ∧ q b ∧ ∀ i x, H[i]? = some x → w.cell? ⟨b, off + i * 2, none⟩ = some (.int .i64 x.f) ∧ w.cell? ⟨b, off + i * 2 + 1, none⟩ = some (.int .i64 x.t) := by
  obtain ⟨h0, b, off, hp, hq, hc⟩ := RdF.cells (f := hpC) (k := 2) (fun _ => rfl) (by decide) h hn
  exact ⟨h0, b, off, hp, hq, fun i x hi => ⟨hc i x hi 0 _ rfl, hc i x hi 1 _ rfl⟩⟩
def isH (a b : Int) (h : Hp) : Bool := decide (h.f = a ∧ h.t = b)
def hasI (X : List Int) (x : Int) : Bool := X.any fun y => decide (y = x)
set_option maxRecDepth 100000 in
set_option maxHeartbeats 1600000 in
theorem tcint_any (X : List Int) (x : Int) (p : Option Addr) (c : Nat) (q : Nat → Prop) (w : World) (hR : Rd w q (.slice p X.length c) (X.map tv)) (hm : X.length ≤ 9223372036854775807) :
    Calls Try.prog 75 #[.slice p X.length c, .int .i64 x] w fun e w' => e = .returned (.bool (hasI X x)) ∧ w' = w := by
  have I : Calls Try.prog 95 #[.slice p X.length c, .int .i64 x] w fun e w' => ∃ i : Int, e = .returned (.int .i64 i) ∧ Hid (decide (0 ≤ i) = hasI X x) ∧ w' = w := by
    have HR := Lib.hid hR
    clear hR
    go_enter Try.func95, Try.ntmps95
    go_wp2_with fail
    go_loopw [8] (fun a wr => ∃ k : Nat, k ≤ X.length ∧ a = .int .i64 (k : Int) ∧ wr = w ∧ Hid ((X.take k).any (fun y => decide (y = x)) = false)) (fun a _ => X.length - (intOf a).toNat)
    case atStart => exact ⟨0, Nat.zero_le _, rfl, rfl, Lib.hid rfl⟩
    case round =>
      obtain ⟨k, hk, rfl, rfl, HN⟩ := hrel
      by_cases hlt : k < X.length
      · obtain ⟨-, b, off, rfl, hq, hc⟩ := rdi_at HR.out (by omega)
        obtain ⟨y, hy⟩ : ∃ y, X[k]? = some y := ⟨_, List.getElem?_eq_getElem hlt⟩
        have c0 := hc k y hy
        have HY := Lib.hid hy
        clear hc hy
        by_cases e : x = y
        · have e' : (x == y) = true := by simpa using e
          have HE := Lib.hid e
          clear e
          go_wp2_with fail
          go_ret
          refine ⟨k, rfl, Lib.hid ?_, rfl⟩
          have : hasI X x = true := any_at HY.out (decide_eq_true HE.out.symm)
          rw [this, decide_eq_true_eq]; omega
        · have e' : (x == y) = false := by simpa using e
          have HE := Lib.hid e
          clear e
          go_wp2_with fail
          exact ⟨⟨k + 1, by omega, congrArg _ (by omega), trivial, Lib.hid (any_take HN.out HY.out (decide_eq_false fun h => HE.out h.symm))⟩, by simp only [intOf]; omega⟩
      · obtain rfl : k = X.length := by omega
        go_wp2_with fail
        go_ret
        refine ⟨-1, rfl, Lib.hid ?_, rfl⟩
        have : hasI X x = false := any_end HN.out (Nat.le_refl _)
        rw [this]; decide
  go_enter Try.func75, Try.ntmps75
  go_wp2_with (go_at_call 95; refine I.mono ?_; rintro e w' ⟨i, rfl, hi, rfl⟩)
  go_ret
  rw [← hi.out]
  exact ⟨rfl, rfl⟩
theorem hp_facts {w : World} {b : Nat} {h : Hp} (hb : w.heap[b]? = some (.cells #[.int .i64 h.f, .int .i64 h.t] 70 (0, 0))) : w.cell? ⟨b, 0, none⟩ = some (.int .i64 h.f) ∧ w.cell? ⟨b, 1, none⟩ = some (.int .i64 h.t) := row_cells hb
set_option maxRecDepth 100000 in
set_option maxHeartbeats 3200000 in
theorem tchop_any (H : List Hp) (a b : Int) (p : Option Addr) (c : Nat) (q : Nat → Prop) (w : World) (hR : RdH w q (.slice p H.length c) H) (hm : H.length ≤ 9223372036854775807) :
    Calls Try.prog 77 #[.slice p H.length c, .agg #[.int .i64 a, .int .i64 b]] w fun e w' => e = .returned (.bool (H.any (isH a b))) ∧ w.grownBy w' none := by
  have I : ∀ w : World, RdH w q (.slice p H.length c) H → Calls Try.prog 96 #[.slice p H.length c, .agg #[.int .i64 a, .int .i64 b]] w fun e w' => ∃ i : Int, e = .returned (.int .i64 i) ∧ Hid (decide (0 ≤ i) = H.any (isH a b)) ∧ w.grownBy w' none := by
    intro w hR
    obtain ⟨k1, k2⟩ := tone_box w #[.int .i64 a, .int .i64 b] 70
    have HR := Lib.hid (hR.keep k2)
    have HB := Lib.hid (And.intro k1 k2)
    clear hR k1 k2
    go_enter Try.func96, Try.ntmps96
    go_upto_region 1 with fail
    generalize w.alloc _ = wa at *
    go_wp2_with fail
    go_loopw [8] (fun v wr => ∃ k : Nat, k ≤ H.length ∧ v = .int .i64 (k : Int) ∧ Hid (wa.grownBy wr none) ∧ Hid ((H.take k).any (isH a b) = false)) (fun v _ => H.length - (intOf v).toNat)
    case atStart => exact ⟨0, Nat.zero_le _, rfl, Lib.hid (grown_refl _ _), Lib.hid rfl⟩
    case round =>
      obtain ⟨k, hk, rfl, G, HN⟩ := hrel
      by_cases hlt : k < H.length
      · obtain ⟨-, bb, off, rfl, hq, hc⟩ := rdh_cells (HR.out.keep G.out) (by omega)
        obtain ⟨y, hy⟩ : ∃ y, H[k]? = some y := ⟨_, List.getElem?_eq_getElem hlt⟩
        obtain ⟨c0, c1⟩ := hc k y hy
        obtain ⟨d0, d1⟩ := row_cells (kept_row HB.out.1 G.out (by simp))
        have HY := Lib.hid hy
        clear hc hy
        by_cases e1 : a = y.f
        · by_cases e2 : b = y.t
          · have HE : Hid (isH a b y = true) := Lib.hid (decide_eq_true ⟨e1.symm, e2.symm⟩)
            rw [← e1] at c0
            rw [← e2] at c1
            clear e1 e2
            go_wp2_with fail
            go_region
            go_wp2_with fail
            go_ret
            refine ⟨k, rfl, Lib.hid ?_, grown_drew (grown_trans HB.out.2 G.out)⟩
            rw [any_at HY.out HE.out, decide_eq_true_eq]; omega
          · have HE : Hid (isH a b y = false) := Lib.hid (decide_eq_false (by omega))
            have e2' : (b == y.t) = false := by simpa using e2
            have G2 := Lib.hid (grown_drew G.out)
            clear e1 e2
            go_wp2_with fail
            go_region
            go_wp2_with fail
            exact ⟨⟨k + 1, by omega, congrArg _ (by omega), G2, Lib.hid (any_take HN.out HY.out HE.out)⟩, by simp only [intOf]; omega⟩
        · have HE : Hid (isH a b y = false) := Lib.hid (decide_eq_false (by omega))
          have e1' : (a == y.f) = false := by simpa using e1
          have G2 := Lib.hid (grown_drew G.out)
          clear e1
          go_wp2_with fail
          go_region
          go_wp2_with fail
          exact ⟨⟨k + 1, by omega, congrArg _ (by omega), G2, Lib.hid (any_take HN.out HY.out HE.out)⟩, by simp only [intOf]; omega⟩
      · obtain rfl : k = H.length := by omega
        go_wp2_with fail
        go_ret
        refine ⟨-1, rfl, Lib.hid ?_, grown_trans HB.out.2 G.out⟩
        rw [any_end HN.out (Nat.le_refl _)]; decide
  obtain ⟨k1, k2⟩ := tone_box w #[.int .i64 a, .int .i64 b] 70
  obtain ⟨c0, c1⟩ := row_cells k1
  have HR := Lib.hid (hR.keep k2)
  have HB := Lib.hid k2
  have HI := Lib.hid I
  clear hR k1 k2 I
  go_enter Try.func77, Try.ntmps77
  go_upto_region 1 with fail
  generalize w.alloc _ = wa at *
  go_wp2_with (go_at_call 96; refine (HI.out wa HR.out).mono ?_; rintro e w' ⟨i, rfl, hi, hg⟩; have HG := Lib.hid hg; clear hg)
  go_ret
  rw [← hi.out]
  exact ⟨rfl, grown_trans HB.out HG.out⟩
end Go.Proofs.Ytiencdgmnkphjaa

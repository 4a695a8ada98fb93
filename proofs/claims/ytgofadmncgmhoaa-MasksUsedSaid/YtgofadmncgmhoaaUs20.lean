/- Parts of the proof, packed: MaUsLaw. -/
import Derived.Test.YtgofadmncgmhoaaUs19
import Derived.Test.YtgofadmncgmhoaaUs5
/- masks: the law of the planes that are used. -/
namespace Go.Proofs.Ytgofadmncgmhoaa
open Go.RowKit Bs
set_option maxRecDepth 100000 in
theorem nxI_eq {X : List Int} (hp : X.Pairwise (· < ·)) {k q : Nat} {y : Int} (hk : X[k]? = some y) : (nxI X q == y) = (q % X.length == k) := by
  have hk2 : k < X.length := (List.getElem?_eq_some_iff.1 hk).1
  have h0 : X.length ≠ 0 := by omega
  have h1 := nxI_at (X := X) (k := q) h0
  have hm : q % X.length < X.length := Nat.mod_lt _ (by omega)
  rw [Bool.eq_iff_iff, beq_iff_eq, beq_iff_eq]
  constructor
  · intro e
    rw [e] at h1
    obtain ⟨a, ha⟩ := List.getElem?_eq_some_iff.1 h1
    obtain ⟨b, hb⟩ := List.getElem?_eq_some_iff.1 hk
    rcases Nat.lt_trichotomy (q % X.length) k with h | h | h
    · have := List.pairwise_iff_getElem.1 hp _ _ a b h; omega
    · exact h
    · have := List.pairwise_iff_getElem.1 hp _ _ b a h; omega
  · intro e
    rw [e, hk] at h1
    exact (Option.some.inj h1).symm
/-- In how many of the first planes y is next. -/
def usC (X : List Int) (y : Int) (q : Nat) : Nat := (List.range q).countP fun p => nxI X p == y
set_option maxRecDepth 100000 in
theorem usC_succ (X : List Int) (y : Int) (q : Nat) : usC X y (q + 1) = usC X y q + if (nxI X q == y) = true then 1 else 0 := by
  unfold usC
  rw [List.range_succ, List.countP_append]
  congr 1
  simp [List.countP_cons]
set_option maxRecDepth 100000 in
theorem usC_all {X : List Int} (hp : X.Pairwise (· < ·)) {k : Nat} {y : Int} (hk : X[k]? = some y) (q : Nat) : usC X y q = plC X.length q k := by
  unfold usC plC
  congr 1
  funext p
  exact nxI_eq hp hk
set_option maxRecDepth 100000 in
theorem plC_pos {n k : Nat} (hk : k < n) (h8 : k < 8) : 0 < plC n 8 k := by
  unfold plC
  exact List.countP_pos_iff.2 ⟨k, List.mem_range.2 h8, by rw [Nat.mod_eq_of_lt hk]; simp⟩
set_option maxRecDepth 100000 in
theorem plL_atU {n q k : Nat} (hk : k < n) : (plL n q)[k]? = some ((plC n q k : Nat) : Int) := by
  unfold plL
  rw [List.getElem?_map, List.getElem?_range hk]; rfl
set_option maxRecDepth 100000 in
theorem usC_le (X : List Int) (y : Int) (q : Nat) : usC X y q ≤ q := by
  unfold usC
  have := List.countP_le_length (p := fun p => nxI X p == y) (l := List.range q)
  rwa [List.length_range] at this
set_option maxRecDepth 100000 in
set_option maxHeartbeats 6400000 in
theorem used_walk (v : Value) (w : World) (hv : IntsIn w v) :
    Calls Try.prog 5 #[v] w fun e w' => e = .returned (.bool true) ∧ w.grownBy w' none := by
  have HV := Lib.hid hv
  clear hv
  go_enter Try.func5, Try.ntmps5
  go_wp2_with fail
  refine (new_any v w HV.out).mono ?_
  rintro e w1 ⟨rfl, hg1, hT1⟩
  have H1 := Lib.hid (And.intro hg1 hT1)
  clear hg1 hT1 HV
  obtain ⟨a, ha⟩ : ∃ a, w.heap.size = a := ⟨_, rfl⟩
  have HA := Lib.hid ha
  rw [ha] at H1 ⊢
  clear ha
  go_wp2_with fail
  refine (ttab0_any a 0 (Int.le_refl 0) (by unfold I64; omega) _ H1.out.2).mono ?_
  rintro e w2 ⟨r, s, n, L, p, c, rfl, hO, hck, hs⟩
  obtain ⟨hR, -, hcc, hN⟩ := own_rdw hO
  have HCK := Lib.hid hck
  have HNN := Lib.hid hN
  have HG := Lib.hid (grown_new H1.out.1 hs.1 (by rw [HA.out]; exact Nat.le_refl _) : w.grownBy w2 none)
  have hL256 := (ck_ok hck).2.2.1
  have H3 := Lib.hid (bx_start (r := r) (s := s) (n := n) hR)
  have HT2 := Lib.hid hs.2
  clear hO hck hs hR hcc hN H1
  clear HT2
  go_upto_region 3 with fail
  generalize w2.alloc _ = w3 at *
  go_wp2_with fail
  go_loopw [5] (fun i wr => ∃ k : Nat, k ≤ L.length ∧ i = .int .i64 (k : Int) ∧ Hid (BX w2 r s n p c L wr)) (fun i _ => L.length - (RowKit.intOf i).toNat)
  case atStart => exact ⟨0, Nat.zero_le _, rfl, H3⟩
  case round =>
  clear H3
  obtain ⟨i, hi, rfl, K⟩ := hrel
  obtain ⟨w4, hw4⟩ : ∃ w4, w4 = wr := ⟨_, rfl⟩
  rw [← hw4] at K ⊢
  clear hw4
  obtain ⟨d0, d1, d2, d3⟩ := row4T K.out.bx
  by_cases hlt : i < L.length
  case neg =>
    obtain rfl : i = L.length := by omega
    have hnl : ¬ (L.length : Int) < (L.length : Int) := by omega
    go_wp2_with fail
    refine (mawake_any w4).mono ?_
    rintro e w5 ⟨rfl, hg⟩
    have G := Lib.hid (grown_trans (grown_trans HG.out K.out.gr) hg)
    clear hg K d0 d1 d2 d3
    go_wp2_with fail
    go_ret
    exact ⟨rfl, G.out⟩
  have hlt' : (i : Int) < (L.length : Int) := by omega
  have hi0 : (0 : Int) ≤ (i : Int) := by omega
  obtain ⟨x, hx⟩ : ∃ x, L[i]? = some x := ⟨_, List.getElem?_eq_getElem hlt⟩
  obtain ⟨-, b, off, rfl, -, hc⟩ := rw_cells K.out.rd.rd (by omega)
  obtain ⟨a0, a1⟩ := hc i x hx
  have HX := Lib.hid (List.mem_of_getElem? hx)
  clear hc hx
  obtain ⟨hasc, h24, hin, -, -⟩ := row_asc HCK.out HX.out
  have HASC := Lib.hid hasc
  have HIN := Lib.hid hin
  clear hasc hin
  go_wp2_with fail
  refine (mplanes_any x w4 (by omega)).mono ?_
  rintro e w5 ⟨v6, rfl, hO, hg⟩
  have K5 := Lib.hid (K.out.keep hg)
  have A5 := Lib.hid (And.intro (hg.cell a0 (by simp)) (hg.cell a1 (by simp)))
  obtain ⟨p6, c6, rfl, -, -⟩ := own_shape hO
  have HL := Lib.hid ((rd_of_own hO).old)
  clear hO hg K d0 d1 d2 d3 a0 a1
  obtain ⟨d0, d1, d2, d3⟩ := row4T K5.out.bx
  obtain ⟨a0, a1⟩ := A5.out
  have heq : ((x.nx.length : Int) != (x.nx.length : Int)) = false := by simp
  have heq2 : ¬ ((x.nx.length : Int) ≠ (x.nx.length : Int)) := by simp
  have HR5 := Lib.hid (K5.out.rd.ok x HX.out).rd
  obtain ⟨xp, hxp⟩ : ∃ xp, x.p = xp := ⟨_, rfl⟩
  rw [hxp] at A5 HR5 a1 ⊢
  clear hxp
  have A6 := Lib.hid A5.out
  go_upto_region 9 with fail
  clear d0 d1 d2 d3 a0 a1 heq heq2 A5
  go_wp2_with fail
  go_loopw [7] (fun i wr => ∃ k : Nat, k ≤ x.nx.length ∧ i = .int .i64 (k : Int) ∧ Hid (w5.grownBy wr none)) (fun i _ => x.nx.length - (RowKit.intOf i).toNat)
  case atStart => exact ⟨0, Nat.zero_le _, rfl, Lib.hid (grown_refl _ _)⟩
  case round =>
  obtain ⟨k, hk, rfl, G⟩ := hrel
  obtain ⟨w6, hw6⟩ : ∃ w6, w6 = wr := ⟨_, rfl⟩
  rw [← hw6] at G ⊢
  clear hw6
  by_cases hltk : k < x.nx.length
  case neg =>
    obtain rfl : k = x.nx.length := by omega
    have hnl : ¬ (x.nx.length : Int) < (x.nx.length : Int) := by omega
    have K6 := Lib.hid (K5.out.keep G.out)
    go_wp2_with fail
    exact ⟨⟨i + 1, by omega, congrArg _ (by omega), K6⟩, by simp only [RowKit.intOf]; omega⟩
  have hltk' : (k : Int) < (x.nx.length : Int) := by omega
  have hk0 : (0 : Int) ≤ (k : Int) := by omega
  obtain ⟨y, hy⟩ : ∃ y, x.nx[k]? = some y := ⟨_, List.getElem?_eq_getElem hltk⟩
  have HY := Lib.hid hy
  clear hy
  go_wp2_with fail
  go_loopw [8, 9] (fun u i wr => ∃ q : Nat, q ≤ 8 ∧ u = .int .i64 ((usC x.nx y q : Nat) : Int) ∧ i = .int .i64 (q : Int) ∧ Hid (w5.grownBy wr none)) (fun _ i _ => 8 - (RowKit.intOf i).toNat)
  case atStart => exact ⟨0, Nat.zero_le _, rfl, rfl, G⟩
  case round =>
  clear G
  obtain ⟨q, hq, rfl, rfl, G⟩ := hrel
  obtain ⟨w7, hw7⟩ : ∃ w7, w7 = wr := ⟨_, rfl⟩
  rw [← hw7] at G ⊢
  clear hw7
  by_cases hq8 : q < 8
  case neg =>
    obtain rfl : q = 8 := by omega
    have HU := usC_all HASC.out HY.out 8
    have hn8 : ¬ ((8 : Nat) : Int) < 8 := by omega
    have hl6 : (plL x.nx.length 8)[k]? = some ((plC x.nx.length 8 k : Nat) : Int) := plL_atU hltk
    have hpos : k < 8 → 0 < usC x.nx y 8 := fun h => by rw [HU]; exact plC_pos hltk h
    obtain ⟨U, hU⟩ : ∃ U, usC x.nx y 8 = U := ⟨_, rfl⟩
    obtain ⟨-, bl, ol, rfl, -, hcl⟩ := tvT_at HL.out hl6
    have l0 := G.out.cell (hcl k _ hl6) (by simp)
    rw [← HU] at l0
    rw [hU] at l0 hpos ⊢
    clear HU hU
    have hne : ((U : Int) != (U : Int)) = false := by simp
    have hne2 : ¬ ((U : Int) ≠ (U : Int)) := by simp
    have hk2 : (k : Int) < (x.nx.length : Int) := hltk'
    clear hcl hl6
    by_cases hk8 : k < 8
    case pos =>
      have hk8' : (k : Int) < 8 := by omega
      have hp := hpos hk8
      have hz : ((U : Int) == 0) = false := by
        rw [beq_eq_false_iff_ne]; omega
      have hz2 : ¬ (U : Int) = 0 := by omega
      clear hpos
      go_wp2_with fail
      exact ⟨⟨k + 1, by omega, congrArg _ (by omega), G⟩, by simp only [RowKit.intOf]; omega⟩
    have hk8' : ¬ (k : Int) < 8 := by omega
    clear hpos
    go_wp2_with fail
    exact ⟨⟨k + 1, by omega, congrArg _ (by omega), G⟩, by simp only [RowKit.intOf]; omega⟩
  have hq8' : (q : Int) < 8 := by omega
  obtain ⟨a0, a1⟩ := A6.out
  go_upto_region 16 with fail
  obtain ⟨-, by1, oy1, rfl, -, hcy⟩ := tvT_at HR5.out HY.out
  have y0 := hcy k y HY.out
  clear hcy
  refine wp_region_held_drew (S := fun w' => Hid (w5.grownBy w' none)) (by kernel_rfl) (Lib.hid (grown_trans G.out (grown_drew (grown_refl _ none)))) (fun hHeld => ?_)
  refine wpAnyH_take (i := 0) (oi := { dst := some 47, op := Op.load 27 (Operand.tmp 4), type := 27, pos := "law.go:154", after := #[], guard := none }) (v := ?_) rfl (by kernel_rfl) (by kernel_rfl) (by kernel_rfl) (fun _ _ _ h => h) (Or.inl ⟨by rfl, ?_⟩) hHeld ?_
  rotate_left 1
  · intro u hSu
    obtain ⟨d0u, d1u, d2u, d3u⟩ := row4T (K5.out.keep hSu.out).bx
    have a0u := hSu.out.cell a0 (by simp)
    have a1u := hSu.out.cell a1 (by simp)
    have y0u := hSu.out.cell y0 (by simp)
    go_simp
    first | done | with_reducible rfl
  (try simp only [Act.put, List.setIfInBounds_toArray, List.set_cons_zero, List.set_cons_succ])
  refine wpAnyH_take (i := 1) (oi := { dst := some 48, op := Op.fieldAddr 27 (Operand.tmp 4) 3, type := 0, pos := "law.go:154", after := #[], guard := none }) (v := ?_) rfl (by kernel_rfl) (by kernel_rfl) (by kernel_rfl) (fun _ _ _ h => h) (Or.inl ⟨by rfl, ?_⟩) hHeld ?_
  rotate_left 1
  · intro u hSu
    obtain ⟨d0u, d1u, d2u, d3u⟩ := row4T (K5.out.keep hSu.out).bx
    have a0u := hSu.out.cell a0 (by simp)
    have a1u := hSu.out.cell a1 (by simp)
    have y0u := hSu.out.cell y0 (by simp)
    go_simp
    first | done | with_reducible rfl
  (try simp only [Act.put, List.setIfInBounds_toArray, List.set_cons_zero, List.set_cons_succ])
  refine wpAnyH_take (i := 2) (oi := { dst := some 49, op := Op.load 25 (Operand.tmp 48), type := 25, pos := "law.go:154", after := #[{ on := 1, ground := Ground.data }], guard := none }) (v := ?_) rfl (by kernel_rfl) (by kernel_rfl) (by kernel_rfl) (fun _ _ _ h => h) (Or.inl ⟨by rfl, ?_⟩) hHeld ?_
  rotate_left 1
  · intro u hSu
    obtain ⟨d0u, d1u, d2u, d3u⟩ := row4T (K5.out.keep hSu.out).bx
    have a0u := hSu.out.cell a0 (by simp)
    have a1u := hSu.out.cell a1 (by simp)
    have y0u := hSu.out.cell y0 (by simp)
    go_simp
    first | done | with_reducible rfl
  (try simp only [Act.put, List.setIfInBounds_toArray, List.set_cons_zero, List.set_cons_succ])
  refine wpAnyH_take (i := 3) (oi := { dst := some 50, op := Op.move (Operand.tmp 5), type := 3, pos := "law.go:154", after := #[], guard := none }) (v := ?_) rfl (by kernel_rfl) (by kernel_rfl) (by kernel_rfl) (fun _ _ _ h => h) (Or.inl ⟨by rfl, ?_⟩) hHeld ?_
  rotate_left 1
  · intro u hSu
    obtain ⟨d0u, d1u, d2u, d3u⟩ := row4T (K5.out.keep hSu.out).bx
    have a0u := hSu.out.cell a0 (by simp)
    have a1u := hSu.out.cell a1 (by simp)
    have y0u := hSu.out.cell y0 (by simp)
    go_simp
    first | done | with_reducible rfl
  (try simp only [Act.put, List.setIfInBounds_toArray, List.set_cons_zero, List.set_cons_succ])
  refine wpAnyH_take (i := 4) (oi := { dst := some 51, op := Op.indexAddr 25 (Operand.tmp 49) (Operand.tmp 50), type := 0, pos := "law.go:154", after := #[{ on := 2, ground := Ground.data }, { on := 3, ground := Ground.data }], guard := none }) (v := ?_) rfl (by kernel_rfl) (by kernel_rfl) (by kernel_rfl) (fun _ _ _ h => h) (Or.inl ⟨by rfl, ?_⟩) hHeld ?_
  rotate_left 1
  · intro u hSu
    obtain ⟨d0u, d1u, d2u, d3u⟩ := row4T (K5.out.keep hSu.out).bx
    have a0u := hSu.out.cell a0 (by simp)
    have a1u := hSu.out.cell a1 (by simp)
    have y0u := hSu.out.cell y0 (by simp)
    go_simp
    first | done | with_reducible rfl
  (try simp only [Act.put, List.setIfInBounds_toArray, List.set_cons_zero, List.set_cons_succ])
  refine wpAnyH_take (i := 5) (oi := { dst := some 52, op := Op.fieldAddr 35 (Operand.tmp 51) 0, type := 0, pos := "law.go:154", after := #[{ on := 4, ground := Ground.data }], guard := none }) (v := ?_) rfl (by kernel_rfl) (by kernel_rfl) (by kernel_rfl) (fun _ _ _ h => h) (Or.inl ⟨by rfl, ?_⟩) hHeld ?_
  rotate_left 1
  · intro u hSu
    obtain ⟨d0u, d1u, d2u, d3u⟩ := row4T (K5.out.keep hSu.out).bx
    have a0u := hSu.out.cell a0 (by simp)
    have a1u := hSu.out.cell a1 (by simp)
    have y0u := hSu.out.cell y0 (by simp)
    go_simp
    first | done | with_reducible rfl
  (try simp only [Act.put, List.setIfInBounds_toArray, List.set_cons_zero, List.set_cons_succ])
  refine wpAnyH_take (i := 6) (oi := { dst := some 53, op := Op.load 3 (Operand.tmp 52), type := 3, pos := "law.go:154", after := #[{ on := 5, ground := Ground.data }], guard := none }) (v := ?_) rfl (by kernel_rfl) (by kernel_rfl) (by kernel_rfl) (fun _ _ _ h => h) (Or.inl ⟨by rfl, ?_⟩) hHeld ?_
  rotate_left 1
  · intro u hSu
    obtain ⟨d0u, d1u, d2u, d3u⟩ := row4T (K5.out.keep hSu.out).bx
    have a0u := hSu.out.cell a0 (by simp)
    have a1u := hSu.out.cell a1 (by simp)
    have y0u := hSu.out.cell y0 (by simp)
    go_simp
    first | done | with_reducible rfl
  (try simp only [Act.put, List.setIfInBounds_toArray, List.set_cons_zero, List.set_cons_succ])
  refine wpAnyH_take (i := 7) (oi := { dst := some 54, op := Op.move (Operand.tmp 9), type := 3, pos := "law.go:154", after := #[], guard := none }) (v := ?_) rfl (by kernel_rfl) (by kernel_rfl) (by kernel_rfl) (fun _ _ _ h => h) (Or.inl ⟨by rfl, ?_⟩) hHeld ?_
  rotate_left 1
  · intro u hSu
    obtain ⟨d0u, d1u, d2u, d3u⟩ := row4T (K5.out.keep hSu.out).bx
    have a0u := hSu.out.cell a0 (by simp)
    have a1u := hSu.out.cell a1 (by simp)
    have y0u := hSu.out.cell y0 (by simp)
    go_simp
    first | done | with_reducible rfl
  (try simp only [Act.put, List.setIfInBounds_toArray, List.set_cons_zero, List.set_cons_succ])
  refine wpAnyH_take (i := 9) (oi := { dst := some 56, op := Op.fieldAddr 27 (Operand.tmp 4) 3, type := 0, pos := "law.go:154", after := #[], guard := none }) (v := ?_) rfl (by kernel_rfl) (by kernel_rfl) (by kernel_rfl) (fun _ _ _ h => h) (Or.inl ⟨by rfl, ?_⟩) hHeld ?_
  rotate_left 1
  · intro u hSu
    obtain ⟨d0u, d1u, d2u, d3u⟩ := row4T (K5.out.keep hSu.out).bx
    have a0u := hSu.out.cell a0 (by simp)
    have a1u := hSu.out.cell a1 (by simp)
    have y0u := hSu.out.cell y0 (by simp)
    go_simp
    first | done | with_reducible rfl
  (try simp only [Act.put, List.setIfInBounds_toArray, List.set_cons_zero, List.set_cons_succ])
  refine wpAnyH_take (i := 10) (oi := { dst := some 57, op := Op.load 25 (Operand.tmp 56), type := 25, pos := "law.go:154", after := #[{ on := 9, ground := Ground.data }], guard := none }) (v := ?_) rfl (by kernel_rfl) (by kernel_rfl) (by kernel_rfl) (fun _ _ _ h => h) (Or.inl ⟨by rfl, ?_⟩) hHeld ?_
  rotate_left 1
  · intro u hSu
    obtain ⟨d0u, d1u, d2u, d3u⟩ := row4T (K5.out.keep hSu.out).bx
    have a0u := hSu.out.cell a0 (by simp)
    have a1u := hSu.out.cell a1 (by simp)
    have y0u := hSu.out.cell y0 (by simp)
    go_simp
    first | done | with_reducible rfl
  (try simp only [Act.put, List.setIfInBounds_toArray, List.set_cons_zero, List.set_cons_succ])
  refine wpAnyH_take (i := 11) (oi := { dst := some 58, op := Op.move (Operand.tmp 5), type := 3, pos := "law.go:154", after := #[], guard := none }) (v := ?_) rfl (by kernel_rfl) (by kernel_rfl) (by kernel_rfl) (fun _ _ _ h => h) (Or.inl ⟨by rfl, ?_⟩) hHeld ?_
  rotate_left 1
  · intro u hSu
    obtain ⟨d0u, d1u, d2u, d3u⟩ := row4T (K5.out.keep hSu.out).bx
    have a0u := hSu.out.cell a0 (by simp)
    have a1u := hSu.out.cell a1 (by simp)
    have y0u := hSu.out.cell y0 (by simp)
    go_simp
    first | done | with_reducible rfl
  (try simp only [Act.put, List.setIfInBounds_toArray, List.set_cons_zero, List.set_cons_succ])
  refine wpAnyH_take (i := 12) (oi := { dst := some 59, op := Op.indexAddr 25 (Operand.tmp 57) (Operand.tmp 58), type := 0, pos := "law.go:154", after := #[{ on := 10, ground := Ground.data }, { on := 11, ground := Ground.data }], guard := none }) (v := ?_) rfl (by kernel_rfl) (by kernel_rfl) (by kernel_rfl) (fun _ _ _ h => h) (Or.inl ⟨by rfl, ?_⟩) hHeld ?_
  rotate_left 1
  · intro u hSu
    obtain ⟨d0u, d1u, d2u, d3u⟩ := row4T (K5.out.keep hSu.out).bx
    have a0u := hSu.out.cell a0 (by simp)
    have a1u := hSu.out.cell a1 (by simp)
    have y0u := hSu.out.cell y0 (by simp)
    go_simp
    first | done | with_reducible rfl
  (try simp only [Act.put, List.setIfInBounds_toArray, List.set_cons_zero, List.set_cons_succ])
  refine wpAnyH_take (i := 13) (oi := { dst := some 60, op := Op.fieldAddr 35 (Operand.tmp 59) 1, type := 0, pos := "law.go:154", after := #[{ on := 12, ground := Ground.data }], guard := none }) (v := ?_) rfl (by kernel_rfl) (by kernel_rfl) (by kernel_rfl) (fun _ _ _ h => h) (Or.inl ⟨by rfl, ?_⟩) hHeld ?_
  rotate_left 1
  · intro u hSu
    obtain ⟨d0u, d1u, d2u, d3u⟩ := row4T (K5.out.keep hSu.out).bx
    have a0u := hSu.out.cell a0 (by simp)
    have a1u := hSu.out.cell a1 (by simp)
    have y0u := hSu.out.cell y0 (by simp)
    go_simp
    first | done | with_reducible rfl
  (try simp only [Act.put, List.setIfInBounds_toArray, List.set_cons_zero, List.set_cons_succ])
  refine wpAnyH_take (i := 14) (oi := { dst := some 61, op := Op.load 22 (Operand.tmp 60), type := 22, pos := "law.go:154", after := #[{ on := 13, ground := Ground.data }], guard := none }) (v := ?_) rfl (by kernel_rfl) (by kernel_rfl) (by kernel_rfl) (fun _ _ _ h => h) (Or.inl ⟨by rfl, ?_⟩) hHeld ?_
  rotate_left 1
  · intro u hSu
    obtain ⟨d0u, d1u, d2u, d3u⟩ := row4T (K5.out.keep hSu.out).bx
    have a0u := hSu.out.cell a0 (by simp)
    have a1u := hSu.out.cell a1 (by simp)
    have y0u := hSu.out.cell y0 (by simp)
    go_simp
    first | done | with_reducible rfl
  (try simp only [Act.put, List.setIfInBounds_toArray, List.set_cons_zero, List.set_cons_succ])
  refine wpAnyH_take (i := 15) (oi := { dst := some 62, op := Op.move (Operand.tmp 7), type := 3, pos := "law.go:154", after := #[], guard := none }) (v := ?_) rfl (by kernel_rfl) (by kernel_rfl) (by kernel_rfl) (fun _ _ _ h => h) (Or.inl ⟨by rfl, ?_⟩) hHeld ?_
  rotate_left 1
  · intro u hSu
    obtain ⟨d0u, d1u, d2u, d3u⟩ := row4T (K5.out.keep hSu.out).bx
    have a0u := hSu.out.cell a0 (by simp)
    have a1u := hSu.out.cell a1 (by simp)
    have y0u := hSu.out.cell y0 (by simp)
    go_simp
    first | done | with_reducible rfl
  (try simp only [Act.put, List.setIfInBounds_toArray, List.set_cons_zero, List.set_cons_succ])
  refine wpAnyH_take (i := 16) (oi := { dst := some 63, op := Op.indexAddr 22 (Operand.tmp 61) (Operand.tmp 62), type := 0, pos := "law.go:154", after := #[{ on := 14, ground := Ground.data }, { on := 15, ground := Ground.data }], guard := none }) (v := ?_) rfl (by kernel_rfl) (by kernel_rfl) (by kernel_rfl) (fun _ _ _ h => h) (Or.inl ⟨by rfl, ?_⟩) hHeld ?_
  rotate_left 1
  · intro u hSu
    obtain ⟨d0u, d1u, d2u, d3u⟩ := row4T (K5.out.keep hSu.out).bx
    have a0u := hSu.out.cell a0 (by simp)
    have a1u := hSu.out.cell a1 (by simp)
    have y0u := hSu.out.cell y0 (by simp)
    go_simp
    first | done | with_reducible rfl
  (try simp only [Act.put, List.setIfInBounds_toArray, List.set_cons_zero, List.set_cons_succ])
  refine wpAnyH_take (i := 17) (oi := { dst := some 64, op := Op.load 3 (Operand.tmp 63), type := 3, pos := "law.go:154", after := #[{ on := 16, ground := Ground.data }], guard := none }) (v := ?_) rfl (by kernel_rfl) (by kernel_rfl) (by kernel_rfl) (fun _ _ _ h => h) (Or.inl ⟨by rfl, ?_⟩) hHeld ?_
  rotate_left 1
  · intro u hSu
    obtain ⟨d0u, d1u, d2u, d3u⟩ := row4T (K5.out.keep hSu.out).bx
    have a0u := hSu.out.cell a0 (by simp)
    have a1u := hSu.out.cell a1 (by simp)
    have y0u := hSu.out.cell y0 (by simp)
    go_simp
    first | done | with_reducible rfl
  (try simp only [Act.put, List.setIfInBounds_toArray, List.set_cons_zero, List.set_cons_succ])
  refine wpAnyH_ready (rs := [8]) (by kernel_rfl) (by simp) ?_
  refine AllReadyH.cons (o := { dst := some 55, op := Op.call { callee := Callee.value (Operand.func 17), args := #[Operand.tmp 47, Operand.tmp 53, Operand.tmp 54], argTypes := #[27, 3, 3] }, type := 3, pos := "law.go:154", after := #[{ on := 0, ground := Ground.data }, { on := 6, ground := Ground.data }, { on := 7, ground := Ground.data }], guard := none }) rfl (fun Kz hK => ?_) AllReadyH.nil
  go_simp
  go_at_call 17
  refine (mnxt_any r s n (some ⟨b, off, none⟩) c L x.id (q : Int) _ (K5.out.keep hHeld.out).rd (by omega) HNN.out).mono ?_
  rintro e' w8 ⟨rfl, hg⟩
  rw [nxO_row HCK.out HX.out hq8]
  have HN := Lib.hid (grown_trans hHeld.out hg)
  clear hg
  simp only
  refine hK.out _ _ (HN) (fun hH2 => ?_)
  clear hK Kz hHeld
  have hHeld := hH2
  clear hH2
  (try simp only [Act.put, List.setIfInBounds_toArray, List.set_cons_zero, List.set_cons_succ])
  refine wpAnyH_take (i := 18) (oi := { dst := some 65, op := Op.binOp BinOp.eql 3 (Operand.tmp 55) (Operand.tmp 64) 3, type := 4, pos := "law.go:154", after := #[{ on := 8, ground := Ground.data }, { on := 17, ground := Ground.data }], guard := none }) (v := ?_) rfl (by kernel_rfl) (by kernel_rfl) (by kernel_rfl) (fun _ _ _ h => h) (Or.inl ⟨by rfl, ?_⟩) hHeld ?_
  rotate_left 1
  · intro u hSu
    obtain ⟨d0u, d1u, d2u, d3u⟩ := row4T (K5.out.keep hSu.out).bx
    have a0u := hSu.out.cell a0 (by simp)
    have a1u := hSu.out.cell a1 (by simp)
    have y0u := hSu.out.cell y0 (by simp)
    go_simp
    first | done | with_reducible rfl
  (try simp only [Act.put, List.setIfInBounds_toArray, List.set_cons_zero, List.set_cons_succ])
  refine wpAnyH_done (by kernel_rfl) ?_ _
  have G8 := Lib.hid hHeld.out
  clear hHeld a0 a1 y0
  have HSC := usC_succ x.nx y q
  cases hb : (nxI x.nx q == y)
  case false =>
    rw [hb] at HSC
    have HS2 : Hid (usC x.nx y (q + 1) = usC x.nx y q) := Lib.hid (by simpa using HSC)
    clear HSC hb
    go_wp2_with fail
    exact ⟨⟨q + 1, by omega, by rw [HS2.out], congrArg _ (by omega), G8⟩, by simp only [RowKit.intOf]; omega⟩
  rw [hb] at HSC
  have HS2 : Hid (usC x.nx y (q + 1) = usC x.nx y q + 1) := Lib.hid (by simpa using HSC)
  have hle := usC_le x.nx y q
  clear HSC hb
  go_wp2_with fail
  exact ⟨⟨q + 1, by omega, by rw [HS2.out]; exact congrArg (Value.int .i64) (by omega), congrArg (Value.int .i64) (by omega), G8⟩, by simp only [RowKit.intOf]; omega⟩
end Go.Proofs.Ytgofadmncgmhoaa

/- Parts of the proof, packed: ToWoM, ToHasF, ToWiR, ToSameT. -/
import Derived.Test.YtiencdgmnkphjaaWio6
import Derived.BigQuiet
import Derived.Test.YtiencdgmnkphjaaWio7
import Derived.Deep.AppendLies
/- What is left of a valid topology is valid. -/
namespace Go.Proofs.Ytiencdgmnkphjaa
open Go.RowKit Bs
theorem pair_of_asc {α : Type} (f : α → α → Bool) (ht : ∀ x y z, f x y = true → f y z = true → f x z = true) : ∀ l : List α, ascB f l = true → l.Pairwise (fun x z => f x z = true)
  | [], _ => List.Pairwise.nil
  | [a], _ => by simp
  | a :: b :: t, h => by
    rw [ascB, Bool.and_eq_true] at h
    have hp := pair_of_asc f ht (b :: t) h.2
    refine List.pairwise_cons.2 ⟨fun z hz => ?_, hp⟩
    rcases List.mem_cons.1 hz with rfl | hz
    · exact h.1
    · exact ht a b z h.1 ((List.pairwise_cons.1 hp).1 z hz)
theorem asc_filter {α : Type} (f : α → α → Bool) (ht : ∀ x y z, f x y = true → f y z = true → f x z = true) (g : α → Bool) {l : List α} (h : ascB f l = true) : ascB f (l.filter g) = true :=
  asc_of_pair f _ ((pair_of_asc f ht l h).sublist List.filter_sublist)
theorem any_filter {α : Type} (p g : α → Bool) {l : List α} (h : l.any p = false) : (l.filter g).any p = false := by
  rw [List.any_eq_false] at h ⊢
  intro x hx
  exact h x (List.mem_filter.1 hx).1
/-- What a valid topology meets. -/
structure OkAll (R : List Rt) (L : List Lk) : Prop where
  l1 : R.length ≤ 24
  l2 : L.length ≤ 60
  id : R.any wrId = false
  rs : ascB ltR R = true
  nm : L.any wrNum = false
  un : L.any (unk R) = false
  en : L.any wrEnd = false
  ls : ascB ltL L = true
theorem okAll_chk {R : List Rt} {L : List Lk} (h : OkAll R L) : chk R L = 0 := by
  unfold chk
  rw [if_neg (by have := h.l1; have := h.l2; omega), h.id, h.rs, h.nm, h.un, h.en, h.ls]
  rfl
theorem chk_okAll {R : List Rt} {L : List Lk} (h : chk R L = 0) : OkAll R L := by
  unfold chk at h
  by_cases h1 : 24 < R.length ∨ 60 < L.length
  · rw [if_pos h1] at h; cases h
  rw [if_neg h1] at h
  cases h2 : R.any wrId
  case true => rw [h2] at h; cases h
  cases h3 : ascB ltR R
  case false => rw [h2, h3] at h; cases h
  cases h4 : L.any wrNum
  case true => rw [h2, h3, h4] at h; cases h
  cases h5 : L.any (unk R)
  case true => rw [h2, h3, h4, h5] at h; cases h
  cases h6 : L.any wrEnd
  case true => rw [h2, h3, h4, h5, h6] at h; cases h
  cases h7 : ascB ltL L
  case false => rw [h2, h3, h4, h5, h6, h7] at h; cases h
  exact ⟨by omega, by omega, h2, h3, h4, h5, h6, h7⟩
theorem ltR_trans (x y z : Rt) (h1 : ltR x y = true) (h2 : ltR y z = true) : ltR x z = true := by
  unfold ltR at *
  have h1 := of_decide_eq_true h1
  have h2 := of_decide_eq_true h2
  exact decide_eq_true (by omega)
theorem wo_ok (F : Fl) {R : List Rt} {L : List Lk} (h : OkAll R L) : OkAll (woR F R) (woL F L) := by
  refine ⟨Nat.le_trans (List.length_filter_le _ _) h.l1, Nat.le_trans (List.length_filter_le _ _) h.l2, any_filter _ _ h.id, asc_filter _ ltR_trans _ h.rs, any_filter _ _ h.nm, ?_, any_filter _ _ h.en, asc_filter ltL (fun _ _ _ => ltL_trans) _ h.ls⟩
  have hh : ∀ x, hasR R x = true → hasI F.X x = false → hasR (woR F R) x = true := by
    intro x hx hi
    unfold hasR at hx ⊢
    obtain ⟨r, hr, he⟩ := List.any_eq_true.1 hx
    refine List.any_eq_true.2 ⟨r, List.mem_filter.2 ⟨hr, ?_⟩, he⟩
    rw [of_decide_eq_true he, hi]
    rfl
  rw [List.any_eq_false]
  intro l hl hu
  obtain ⟨hl1, hk⟩ := List.mem_filter.1 hl
  have h1 := List.any_eq_false.1 h.un l hl1
  unfold woK at hk
  rw [Bool.and_eq_true, Bool.and_eq_true] at hk
  have ha : hasI F.X l.a = false := by simpa using hk.1
  have hb : hasI F.X l.b = false := by simpa using hk.2.1
  unfold unk at h1 hu
  cases e1 : hasR R l.a
  · rw [e1] at h1; simp at h1
  cases e2 : hasR R l.b
  · rw [e1, e2] at h1; simp at h1
  rw [hh _ e1 ha, hh _ e2 hb] at hu
  simp at hu
theorem wo_chk (F : Fl) (R : List Rt) (L : List Lk) : chk (if okT R L = true then woR F R else []) (if okT R L = true then woL F L else []) = 0 := by
  by_cases h : okT R L = true
  · rw [if_pos h, if_pos h]
    refine okAll_chk (wo_ok F (chk_okAll ?_))
    unfold okT at h
    simpa using h
  · rw [if_neg h, if_neg h]
    rfl
end Go.Proofs.Ytiencdgmnkphjaa

/- The reference's Has and Named; Same of equal topologies. -/
namespace Go.Proofs.Ytiencdgmnkphjaa
open Go.RowKit Bs
set_option maxRecDepth 100000 in
set_option maxHeartbeats 1600000 in
theorem rhas4_any (X : List Int) (x : Int) (p : Option Addr) (c : Nat) (q : Nat → Prop) (w : World) (hR : Rd w q (.slice p X.length c) (X.map tv)) (hm : X.length ≤ 9223372036854775807) :
    Calls Try.prog 47 #[.slice p X.length c, .int .i64 x] w fun e w' => e = .returned (.bool (hasI X x)) ∧ w = w' := by
  have HR := Lib.hid hR
  have HN0 : Hid ((X.take 0).any (fun y => decide (y = x)) = false) := Lib.hid rfl
  clear hR
  go_enter Try.func47, Try.ntmps47
  go_wp2_with fail
  go_loopw [5] (fun a wr => ∃ k : Nat, k ≤ X.length ∧ a = .int .i64 (k : Int) ∧ Hid ((X.take k).any (fun y => decide (y = x)) = false) ∧ wr = w) (fun a _ => X.length - (intOf a).toNat)
  case atStart => exact ⟨0, Nat.zero_le _, rfl, HN0, rfl⟩
  case round =>
    obtain ⟨k, hk, rfl, HN, rfl⟩ := hrel
    by_cases hlt : k < X.length
    · obtain ⟨-, b, off, rfl, -, hc⟩ := rdi_at HR.out (by omega)
      obtain ⟨y, hy⟩ : ∃ y, X[k]? = some y := ⟨_, List.getElem?_eq_getElem hlt⟩
      have d0 := hc k y hy
      have HY := Lib.hid hy
      clear hc hy HN0
      by_cases hyx : y = x
      · have HT : Hid (hasI X x = true) := Lib.hid (any_at HY.out (decide_eq_true hyx))
        subst hyx
        go_wp2_with fail
        go_ret
        rw [HT.out]
        exact ⟨rfl, rfl⟩
      · have HN2 := Lib.hid (any_take HN.out HY.out (decide_eq_false hyx))
        have h' : (y == x) = false := by simpa using hyx
        go_wp2_with fail
        exact ⟨⟨k + 1, by omega, congrArg _ (by omega), HN2, (by first | rfl | trivial)⟩, by simp only [intOf]; omega⟩
    · have HT : Hid (hasI X x = false) := Lib.hid (any_end HN.out (by omega))
      obtain rfl : k = X.length := by omega
      go_wp2_with fail
      go_ret
      rw [HT.out]
      exact ⟨rfl, rfl⟩
/-- A hop names the ends, in either direction. -/
def isB (a b : Int) (h : Hp) : Bool := isH a b h || isH b a h
def nmH (H : List Hp) (a b : Int) : Bool := H.any (isB a b)
theorem nmH_eq (a b : Int) : ∀ H : List Hp, nmH H a b = (H.any (isH a b) || H.any (isH b a))
  | [] => rfl
  | h :: t => by
    have := nmH_eq a b t
    unfold nmH at this ⊢
    rw [List.any_cons, List.any_cons, List.any_cons, this]
    unfold isB
    cases isH a b h <;> cases isH b a h <;> simp
set_option maxRecDepth 100000 in
set_option maxHeartbeats 3200000 in
theorem rnamed_any (H : List Hp) (a b : Int) (p : Option Addr) (c : Nat) (q : Nat → Prop) (w : World) (hR : RdH w q (.slice p H.length c) H) (hm : H.length ≤ 9223372036854775807) :
    Calls Try.prog 46 #[.slice p H.length c, .int .i64 a, .int .i64 b] w fun e w' => e = .returned (.bool (nmH H a b)) ∧ w = w' := by
  have HR := Lib.hid hR
  have HN0 : Hid ((H.take 0).any (isB a b) = false) := Lib.hid rfl
  clear hR
  go_enter Try.func46, Try.ntmps46
  go_wp2_with fail
  go_loopw [7] (fun i wr => ∃ k : Nat, k ≤ H.length ∧ i = .int .i64 (k : Int) ∧ Hid ((H.take k).any (isB a b) = false) ∧ wr = w) (fun i _ => H.length - (intOf i).toNat)
  case atStart => exact ⟨0, Nat.zero_le _, rfl, HN0, rfl⟩
  case round =>
    obtain ⟨k, hk, rfl, HN, rfl⟩ := hrel
    by_cases hlt : k < H.length
    · obtain ⟨-, b1, off, rfl, -, hc⟩ := rdh_cells HR.out (by omega)
      obtain ⟨y, hy⟩ : ∃ y, H[k]? = some y := ⟨_, List.getElem?_eq_getElem hlt⟩
      obtain ⟨d0, d1⟩ := hc k y hy
      have HY := Lib.hid hy
      clear hc hy HN0
      have HB : Hid (isB a b y = ((y.f == a && y.t == b) || (y.f == b && y.t == a))) := Lib.hid (by
        unfold isB isH
        simp only [Bool.decide_and]
        rfl)
      have HT : Hid (isB a b y = true → nmH H a b = true) := Lib.hid (fun h => any_at HY.out h)
      have HF : Hid (isB a b y = false → (H.take (k + 1)).any (isB a b) = false) := Lib.hid (fun h => any_take HN.out HY.out h)
      cases h1 : (y.f == a) <;> cases h2 : (y.t == b) <;> cases h3 : (y.f == b) <;> cases h4 : (y.t == a) <;>
      (rw [h1, h2, h3, h4] at HB
       go_wp2_with fail
       first
        | (have HN2 := Lib.hid (HF.out (HB.out.trans rfl)); exact ⟨⟨k + 1, by omega, congrArg _ (by omega), HN2, (by first | rfl | trivial)⟩, by simp only [intOf]; omega⟩)
        | (go_ret; rw [HT.out (HB.out.trans rfl)]; exact ⟨rfl, rfl⟩))
    · have HT : Hid (nmH H a b = false) := Lib.hid (any_end HN.out (by omega))
      obtain rfl : k = H.length := by omega
      go_wp2_with fail
      go_ret
      rw [HT.out]
      exact ⟨rfl, rfl⟩
end Go.Proofs.Ytiencdgmnkphjaa

/- The reference's Without. -/
namespace Go.Proofs.Ytiencdgmnkphjaa
open Go.RowKit Bs
theorem WR.rt {w wr : World} {R R' : List Rt} {L : List Lk} {b off cR cL Bx base k : Nat} {pL : Option Addr} {F : Fl} {vR : Value} {y : Rt} (h : WR w ⟨R, L, some ⟨b, off, none⟩, cR, pL, cL⟩ F Bx base vR R' wr) (hy : R[k]? = some y) :
    wr.cell? ⟨b, off + k * 2, none⟩ = some (.int .i64 y.id) ∧ wr.cell? ⟨b, off + k * 2 + 1, none⟩ = some (.bool y.cap) := by
  have h1 := (List.getElem?_eq_some_iff.1 hy).1
  obtain ⟨-, b', off', e, -, hc⟩ := rdr_cells (R := R) h.s.t.r (by omega)
  injection e with e
  injection e with e4 e5
  subst e4
  subst e5
  exact hc k y hy
set_option maxRecDepth 100000 in
set_option maxHeartbeats 6400000 in
theorem rwithout_any (T : Tg) (F : Fl) (q q2 : Nat → Prop) (w : World) (hT : TgOk w q T) (hF : FlOk w q2 F) :
    Calls Try.prog 33 #[.agg #[.slice T.pR T.R.length T.cR, .slice T.pL T.L.length T.cL], .agg #[.slice F.pH F.H.length F.cH, .slice F.pX F.X.length F.cX]] w fun e w' => TWPost (if okT T.R T.L then woR F T.R else []) (if okT T.R T.L then woL F T.L else []) w e w' := by
  obtain ⟨ir, hir, hr0, hr1, hr2⟩ := info_parts info_rt
  obtain ⟨il, hil, hl0, hl1, hl2⟩ := info_parts info_lk
  have hmX := Nat.le_trans hF.cx.1 hF.cx.2
  have hmH := Nat.le_trans hF.ch.1 hF.ch.2
  have S0 := Lib.hid (WS.start hT hF)
  have hmR := Nat.le_trans hT.cr.1 hT.cr.2
  have hmL := Nat.le_trans hT.cl.1 hT.cl.2
  clear hT hF
  obtain ⟨R, L, pR, cR, pL, cL⟩ := T
  simp only at hmR hmL S0 ⊢
  obtain ⟨Rr, hRr⟩ : ∃ Rr, (if okT R L = true then woR F R else []) = Rr := ⟨_, rfl⟩
  obtain ⟨Lr, hLr⟩ : ∃ Lr, (if okT R L = true then woL F L else []) = Lr := ⟨_, rfl⟩
  rw [hRr, hLr]
  have HRL := Lib.hid (And.intro hRr hLr)
  clear hRr hLr
  go_enter Try.func33, Try.ntmps33
  go_upto_region 1 with fail
  generalize ((w.alloc _).alloc _).alloc _ = wa at *
  obtain ⟨c0, c1⟩ := row_cells S0.out.tb
  go_wp2_with fail
  refine (rcheck_any ⟨R, L, pR, cR, pL, cL⟩ _ wa S0.out.t).mono ?_
  rintro e w1 ⟨rfl, hg⟩
  simp only
  obtain ⟨X, hX⟩ : ∃ X, chk R L = X := ⟨_, rfl⟩
  rw [hX]
  have HX0 : Hid (okT R L = (X == 0)) := Lib.hid (by unfold okT; rw [hX])
  clear hX
  have S1 := Lib.hid (S0.out.keep hg)
  clear hg S0 c0 c1
  by_cases hx0 : X = 0
  rotate_left 1
  · have hv : okT R L = false := by rw [HX0.out]; simpa using hx0
    have hx1 : (X == 0) = false := by simpa using hx0
    obtain ⟨rfl, rfl⟩ : Rr = [] ∧ Lr = [] := by have := HRL.out; rw [hv] at this; exact ⟨this.1.symm, this.2.symm⟩
    have z0 := S1.out.rb.cell (j := 0) rfl
    have z1 := S1.out.rb.cell (j := 1) rfl
    have y0 := S1.out.rb.frozen 0
    have y1 := S1.out.rb.frozen 1
    clear hv HRL
    have hrow := store2 (u := .slice none 0 0) (z := .slice none 0 0) (show w1.heap[w.heap.size + 2]? = some (.cells #[.slice none 0 0, .slice none 0 0] 26 (0, 0)) from S1.out.rb)
    have HR := Lib.hid (And.intro hrow (grown_new S1.out.gr (grown_store2 w1 (w.heap.size + 2) (.slice none 0 0) (.slice none 0 0)) (by omega)))
    clear hrow
    go_wp2_with fail
    refine bodyPost_ret (res_topo rfl _ _ (w.heap.size + 2) _ _ rfl HR.out.1) rfl ?_
    exact ⟨none, 0, none, 0, rfl, ⟨rdf_nil _ _ _ _, rdf_nil _ _ _ _, ⟨Nat.le_refl _, by show 0 ≤ _; omega⟩, ⟨Nat.le_refl _, by show 0 ≤ _; omega⟩⟩, HR.out.2⟩
  have hv : okT R L = true := by rw [HX0.out, hx0]; rfl
  obtain ⟨h24, h60⟩ := okT_len hv
  have HRL2 : Hid (woR F R = Rr ∧ woL F L = Lr) := Lib.hid (by have := HRL.out; rw [hv] at this; exact this)
  clear hv HRL
  subst hx0
  go_upto_region 4 with fail
  have gal := World.grownBy_alloc w1 (.cells #[.slice none 0 0, .slice none 0 0] 26) none
  have R0 : Hid (WR w ⟨R, L, pR, cR, pL, cL⟩ F w1.heap.size (w1.heap.size + 1) (.slice none 0 0) (woR F (R.take 0)) (w1.alloc (.cells #[.slice none 0 0, .slice none 0 0] 26))) := Lib.hid ⟨S1.out.keep gal, heap_alloc_new w1 _, World.ownsRow_nil _ _ _ _, by have := S1.out.rb.lt; omega, by omega, by simp⟩
  have hbx := R0.out.b1
  clear gal S1
  generalize w1.alloc _ = w2 at *
  generalize w1.heap.size = Bx at *
  obtain ⟨c0, c1⟩ := row_cells R0.out.s.tb
  go_wp2_with fail
  go_loopw [6] (fun a wr => ∃ k : Nat, k ≤ R.length ∧ a = .int .i64 (k : Int) ∧ ∃ vR, Hid (WR w ⟨R, L, pR, cR, pL, cL⟩ F Bx (Bx + 1) vR (woR F (R.take k)) wr)) (fun a _ => R.length - (intOf a).toNat)
  case atStart => exact ⟨0, Nat.zero_le _, rfl, _, R0⟩
  case round =>
  obtain ⟨k, hk, rfl, vR, HK⟩ := hrel
  clear R0 c0 c1
  by_cases hlt : k < R.length
  case pos =>
    obtain ⟨-, b, off, rfl, hq, hc⟩ := rdr_cells (R := R) HK.out.s.t.r (by omega)
    obtain ⟨y, hy⟩ : ∃ y, R[k]? = some y := ⟨_, List.getElem?_eq_getElem hlt⟩
    obtain ⟨a0, a1⟩ := hc k y hy
    have HY := Lib.hid hy
    have HL : Hid (woR F (R.take (k + 1)) = woR F (R.take k) ++ (if !hasI F.X y.id then [y] else [])) := Lib.hid (filter_snoc hy)
    have hln : (woR F (R.take k)).length ≤ k := Nat.le_trans (List.length_filter_le _ _) (List.length_take_le _ _)
    obtain ⟨M, hM⟩ : ∃ M, woR F (R.take k) = M := ⟨_, rfl⟩
    rw [hM] at HL hln HK
    clear hc hy a0 a1 hM
    obtain ⟨c0, c1⟩ := row_cells HK.out.s.tb
    have i0 : (0 : Int) ≤ (k : Int) := by omega
    have i1 : (k : Int) < (R.length : Int) := by omega
    go_upto_region 7 with fail
    clear c0 c1
    cases hx : hasI F.X y.id
    · rw [hx] at HL
      have HX := Lib.hid hx
      clear hx
      refine wp_region_held_drew (S := fun w' => Hid (WR w ⟨R, L, some ⟨b, off, none⟩, cR, pL, cL⟩ F Bx (Bx + 1) vR M w')) (by kernel_rfl) (Lib.hid (HK.out.keep (grown_drew (grown_refl _ _)))) (fun hHeld => ?_)
      refine wpAnyH_take (i := 0) (oi := { dst := some 20, op := Op.fieldAddr 47 (Operand.tmp 3) 1, type := 0, pos := "ref.go:146", after := #[], guard := none }) (v := ?_) rfl (by kernel_rfl) (by kernel_rfl) (by kernel_rfl) (fun _ _ _ h => h) (Or.inl ⟨by rfl, ?_⟩) hHeld ?_
      rotate_left 1
      · intro u hSu
        obtain ⟨q0, q1⟩ := row_cells hSu.out.s.tb
        obtain ⟨q2, q3⟩ := row_cells hSu.out.s.fb
        obtain ⟨q4, q5⟩ := hSu.out.rt HY.out
        obtain ⟨q6, q7⟩ := row_cells hSu.out.bx
        go_simp
        first | done | with_reducible rfl
      (try simp only [Act.put, List.setIfInBounds_toArray, List.set_cons_zero, List.set_cons_succ])
      refine wpAnyH_take (i := 1) (oi := { dst := some 21, op := Op.load 22 (Operand.tmp 20), type := 22, pos := "ref.go:146", after := #[{ on := 0, ground := Ground.data }], guard := none }) (v := ?_) rfl (by kernel_rfl) (by kernel_rfl) (by kernel_rfl) (fun _ _ _ h => h) (Or.inl ⟨by rfl, ?_⟩) hHeld ?_
      rotate_left 1
      · intro u hSu
        obtain ⟨q0, q1⟩ := row_cells hSu.out.s.tb
        obtain ⟨q2, q3⟩ := row_cells hSu.out.s.fb
        obtain ⟨q4, q5⟩ := hSu.out.rt HY.out
        obtain ⟨q6, q7⟩ := row_cells hSu.out.bx
        go_simp
        first | done | with_reducible rfl
      (try simp only [Act.put, List.setIfInBounds_toArray, List.set_cons_zero, List.set_cons_succ])
      refine wpAnyH_take (i := 2) (oi := { dst := some 22, op := Op.fieldAddr 26 (Operand.tmp 2) 0, type := 0, pos := "ref.go:146", after := #[], guard := none }) (v := ?_) rfl (by kernel_rfl) (by kernel_rfl) (by kernel_rfl) (fun _ _ _ h => h) (Or.inl ⟨by rfl, ?_⟩) hHeld ?_
      rotate_left 1
      · intro u hSu
        obtain ⟨q0, q1⟩ := row_cells hSu.out.s.tb
        obtain ⟨q2, q3⟩ := row_cells hSu.out.s.fb
        obtain ⟨q4, q5⟩ := hSu.out.rt HY.out
        obtain ⟨q6, q7⟩ := row_cells hSu.out.bx
        go_simp
        first | done | with_reducible rfl
      (try simp only [Act.put, List.setIfInBounds_toArray, List.set_cons_zero, List.set_cons_succ])
      refine wpAnyH_take (i := 3) (oi := { dst := some 23, op := Op.load 23 (Operand.tmp 22), type := 23, pos := "ref.go:146", after := #[{ on := 2, ground := Ground.data }], guard := none }) (v := ?_) rfl (by kernel_rfl) (by kernel_rfl) (by kernel_rfl) (fun _ _ _ h => h) (Or.inl ⟨by rfl, ?_⟩) hHeld ?_
      rotate_left 1
      · intro u hSu
        obtain ⟨q0, q1⟩ := row_cells hSu.out.s.tb
        obtain ⟨q2, q3⟩ := row_cells hSu.out.s.fb
        obtain ⟨q4, q5⟩ := hSu.out.rt HY.out
        obtain ⟨q6, q7⟩ := row_cells hSu.out.bx
        go_simp
        first | done | with_reducible rfl
      (try simp only [Act.put, List.setIfInBounds_toArray, List.set_cons_zero, List.set_cons_succ])
      refine wpAnyH_take (i := 4) (oi := { dst := some 24, op := Op.move (Operand.tmp 6), type := 3, pos := "ref.go:146", after := #[], guard := none }) (v := ?_) rfl (by kernel_rfl) (by kernel_rfl) (by kernel_rfl) (fun _ _ _ h => h) (Or.inl ⟨by rfl, ?_⟩) hHeld ?_
      rotate_left 1
      · intro u hSu
        obtain ⟨q0, q1⟩ := row_cells hSu.out.s.tb
        obtain ⟨q2, q3⟩ := row_cells hSu.out.s.fb
        obtain ⟨q4, q5⟩ := hSu.out.rt HY.out
        obtain ⟨q6, q7⟩ := row_cells hSu.out.bx
        go_simp
        first | done | with_reducible rfl
      (try simp only [Act.put, List.setIfInBounds_toArray, List.set_cons_zero, List.set_cons_succ])
      refine wpAnyH_take (i := 5) (oi := { dst := some 25, op := Op.indexAddr 23 (Operand.tmp 23) (Operand.tmp 24), type := 0, pos := "ref.go:146", after := #[{ on := 3, ground := Ground.data }, { on := 4, ground := Ground.data }], guard := none }) (v := ?_) rfl (by kernel_rfl) (by kernel_rfl) (by kernel_rfl) (fun _ _ _ h => h) (Or.inl ⟨by rfl, ?_⟩) hHeld ?_
      rotate_left 1
      · intro u hSu
        obtain ⟨q0, q1⟩ := row_cells hSu.out.s.tb
        obtain ⟨q2, q3⟩ := row_cells hSu.out.s.fb
        obtain ⟨q4, q5⟩ := hSu.out.rt HY.out
        obtain ⟨q6, q7⟩ := row_cells hSu.out.bx
        go_simp
        first | done | with_reducible rfl
      (try simp only [Act.put, List.setIfInBounds_toArray, List.set_cons_zero, List.set_cons_succ])
      refine wpAnyH_take (i := 6) (oi := { dst := some 26, op := Op.fieldAddr 73 (Operand.tmp 25) 0, type := 0, pos := "ref.go:146", after := #[{ on := 5, ground := Ground.data }], guard := none }) (v := ?_) rfl (by kernel_rfl) (by kernel_rfl) (by kernel_rfl) (fun _ _ _ h => h) (Or.inl ⟨by rfl, ?_⟩) hHeld ?_
      rotate_left 1
      · intro u hSu
        obtain ⟨q0, q1⟩ := row_cells hSu.out.s.tb
        obtain ⟨q2, q3⟩ := row_cells hSu.out.s.fb
        obtain ⟨q4, q5⟩ := hSu.out.rt HY.out
        obtain ⟨q6, q7⟩ := row_cells hSu.out.bx
        go_simp
        first | done | with_reducible rfl
      (try simp only [Act.put, List.setIfInBounds_toArray, List.set_cons_zero, List.set_cons_succ])
      refine wpAnyH_take (i := 7) (oi := { dst := some 27, op := Op.load 3 (Operand.tmp 26), type := 3, pos := "ref.go:146", after := #[{ on := 6, ground := Ground.data }], guard := none }) (v := ?_) rfl (by kernel_rfl) (by kernel_rfl) (by kernel_rfl) (fun _ _ _ h => h) (Or.inl ⟨by rfl, ?_⟩) hHeld ?_
      rotate_left 1
      · intro u hSu
        obtain ⟨q0, q1⟩ := row_cells hSu.out.s.tb
        obtain ⟨q2, q3⟩ := row_cells hSu.out.s.fb
        obtain ⟨q4, q5⟩ := hSu.out.rt HY.out
        obtain ⟨q6, q7⟩ := row_cells hSu.out.bx
        go_simp
        first | done | with_reducible rfl
      (try simp only [Act.put, List.setIfInBounds_toArray, List.set_cons_zero, List.set_cons_succ])
      refine wpAnyH_ready (rs := [8]) (by kernel_rfl) (by simp) ?_
      refine AllReadyH.cons (o := { dst := some 28, op := Op.call { callee := Callee.value (Operand.func 47), args := #[Operand.tmp 21, Operand.tmp 27], argTypes := #[22, 3] }, type := 4, pos := "ref.go:146", after := #[{ on := 1, ground := Ground.data }, { on := 7, ground := Ground.data }], guard := none }) rfl (fun Kz hK => ?_) AllReadyH.nil
      go_simp
      go_at_call 47
      refine (rhas4_any F.X y.id F.pX F.cX _ _ hHeld.out.s.f.x hmX).mono ?_
      rintro e w5 ⟨rfl, rfl⟩
      rw [HX.out]
      refine hK.out _ _ (hHeld) (fun hH2 => ?_)
      clear hK Kz hHeld
      have hHeld := hH2
      clear hH2
      (try simp only [Act.put, List.setIfInBounds_toArray, List.set_cons_zero, List.set_cons_succ])
      refine wpAnyH_take (i := 9) (oi := { dst := some 29, op := Op.unOp UnOp.not 4 (Operand.tmp 28), type := 4, pos := "ref.go:146", after := #[{ on := 8, ground := Ground.data }], guard := none }) (v := ?_) rfl (by kernel_rfl) (by kernel_rfl) (by kernel_rfl) (fun _ _ _ h => h) (Or.inl ⟨by rfl, ?_⟩) hHeld ?_
      rotate_left 1
      · intro u hSu
        obtain ⟨q0, q1⟩ := row_cells hSu.out.s.tb
        obtain ⟨q2, q3⟩ := row_cells hSu.out.s.fb
        obtain ⟨q4, q5⟩ := hSu.out.rt HY.out
        obtain ⟨q6, q7⟩ := row_cells hSu.out.bx
        go_simp
        first | done | with_reducible rfl
      (try simp only [Act.put, List.setIfInBounds_toArray, List.set_cons_zero, List.set_cons_succ])
      refine wpAnyH_done (by kernel_rfl) ?_ _
      have K2 := hHeld
      clear hHeld
      change Exit.then _ _ _ _ wr.drew
      generalize wr.drew = wz at *
      go_upto_region 8 with fail
      refine region_until (S := fun w' => Hid (WR w ⟨R, L, some ⟨b, off, none⟩, cR, pL, cL⟩ F Bx (Bx + 1) vR M w')) (fun j => j == 8 || j == 9 || j == 10) (by kernel_rfl) (Lib.hid (K2.out.keep (grown_drew (grown_refl _ _)))) (fun hHeld => ?_)
      refine anyU_take (i := 0) (oi := { dst := some 30, op := Op.fieldAddr 26 (Operand.tmp 5) 0, type := 0, pos := "ref.go:147", after := #[], guard := none }) (v := ?_) rfl (by kernel_rfl) (by kernel_rfl) (by kernel_rfl) (by kernel_rfl) (by kernel_rfl) (fun _ _ _ h => h) (Or.inl ⟨by rfl, ?_⟩) hHeld ?_
      rotate_left 1
      · intro u hSu
        obtain ⟨q0, q1⟩ := row_cells hSu.out.s.tb
        obtain ⟨q2, q3⟩ := row_cells hSu.out.s.fb
        obtain ⟨q4, q5⟩ := hSu.out.rt HY.out
        obtain ⟨q6, q7⟩ := row_cells hSu.out.bx
        go_simp
        first | done | with_reducible rfl
      (try simp only [Act.put, List.setIfInBounds_toArray, List.set_cons_zero, List.set_cons_succ])
      refine anyU_take (i := 1) (oi := { dst := some 31, op := Op.load 23 (Operand.tmp 30), type := 23, pos := "ref.go:147", after := #[{ on := 0, ground := Ground.data }], guard := none }) (v := ?_) rfl (by kernel_rfl) (by kernel_rfl) (by kernel_rfl) (by kernel_rfl) (by kernel_rfl) (fun _ _ _ h => h) (Or.inl ⟨by rfl, ?_⟩) hHeld ?_
      rotate_left 1
      · intro u hSu
        obtain ⟨q0, q1⟩ := row_cells hSu.out.s.tb
        obtain ⟨q2, q3⟩ := row_cells hSu.out.s.fb
        obtain ⟨q4, q5⟩ := hSu.out.rt HY.out
        obtain ⟨q6, q7⟩ := row_cells hSu.out.bx
        go_simp
        first | done | with_reducible rfl
      (try simp only [Act.put, List.setIfInBounds_toArray, List.set_cons_zero, List.set_cons_succ])
      refine anyU_take (i := 2) (oi := { dst := some 32, op := Op.fieldAddr 26 (Operand.tmp 2) 0, type := 0, pos := "ref.go:147", after := #[], guard := none }) (v := ?_) rfl (by kernel_rfl) (by kernel_rfl) (by kernel_rfl) (by kernel_rfl) (by kernel_rfl) (fun _ _ _ h => h) (Or.inl ⟨by rfl, ?_⟩) hHeld ?_
      rotate_left 1
      · intro u hSu
        obtain ⟨q0, q1⟩ := row_cells hSu.out.s.tb
        obtain ⟨q2, q3⟩ := row_cells hSu.out.s.fb
        obtain ⟨q4, q5⟩ := hSu.out.rt HY.out
        obtain ⟨q6, q7⟩ := row_cells hSu.out.bx
        go_simp
        first | done | with_reducible rfl
      (try simp only [Act.put, List.setIfInBounds_toArray, List.set_cons_zero, List.set_cons_succ])
      refine anyU_take (i := 3) (oi := { dst := some 33, op := Op.load 23 (Operand.tmp 32), type := 23, pos := "ref.go:147", after := #[{ on := 2, ground := Ground.data }], guard := none }) (v := ?_) rfl (by kernel_rfl) (by kernel_rfl) (by kernel_rfl) (by kernel_rfl) (by kernel_rfl) (fun _ _ _ h => h) (Or.inl ⟨by rfl, ?_⟩) hHeld ?_
      rotate_left 1
      · intro u hSu
        obtain ⟨q0, q1⟩ := row_cells hSu.out.s.tb
        obtain ⟨q2, q3⟩ := row_cells hSu.out.s.fb
        obtain ⟨q4, q5⟩ := hSu.out.rt HY.out
        obtain ⟨q6, q7⟩ := row_cells hSu.out.bx
        go_simp
        first | done | with_reducible rfl
      (try simp only [Act.put, List.setIfInBounds_toArray, List.set_cons_zero, List.set_cons_succ])
      refine anyU_take (i := 4) (oi := { dst := some 34, op := Op.move (Operand.tmp 6), type := 3, pos := "ref.go:147", after := #[], guard := none }) (v := ?_) rfl (by kernel_rfl) (by kernel_rfl) (by kernel_rfl) (by kernel_rfl) (by kernel_rfl) (fun _ _ _ h => h) (Or.inl ⟨by rfl, ?_⟩) hHeld ?_
      rotate_left 1
      · intro u hSu
        obtain ⟨q0, q1⟩ := row_cells hSu.out.s.tb
        obtain ⟨q2, q3⟩ := row_cells hSu.out.s.fb
        obtain ⟨q4, q5⟩ := hSu.out.rt HY.out
        obtain ⟨q6, q7⟩ := row_cells hSu.out.bx
        go_simp
        first | done | with_reducible rfl
      (try simp only [Act.put, List.setIfInBounds_toArray, List.set_cons_zero, List.set_cons_succ])
      refine anyU_take (i := 5) (oi := { dst := some 35, op := Op.indexAddr 23 (Operand.tmp 33) (Operand.tmp 34), type := 0, pos := "ref.go:147", after := #[{ on := 3, ground := Ground.data }, { on := 4, ground := Ground.data }], guard := none }) (v := ?_) rfl (by kernel_rfl) (by kernel_rfl) (by kernel_rfl) (by kernel_rfl) (by kernel_rfl) (fun _ _ _ h => h) (Or.inl ⟨by rfl, ?_⟩) hHeld ?_
      rotate_left 1
      · intro u hSu
        obtain ⟨q0, q1⟩ := row_cells hSu.out.s.tb
        obtain ⟨q2, q3⟩ := row_cells hSu.out.s.fb
        obtain ⟨q4, q5⟩ := hSu.out.rt HY.out
        obtain ⟨q6, q7⟩ := row_cells hSu.out.bx
        go_simp
        first | done | with_reducible rfl
      (try simp only [Act.put, List.setIfInBounds_toArray, List.set_cons_zero, List.set_cons_succ])
      refine anyU_take (i := 6) (oi := { dst := some 36, op := Op.load 73 (Operand.tmp 35), type := 73, pos := "ref.go:147", after := #[{ on := 5, ground := Ground.data }], guard := none }) (v := ?_) rfl (by kernel_rfl) (by kernel_rfl) (by kernel_rfl) (by kernel_rfl) (by kernel_rfl) (fun _ _ _ h => h) (Or.inl ⟨by rfl, ?_⟩) hHeld ?_
      rotate_left 1
      · intro u hSu
        obtain ⟨q0, q1⟩ := row_cells hSu.out.s.tb
        obtain ⟨q2, q3⟩ := row_cells hSu.out.s.fb
        obtain ⟨q4, q5⟩ := hSu.out.rt HY.out
        obtain ⟨q6, q7⟩ := row_cells hSu.out.bx
        go_simp
        first | done | with_reducible rfl
      (try simp only [Act.put, List.setIfInBounds_toArray, List.set_cons_zero, List.set_cons_succ])
      refine anyU_ready (rs := [7]) (by kernel_rfl) (by simp) ?_
      refine EachU.cons (o := { dst := some 37, op := Op.buildSlice 23 1 #[(0, Operand.tmp 36)], type := 23, pos := "ref.go:147", after := #[{ on := 6, ground := Ground.data }], guard := none }) rfl (fun Kz hK => ?_) EachU.nil
      have H8 := hHeld
      go_simp
      refine hK.out _ _ (fun _ => Lib.hid (hHeld.out.keep (World.grownBy_alloc _ _ none))) (fun hH2 => ?_)
      clear hK Kz hHeld
      have hHeld := hH2 rfl
      clear hH2
      (try simp only [Act.put, List.setIfInBounds_toArray, List.set_cons_zero, List.set_cons_succ])
      refine anyU_ready (rs := [8]) (by kernel_rfl) (by simp) ?_
      refine EachU.cons (o := { dst := some 38, op := Op.call { callee := Callee.builtin Builtin.append, args := #[Operand.tmp 31, Operand.tmp 37], argTypes := #[23, 23] }, type := 23, pos := "ref.go:147", after := #[{ on := 1, ground := Ground.data }, { on := 7, ground := Ground.data }], guard := none }) rfl (fun Kz hK => ?_) EachU.nil
      refine step_append_lies _ (by rfl) _ _ 23 (by rfl) (Bx + 1) 73 ir (.agg #[.int .i64 0, .bool false]) 2 16 Try.underlying23 hir hr0 hr1 hr2 rfl (by decide) vR M.length (M.flatMap rtC) (by rfl) (H8.out.own.alloc _) ⟨wz.heap.size, 0, none⟩ 1 1 [.int .i64 y.id, .bool y.cap] (by rfl) (by rfl) (cells2 wz.drew _ _ _) (by intro u hu; simp at hu; rcases hu with rfl | rfl <;> rfl) (by omega) (by unfold maxLen; omega) (by omega) (by have := H8.out.b1; simp at this ⊢; omega) _ rfl ?_
      intro g cap w9 hown hgrow hat hlt9
      have m := Lib.hid (H8.out.mid (grown_refl _ none) hown hgrow)
      have cc := row_cells m.out.2.1
      have c90 := cc.1
      have c91 := cc.2
      have fB := frozen_of_row _ _ 0 _ _ m.out.2.1
      clear cc hown hgrow hat hlt9
      refine hK.out _ _ (fun h => by cases h) (fun _ => ?_)
      clear hK Kz
      (try simp only [Act.put, List.setIfInBounds_toArray, List.set_cons_zero, List.set_cons_succ])
      refine anyU_ready (rs := [9]) (by kernel_rfl) (by simp) ?_
      refine EachU.cons (o := { dst := some 39, op := Op.fieldAddr 26 (Operand.tmp 5) 0, type := 0, pos := "ref.go:147", after := #[{ on := 0, ground := Ground.phase }, { on := 1, ground := Ground.phase }, { on := 2, ground := Ground.phase }, { on := 3, ground := Ground.phase }, { on := 4, ground := Ground.phase }, { on := 5, ground := Ground.phase }, { on := 6, ground := Ground.phase }, { on := 7, ground := Ground.phase }, { on := 8, ground := Ground.phase }], guard := none }) rfl (fun Kz hK => ?_) EachU.nil
      go_simp
      refine hK.out _ _ (fun h => by cases h) (fun _ => ?_)
      clear hK Kz
      (try simp only [Act.put, List.setIfInBounds_toArray, List.set_cons_zero, List.set_cons_succ])
      refine anyU_ready (rs := [10]) (by kernel_rfl) (by simp) ?_
      refine EachU.cons (o := { dst := none, op := Op.store 23 (Operand.tmp 39) (Operand.tmp 38), type := 0, pos := "ref.go:147", after := #[{ on := 9, ground := Ground.data }, { on := 8, ground := Ground.data }, { on := 8, ground := Ground.chain }, { on := 0, ground := Ground.phase }, { on := 1, ground := Ground.phase }, { on := 2, ground := Ground.phase }, { on := 3, ground := Ground.phase }, { on := 4, ground := Ground.phase }, { on := 5, ground := Ground.phase }, { on := 6, ground := Ground.phase }, { on := 7, ground := Ground.phase }, { on := 8, ground := Ground.phase }], guard := none }) rfl (fun Kz hK => ?_) EachU.nil
      go_simp
      refine hK.out _ _ (fun h => by cases h) (fun _ => ?_)
      clear hK Kz
      (try simp only [Act.put, List.setIfInBounds_toArray, List.set_cons_zero, List.set_cons_succ])
      refine anyU_done (by kernel_rfl) ?_ _
      have N2 : Hid (WR w ⟨R, L, some ⟨b, off, none⟩, cR, pL, cL⟩ F Bx (Bx + 1) (.slice (some ⟨g, 0, none⟩) (M.length + 1) cap) (woR F (R.take (k + 1))) (w9.setCell ⟨Bx, 0, none⟩ (.slice (some ⟨g, 0, none⟩) (M.length + 1) cap))) := Lib.hid (by rw [HL.out]; exact WR.put ⟨hbx.1, hbx.2.1⟩ m.out)
      clear m c90 c91 fB H8 hHeld
      go_wp2_with fail
      exact ⟨⟨k + 1, by omega, congrArg _ (by omega), _, N2⟩, by simp only [intOf]; omega⟩
    · rw [hx] at HL
      have HX := Lib.hid hx
      clear hx
      refine wp_region_held_drew (S := fun w' => Hid (WR w ⟨R, L, some ⟨b, off, none⟩, cR, pL, cL⟩ F Bx (Bx + 1) vR M w')) (by kernel_rfl) (Lib.hid (HK.out.keep (grown_drew (grown_refl _ _)))) (fun hHeld => ?_)
      refine wpAnyH_take (i := 0) (oi := { dst := some 20, op := Op.fieldAddr 47 (Operand.tmp 3) 1, type := 0, pos := "ref.go:146", after := #[], guard := none }) (v := ?_) rfl (by kernel_rfl) (by kernel_rfl) (by kernel_rfl) (fun _ _ _ h => h) (Or.inl ⟨by rfl, ?_⟩) hHeld ?_
      rotate_left 1
      · intro u hSu
        obtain ⟨q0, q1⟩ := row_cells hSu.out.s.tb
        obtain ⟨q2, q3⟩ := row_cells hSu.out.s.fb
        obtain ⟨q4, q5⟩ := hSu.out.rt HY.out
        obtain ⟨q6, q7⟩ := row_cells hSu.out.bx
        go_simp
        first | done | with_reducible rfl
      (try simp only [Act.put, List.setIfInBounds_toArray, List.set_cons_zero, List.set_cons_succ])
      refine wpAnyH_take (i := 1) (oi := { dst := some 21, op := Op.load 22 (Operand.tmp 20), type := 22, pos := "ref.go:146", after := #[{ on := 0, ground := Ground.data }], guard := none }) (v := ?_) rfl (by kernel_rfl) (by kernel_rfl) (by kernel_rfl) (fun _ _ _ h => h) (Or.inl ⟨by rfl, ?_⟩) hHeld ?_
      rotate_left 1
      · intro u hSu
        obtain ⟨q0, q1⟩ := row_cells hSu.out.s.tb
        obtain ⟨q2, q3⟩ := row_cells hSu.out.s.fb
        obtain ⟨q4, q5⟩ := hSu.out.rt HY.out
        obtain ⟨q6, q7⟩ := row_cells hSu.out.bx
        go_simp
        first | done | with_reducible rfl
      (try simp only [Act.put, List.setIfInBounds_toArray, List.set_cons_zero, List.set_cons_succ])
      refine wpAnyH_take (i := 2) (oi := { dst := some 22, op := Op.fieldAddr 26 (Operand.tmp 2) 0, type := 0, pos := "ref.go:146", after := #[], guard := none }) (v := ?_) rfl (by kernel_rfl) (by kernel_rfl) (by kernel_rfl) (fun _ _ _ h => h) (Or.inl ⟨by rfl, ?_⟩) hHeld ?_
      rotate_left 1
      · intro u hSu
        obtain ⟨q0, q1⟩ := row_cells hSu.out.s.tb
        obtain ⟨q2, q3⟩ := row_cells hSu.out.s.fb
        obtain ⟨q4, q5⟩ := hSu.out.rt HY.out
        obtain ⟨q6, q7⟩ := row_cells hSu.out.bx
        go_simp
        first | done | with_reducible rfl
      (try simp only [Act.put, List.setIfInBounds_toArray, List.set_cons_zero, List.set_cons_succ])
      refine wpAnyH_take (i := 3) (oi := { dst := some 23, op := Op.load 23 (Operand.tmp 22), type := 23, pos := "ref.go:146", after := #[{ on := 2, ground := Ground.data }], guard := none }) (v := ?_) rfl (by kernel_rfl) (by kernel_rfl) (by kernel_rfl) (fun _ _ _ h => h) (Or.inl ⟨by rfl, ?_⟩) hHeld ?_
      rotate_left 1
      · intro u hSu
        obtain ⟨q0, q1⟩ := row_cells hSu.out.s.tb
        obtain ⟨q2, q3⟩ := row_cells hSu.out.s.fb
        obtain ⟨q4, q5⟩ := hSu.out.rt HY.out
        obtain ⟨q6, q7⟩ := row_cells hSu.out.bx
        go_simp
        first | done | with_reducible rfl
      (try simp only [Act.put, List.setIfInBounds_toArray, List.set_cons_zero, List.set_cons_succ])
      refine wpAnyH_take (i := 4) (oi := { dst := some 24, op := Op.move (Operand.tmp 6), type := 3, pos := "ref.go:146", after := #[], guard := none }) (v := ?_) rfl (by kernel_rfl) (by kernel_rfl) (by kernel_rfl) (fun _ _ _ h => h) (Or.inl ⟨by rfl, ?_⟩) hHeld ?_
      rotate_left 1
      · intro u hSu
        obtain ⟨q0, q1⟩ := row_cells hSu.out.s.tb
        obtain ⟨q2, q3⟩ := row_cells hSu.out.s.fb
        obtain ⟨q4, q5⟩ := hSu.out.rt HY.out
        obtain ⟨q6, q7⟩ := row_cells hSu.out.bx
        go_simp
        first | done | with_reducible rfl
      (try simp only [Act.put, List.setIfInBounds_toArray, List.set_cons_zero, List.set_cons_succ])
      refine wpAnyH_take (i := 5) (oi := { dst := some 25, op := Op.indexAddr 23 (Operand.tmp 23) (Operand.tmp 24), type := 0, pos := "ref.go:146", after := #[{ on := 3, ground := Ground.data }, { on := 4, ground := Ground.data }], guard := none }) (v := ?_) rfl (by kernel_rfl) (by kernel_rfl) (by kernel_rfl) (fun _ _ _ h => h) (Or.inl ⟨by rfl, ?_⟩) hHeld ?_
      rotate_left 1
      · intro u hSu
        obtain ⟨q0, q1⟩ := row_cells hSu.out.s.tb
        obtain ⟨q2, q3⟩ := row_cells hSu.out.s.fb
        obtain ⟨q4, q5⟩ := hSu.out.rt HY.out
        obtain ⟨q6, q7⟩ := row_cells hSu.out.bx
        go_simp
        first | done | with_reducible rfl
      (try simp only [Act.put, List.setIfInBounds_toArray, List.set_cons_zero, List.set_cons_succ])
      refine wpAnyH_take (i := 6) (oi := { dst := some 26, op := Op.fieldAddr 73 (Operand.tmp 25) 0, type := 0, pos := "ref.go:146", after := #[{ on := 5, ground := Ground.data }], guard := none }) (v := ?_) rfl (by kernel_rfl) (by kernel_rfl) (by kernel_rfl) (fun _ _ _ h => h) (Or.inl ⟨by rfl, ?_⟩) hHeld ?_
      rotate_left 1
      · intro u hSu
        obtain ⟨q0, q1⟩ := row_cells hSu.out.s.tb
        obtain ⟨q2, q3⟩ := row_cells hSu.out.s.fb
        obtain ⟨q4, q5⟩ := hSu.out.rt HY.out
        obtain ⟨q6, q7⟩ := row_cells hSu.out.bx
        go_simp
        first | done | with_reducible rfl
      (try simp only [Act.put, List.setIfInBounds_toArray, List.set_cons_zero, List.set_cons_succ])
      refine wpAnyH_take (i := 7) (oi := { dst := some 27, op := Op.load 3 (Operand.tmp 26), type := 3, pos := "ref.go:146", after := #[{ on := 6, ground := Ground.data }], guard := none }) (v := ?_) rfl (by kernel_rfl) (by kernel_rfl) (by kernel_rfl) (fun _ _ _ h => h) (Or.inl ⟨by rfl, ?_⟩) hHeld ?_
      rotate_left 1
      · intro u hSu
        obtain ⟨q0, q1⟩ := row_cells hSu.out.s.tb
        obtain ⟨q2, q3⟩ := row_cells hSu.out.s.fb
        obtain ⟨q4, q5⟩ := hSu.out.rt HY.out
        obtain ⟨q6, q7⟩ := row_cells hSu.out.bx
        go_simp
        first | done | with_reducible rfl
      (try simp only [Act.put, List.setIfInBounds_toArray, List.set_cons_zero, List.set_cons_succ])
      refine wpAnyH_ready (rs := [8]) (by kernel_rfl) (by simp) ?_
      refine AllReadyH.cons (o := { dst := some 28, op := Op.call { callee := Callee.value (Operand.func 47), args := #[Operand.tmp 21, Operand.tmp 27], argTypes := #[22, 3] }, type := 4, pos := "ref.go:146", after := #[{ on := 1, ground := Ground.data }, { on := 7, ground := Ground.data }], guard := none }) rfl (fun Kz hK => ?_) AllReadyH.nil
      go_simp
      go_at_call 47
      refine (rhas4_any F.X y.id F.pX F.cX _ _ hHeld.out.s.f.x hmX).mono ?_
      rintro e w5 ⟨rfl, rfl⟩
      rw [HX.out]
      refine hK.out _ _ (hHeld) (fun hH2 => ?_)
      clear hK Kz hHeld
      have hHeld := hH2
      clear hH2
      (try simp only [Act.put, List.setIfInBounds_toArray, List.set_cons_zero, List.set_cons_succ])
      refine wpAnyH_take (i := 9) (oi := { dst := some 29, op := Op.unOp UnOp.not 4 (Operand.tmp 28), type := 4, pos := "ref.go:146", after := #[{ on := 8, ground := Ground.data }], guard := none }) (v := ?_) rfl (by kernel_rfl) (by kernel_rfl) (by kernel_rfl) (fun _ _ _ h => h) (Or.inl ⟨by rfl, ?_⟩) hHeld ?_
      rotate_left 1
      · intro u hSu
        obtain ⟨q0, q1⟩ := row_cells hSu.out.s.tb
        obtain ⟨q2, q3⟩ := row_cells hSu.out.s.fb
        obtain ⟨q4, q5⟩ := hSu.out.rt HY.out
        obtain ⟨q6, q7⟩ := row_cells hSu.out.bx
        go_simp
        first | done | with_reducible rfl
      (try simp only [Act.put, List.setIfInBounds_toArray, List.set_cons_zero, List.set_cons_succ])
      refine wpAnyH_done (by kernel_rfl) ?_ _
      have N2 : Hid (WR w ⟨R, L, some ⟨b, off, none⟩, cR, pL, cL⟩ F Bx (Bx + 1) vR (woR F (R.take (k + 1))) wr.drew) := Lib.hid (by rw [HL.out]; show WR _ _ _ _ _ _ (_ ++ []) _; rw [List.append_nil]; exact hHeld.out)
      clear hHeld
      go_wp2_with fail
      exact ⟨⟨k + 1, by omega, congrArg _ (by omega), _, N2⟩, by simp only [intOf]; omega⟩
  have hcc := row_cells HK.out.s.tb
  clear hcc
  obtain rfl : k = R.length := by omega
  have hK := HK.out
  rw [List.take_length] at hK
  have hsz := hK.b1.2.2
  have L0 : Hid (WL w ⟨R, L, pR, cR, pL, cL⟩ F Bx wr.heap.size vR (.slice none 0 0) (woR F R) (woL F (L.take 0)) wr) := Lib.hid ⟨hK.s, hK.bx, World.ownsRow_nil _ _ _ _, (rdf_of_own2 hK.own).mono (fun b hb => ⟨by omega, hb.2⟩), own_shape hK.own, hbx.1, by omega, Nat.le_refl _⟩
  obtain ⟨c0, c1⟩ := row_cells hK.s.tb
  obtain ⟨B2, hB2⟩ : ∃ B2, wr.heap.size = B2 := ⟨_, rfl⟩
  rw [hB2] at L0
  have hb2 := L0.out.b1
  clear hK HK hB2 hsz
  obtain ⟨wo, rfl⟩ : ∃ wo : World, wo = wr := ⟨_, rfl⟩
  go_wp2_with fail
  go_loopw [7] (fun a wr => ∃ k : Nat, k ≤ L.length ∧ a = .int .i64 (k : Int) ∧ ∃ vL, Hid (WL w ⟨R, L, pR, cR, pL, cL⟩ F Bx B2 vR vL (woR F R) (woL F (L.take k)) wr)) (fun a _ => L.length - (intOf a).toNat)
  case atStart => exact ⟨0, Nat.zero_le _, rfl, _, L0⟩
  case round =>
  obtain ⟨k, hk, rfl, vL, HK⟩ := hrel
  clear L0 c0 c1
  by_cases hlt : k < L.length
  case pos =>
    obtain ⟨-, b, off, rfl, hq, hc⟩ := rdl_cells (L := L) HK.out.s.t.l (by omega)
    obtain ⟨y, hy⟩ : ∃ y, L[k]? = some y := ⟨_, List.getElem?_eq_getElem hlt⟩
    obtain ⟨a0, a1, a2, a3, a4⟩ := hc k y hy
    obtain ⟨c0, c1⟩ := row_cells HK.out.s.tb
    have gal := World.grownBy_alloc wr (.cells #[.int .i64 y.a, .int .i64 y.b, .int .i64 y.ca, .int .i64 y.cb, .int .i64 y.cp] 68) none
    have HB := Lib.hid (And.intro (heap_alloc_new wr (.cells #[.int .i64 y.a, .int .i64 y.b, .int .i64 y.ca, .int .i64 y.cb, .int .i64 y.cp] 68)) gal)
    have HL : Hid (woL F (L.take (k + 1)) = woL F (L.take k) ++ (if woK F y then [y] else [])) := Lib.hid (filter_snoc hy)
    have hln : (woL F (L.take k)).length ≤ k := Nat.le_trans (List.length_filter_le _ _) (List.length_take_le _ _)
    clear hc hy gal
    go_upto_region 13 with fail
    clear a0 a1 a2 a3 a4 c0 c1
    generalize wr.alloc _ = wy at *
    have K2 := Lib.hid (HK.out.keep HB.out.2)
    obtain ⟨d0, d1, d2, d3, d4⟩ := lk_facts HB.out.1
    obtain ⟨x0, x1⟩ := row_cells K2.out.s.fb
    have no : Hid (woK F y = false) → ∀ wz, Hid (wr.grownBy wz none) → Hid (WL w ⟨R, L, pR, cR, some ⟨b, off, none⟩, cL⟩ F Bx B2 vR vL (woR F R) (woL F (L.take (k + 1))) wz) := fun h wz g => Lib.hid (by rw [HL.out, h.out]; show WL _ _ _ _ _ _ _ _ (_ ++ []) _; rw [List.append_nil]; exact HK.out.keep g.out)
    have NO := Lib.hid no
    clear no
    cases h1 : hasI F.X y.a
    · cases h2 : hasI F.X y.b
      · cases h3 : nmd F.H y
        · have HW : Hid (woK F y = true) := Lib.hid (by unfold woK; rw [h1, h2, h3]; rfl)
          have H123 := Lib.hid (And.intro h1 (And.intro h2 h3))
          clear h1 h2 h3 NO
          go_wp2_with fail
          refine (rhas4_any F.X y.a F.pX F.cX _ _ K2.out.s.f.x hmX).mono ?_
          rintro e w' ⟨rfl, rfl⟩
          rw [H123.out.1]
          go_wp2_with fail
          refine (rhas4_any F.X y.b F.pX F.cX _ _ K2.out.s.f.x hmX).mono ?_
          rintro e w' ⟨rfl, rfl⟩
          rw [H123.out.2.1]
          go_wp2_with fail
          refine (rnamed_any F.H y.a y.b F.pH F.cH _ _ K2.out.s.f.h hmH).mono ?_
          rintro e wz ⟨rfl, rfl⟩
          have hg := grown_refl wy none
          rw [nmH_eq]
          have h3n := H123.out.2.2
          unfold nmd at h3n
          rw [h3n]
          clear h3n
          have HG := Lib.hid (grown_trans HB.out.2 hg)
          have HBz := Lib.hid HB.out.1
          have K3 := Lib.hid (HK.out.keep HG.out)
          clear hg d0 d1 d2 d3 d4
          obtain ⟨d0, d1, d2, d3, d4⟩ := lk_facts HBz.out
          obtain ⟨M, hM⟩ : ∃ M, woL F (L.take k) = M := ⟨_, rfl⟩
          rw [hM] at K2 K3 HL hln HK
          rw [HW.out] at HL
          clear hM
          obtain ⟨f0, f1⟩ := row_cells K3.out.bx
          have hown := K3.out.own
          have hbz := K3.out.b1
          go_wp2_with (at_builtin; refine wpList_append_own _ rfl _ _ 24 rfl B2 68 il (.agg #[.int .i64 0, .int .i64 0, .int .i64 0, .int .i64 0, .int .i64 0]) 5 40 Try.underlying24 hil hl0 hl1 hl2 rfl (by decide) _ _ _ rfl (hown.alloc _) ⟨wy.heap.size, 0, none⟩ 1 1 [.int .i64 y.a, .int .i64 y.b, .int .i64 y.ca, .int .i64 y.cb, .int .i64 y.cp] rfl rfl ?c1 ?c2 ?c3 ?c4 ?c5 ?_)
          try (case c1 => exact cells5 _ _ _ _ _ _ _)
          case c2 => intro u hu; simp at hu; rcases hu with rfl | rfl | rfl | rfl | rfl <;> rfl
          case c3 => first | omega | (unfold maxLen; omega)
          case c4 => omega
          case c5 => first | omega | (simp; omega)
          intro v' w3 hown' hg _
          obtain ⟨p', c', rfl, -, -⟩ := own_shape hown'
          have m := HK.out.mid HG.out hown' hg
          obtain ⟨g0, g1⟩ := row_cells m.2.1
          have gf := frozen_of_row w3 Bx 1 _ _ m.2.1
          have N2 : Hid (WL w ⟨R, L, pR, cR, some ⟨b, off, none⟩, cL⟩ F Bx B2 vR (.slice p' (M.length + 1) c') (woR F R) (woL F (L.take (k + 1))) (w3.setCell ⟨Bx, 1, none⟩ (.slice p' (M.length + 1) c'))) := Lib.hid (by rw [HL.out]; exact WL.put ⟨hb2.1, hb2.2.1⟩ m)
          clear m hown' hg hown f0 f1 d0 d1 d2 d3 d4
          go_wp2_with fail
          exact ⟨⟨k + 1, by omega, congrArg _ (by omega), _, N2⟩, by simp only [intOf]; omega⟩
        · have HW : Hid (woK F y = false) := Lib.hid (by unfold woK; rw [h1, h2, h3]; rfl)
          have H123 := Lib.hid (And.intro h1 (And.intro h2 h3))
          clear h1 h2 h3
          go_wp2_with fail
          refine (rhas4_any F.X y.a F.pX F.cX _ _ K2.out.s.f.x hmX).mono ?_
          rintro e w' ⟨rfl, rfl⟩
          rw [H123.out.1]
          go_wp2_with fail
          refine (rhas4_any F.X y.b F.pX F.cX _ _ K2.out.s.f.x hmX).mono ?_
          rintro e w' ⟨rfl, rfl⟩
          rw [H123.out.2.1]
          go_wp2_with fail
          refine (rnamed_any F.H y.a y.b F.pH F.cH _ _ K2.out.s.f.h hmH).mono ?_
          rintro e wz ⟨rfl, rfl⟩
          have hg := grown_refl wy none
          rw [nmH_eq]
          have h3n := H123.out.2.2
          unfold nmd at h3n
          rw [h3n]
          clear h3n
          have N2 := NO.out HW wy (Lib.hid (grown_trans HB.out.2 hg))
          clear hg
          go_wp2_with fail
          exact ⟨⟨k + 1, by omega, congrArg _ (by omega), vL, N2⟩, by simp only [intOf]; omega⟩
      · have HW : Hid (woK F y = false) := Lib.hid (by unfold woK; rw [h1, h2]; rfl)
        have H123 := Lib.hid (And.intro h1 h2)
        have N2 := NO.out HW wy (Lib.hid HB.out.2)
        clear h1 h2
        go_wp2_with fail
        refine (rhas4_any F.X y.a F.pX F.cX _ _ K2.out.s.f.x hmX).mono ?_
        rintro e w' ⟨rfl, rfl⟩
        rw [H123.out.1]
        go_wp2_with fail
        refine (rhas4_any F.X y.b F.pX F.cX _ _ K2.out.s.f.x hmX).mono ?_
        rintro e w' ⟨rfl, rfl⟩
        rw [H123.out.2]
        go_wp2_with fail
        exact ⟨⟨k + 1, by omega, congrArg _ (by omega), vL, N2⟩, by simp only [intOf]; omega⟩
    · have HW : Hid (woK F y = false) := Lib.hid (by unfold woK; rw [h1]; rfl)
      have H123 := Lib.hid h1
      have N2 := NO.out HW wy (Lib.hid HB.out.2)
      clear h1
      go_wp2_with fail
      refine (rhas4_any F.X y.a F.pX F.cX _ _ K2.out.s.f.x hmX).mono ?_
      rintro e w' ⟨rfl, rfl⟩
      rw [H123.out]
      go_wp2_with fail
      exact ⟨⟨k + 1, by omega, congrArg _ (by omega), vL, N2⟩, by simp only [intOf]; omega⟩
  obtain rfl : k = L.length := by omega
  have hK := HK.out
  rw [List.take_length] at hK
  obtain ⟨pl', cl', rfl, hl1', hl2'⟩ := own_shape hK.own
  obtain ⟨pr', cr', rfl, hr1', hr2'⟩ := id hK.cv
  have K3 := Lib.hid hK
  obtain ⟨f0, f1⟩ := row_cells hK.bx
  obtain ⟨c0, c1⟩ := row_cells hK.s.tb
  have z0 := hK.s.rb.cell (j := 0) rfl
  have z1 := hK.s.rb.cell (j := 1) rfl
  have y0 := hK.s.rb.frozen 0
  have y1 := hK.s.rb.frozen 1
  have hrow := store2 (u := .slice pr' (woR F R).length cr') (z := .slice pl' (woL F L).length cl') (show wr.heap[w.heap.size + 2]? = some (.cells #[.slice none 0 0, .slice none 0 0] 26 (0, 0)) from hK.s.rb)
  have HR := Lib.hid (And.intro hrow (grown_new hK.s.gr (grown_store2 wr (w.heap.size + 2) (.slice pr' (woR F R).length cr') (.slice pl' (woL F L).length cl')) (by omega)))
  clear hrow hK HK
  go_wp2_with fail
  refine bodyPost_ret (res_topo rfl _ _ (w.heap.size + 2) _ _ rfl HR.out.1) rfl ?_
  rw [← HRL2.out.1, ← HRL2.out.2]
  have q : ∀ b, w.heap.size + 2 < b → some b ≠ some (w.heap.size + 2) := fun b hb e => by have := Option.some.inj e; omega
  have g9 := grown_store2 wr (w.heap.size + 2) (.slice pr' (woR F R).length cr') (.slice pl' (woL F L).length cl')
  refine ⟨pr', cr', pl', cl', rfl, ⟨?_, ?_, ⟨hr1', hr2'⟩, ⟨hl1', hl2'⟩⟩, HR.out.2⟩
  · exact (K3.out.rd.grown g9 (fun b hb => q b (by omega))).mono (fun b hb => by show w.heap.size ≤ b; omega)
  · exact ((rdf_of_own K3.out.own).grown g9 (fun b hb => q b (by have : B2 ≤ b := hb; omega))).mono (fun b hb => by have : B2 ≤ b := hb; show w.heap.size ≤ b; omega)
end Go.Proofs.Ytiencdgmnkphjaa

/- The reference's Same, of equal topologies. -/
namespace Go.Proofs.Ytiencdgmnkphjaa
open Go.RowKit Bs
/-- Two equal topologies in two boxes. -/
structure S2 (w : World) (R : List Rt) (L : List Lk) (pR pL pR2 pL2 : Option Addr) (cR cL cR2 cL2 : Nat) (wr : World) : Prop where
  b1 : wr.heap[w.heap.size]? = some (.cells #[.slice pR R.length cR, .slice pL L.length cL] 26 (0, 0))
  b2 : wr.heap[w.heap.size + 1]? = some (.cells #[.slice pR2 R.length cR2, .slice pL2 L.length cL2] 26 (0, 0))
  t1 : TgOk wr (fun _ => True) ⟨R, L, pR, cR, pL, cL⟩
  t2 : TgOk wr (fun _ => True) ⟨R, L, pR2, cR2, pL2, cL2⟩
  gr : w.grownBy wr none
theorem S2.keep {w wr w' : World} {R : List Rt} {L : List Lk} {pR pL pR2 pL2 : Option Addr} {cR cL cR2 cL2 : Nat} (h : S2 w R L pR pL pR2 pL2 cR cL cR2 cL2 wr) (g : wr.grownBy w' none) : S2 w R L pR pL pR2 pL2 cR cL cR2 cL2 w' :=
  ⟨kept_row h.b1 g (by simp), kept_row h.b2 g (by simp), h.t1.keep g, h.t2.keep g, grown_trans h.gr g⟩
set_option maxRecDepth 100000 in
set_option maxHeartbeats 3200000 in
theorem rsameT_any (T U : Tg) (hRR : U.R = T.R) (hLL : U.L = T.L) (q q2 : Nat → Prop) (w : World) (hT : TgOk w q T) (hU : TgOk w q2 U) :
    Calls Try.prog 32 #[.agg #[.slice T.pR T.R.length T.cR, .slice T.pL T.L.length T.cL], .agg #[.slice U.pR U.R.length U.cR, .slice U.pL U.L.length U.cL]] w fun e w' => e = .returned (.bool true) ∧ w.grownBy w' none := by
  obtain ⟨R, L, pR, cR, pL, cL⟩ := T
  obtain ⟨R2, L2, pR2, cR2, pL2, cL2⟩ := U
  simp only at hRR hLL
  subst hRR
  subst hLL
  simp only
  have hm1 := Nat.le_trans hT.cr.1 hT.cr.2
  have hm2 := Nat.le_trans hT.cl.1 hT.cl.2
  simp only at hm1 hm2
  obtain ⟨k1, k2, k3, _⟩ := two_boxes w #[.slice pR R2.length cR, .slice pL L2.length cL] #[.slice pR2 R2.length cR2, .slice pL2 L2.length cL2] 26 26
  have H0 : Hid (S2 w R2 L2 pR pL pR2 pL2 cR cL cR2 cL2 _) := Lib.hid ⟨k1, k2, (hT.mono (fun _ _ => trivial)).keep k3, (hU.mono (fun _ _ => trivial)).keep k3, k3⟩
  clear k1 k2 k3 hT hU
  go_enter Try.func32, Try.ntmps32
  go_upto_region 1 with fail
  generalize ((w.alloc _).alloc _) = wa at *
  obtain ⟨c0, c1⟩ := row_cells H0.out.b1
  obtain ⟨c2, c3⟩ := row_cells H0.out.b2
  go_wp2_with fail
  go_loopw [5] (fun a wr => ∃ k : Nat, k ≤ R2.length ∧ a = .int .i64 (k : Int) ∧ Hid (S2 w R2 L2 pR pL pR2 pL2 cR cL cR2 cL2 wr)) (fun a _ => R2.length - (intOf a).toNat)
  case atStart => exact ⟨0, Nat.zero_le _, rfl, H0⟩
  case round =>
  obtain ⟨k, hk, rfl, HK⟩ := hrel
  clear H0 c0 c1 c2 c3
  by_cases hlt : k < R2.length
  case pos =>
    obtain ⟨-, g1, o1, e1, -, hc1⟩ := rdr_cells HK.out.t1.r (by show 0 < R2.length; omega)
    obtain ⟨-, g2, o2, e2, -, hc2⟩ := rdr_cells HK.out.t2.r (by show 0 < R2.length; omega)
    simp only at e1 e2
    subst e1
    subst e2
    obtain ⟨y, hy⟩ : ∃ y, R2[k]? = some y := ⟨_, List.getElem?_eq_getElem hlt⟩
    obtain ⟨a0, a1⟩ := hc1 k y hy
    obtain ⟨a2, a3⟩ := hc2 k y hy
    obtain ⟨c0, c1⟩ := row_cells HK.out.b1
    obtain ⟨c2, c3⟩ := row_cells HK.out.b2
    have i0 : (0 : Int) ≤ (k : Int) := by omega
    have i1 : (k : Int) < (R2.length : Int) := by omega
    have HN : ∀ n, Hid (S2 w R2 L2 (some ⟨g1, o1, none⟩) pL (some ⟨g2, o2, none⟩) pL2 cR cL cR2 cL2 (wr.drewN n)) := fun n => Lib.hid (HK.out.keep (grown_drewN _ n _))
    clear hc1 hc2 hy HK
    go_wp2_with fail
    go_quiet (fail)
    clear a0 a1 a2 a3
    go_wp2_with fail
    exact ⟨⟨k + 1, by omega, congrArg _ (by omega), HN _⟩, by simp only [intOf]; omega⟩
  obtain rfl : k = R2.length := by omega
  obtain ⟨c0, c1⟩ := row_cells HK.out.b1
  obtain ⟨c2, c3⟩ := row_cells HK.out.b2
  go_wp2_with fail
  go_loopw [6] (fun a wr => ∃ k : Nat, k ≤ L2.length ∧ a = .int .i64 (k : Int) ∧ Hid (S2 w R2 L2 pR pL pR2 pL2 cR cL cR2 cL2 wr)) (fun a _ => L2.length - (intOf a).toNat)
  case atStart => exact ⟨0, Nat.zero_le _, rfl, HK⟩
  case round =>
  obtain ⟨k, hk, rfl, HK⟩ := hrel
  clear c0 c1 c2 c3
  by_cases hlt : k < L2.length
  case pos =>
    obtain ⟨-, g1, o1, e1, -, hc1⟩ := rdl_cells HK.out.t1.l (by show 0 < L2.length; omega)
    obtain ⟨-, g2, o2, e2, -, hc2⟩ := rdl_cells HK.out.t2.l (by show 0 < L2.length; omega)
    simp only at e1 e2
    subst e1
    subst e2
    obtain ⟨y, hy⟩ : ∃ y, L2[k]? = some y := ⟨_, List.getElem?_eq_getElem hlt⟩
    obtain ⟨a0, a1, a2, a3, a4⟩ := hc1 k y hy
    obtain ⟨d0, d1, d2, d3, d4⟩ := hc2 k y hy
    obtain ⟨c0, c1⟩ := row_cells HK.out.b1
    obtain ⟨c2, c3⟩ := row_cells HK.out.b2
    have i0 : (0 : Int) ≤ (k : Int) := by omega
    have i1 : (k : Int) < (L2.length : Int) := by omega
    have HN : ∀ n, Hid (S2 w R2 L2 pR (some ⟨g1, o1, none⟩) pR2 (some ⟨g2, o2, none⟩) cR cL cR2 cL2 (wr.drewN n)) := fun n => Lib.hid (HK.out.keep (grown_drewN _ n _))
    clear hc1 hc2 hy HK
    go_wp2_with fail
    go_quiet (fail)
    clear a0 a1 a2 a3 a4 d0 d1 d2 d3 d4
    go_wp2_with fail
    exact ⟨⟨k + 1, by omega, congrArg _ (by omega), HN _⟩, by simp only [intOf]; omega⟩
  obtain rfl : k = L2.length := by omega
  obtain ⟨c0, c1⟩ := row_cells HK.out.b1
  obtain ⟨c2, c3⟩ := row_cells HK.out.b2
  go_wp2_with fail
  go_ret
  exact ⟨rfl, HK.out.gr⟩
end Go.Proofs.Ytiencdgmnkphjaa

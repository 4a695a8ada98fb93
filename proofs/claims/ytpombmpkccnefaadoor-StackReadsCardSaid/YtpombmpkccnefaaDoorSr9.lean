/- Parts of the proof, packed: StLabs, StEncL, StVFrame, PkSize, StEncF, StRtOf, StDecL. -/
import Derived.Test.YtpombmpkccnefaaDoorSr8
import Derived.Test.YtpombmpkccnefaaDoorSr6
import Derived.Test.YtpombmpkccnefaaDoorSr7
import Derived.Test.YtpombmpkccnefaaDoorSr4
import Derived.Lib.SmallJoins
/- stack: labelOf, labelsOf. -/
namespace Go.Proofs.YtpombmpkccnefaaDoor
open Go.RowKit Bs
set_option maxRecDepth 100000 in
theorem res_lab {fn : Func} {p : Tmp} (h : fn.results = #[.cell p 41]) (tmps : Array Value) (w : World) (g : Nat) (xs : Array Value) (hp : tmps.getD p undef = .pointer (some ⟨g, 0, none⟩)) (hn : xs.size = 3) (hg : w.heap[g]? = some (.cells xs 41 (0, 0))) :
    (results fn tmps).run Tryd.prog w = .ok (.agg xs) w := by
  exact results_cell_row h tmps w g _ _ _ _ hp hg Tryd.underlying41 rfl (by rw [hn]; exact lab_size)
set_option maxRecDepth 100000 in
theorem slabof_any (z : Int) (hz : 1 ≤ z ∧ z ≤ 99) (w : World) :
    Calls Tryd.prog 105 #[.int .i64 z] w fun e w' => e = .returned (.agg #[.int .i64 (16 + z), .int .i64 0, .int .i64 255]) ∧ w.grownBy w' none := by
  obtain ⟨k1, k2⟩ := sone_box w #[.int .i64 0, .int .i64 0, .int .i64 0] 41
  have HB := Lib.hid (And.intro k1 k2)
  have f0 := frozen_of_row _ _ 0 _ _ k1
  have f1 := frozen_of_row _ _ 1 _ _ k1
  have f2 := frozen_of_row _ _ 2 _ _ k1
  obtain ⟨e0, e1, e2⟩ := lab_facts (l := ⟨0, 0, 0⟩) k1
  simp only at e0 e1 e2
  clear k1 k2
  obtain ⟨h1, h2⟩ := hz
  go_enter Tryd.func105, Tryd.ntmps105
  go_upto_region 1 with fail
  generalize w.alloc _ = wa at *
  go_wp2_with fail
  refine bodyPost_ret (res_lab rfl _ _ w.heap.size _ rfl rfl (store3 HB.out.1)) rfl ?_
  exact ⟨rfl, grown_new HB.out.2 (grown_store3 _ _ _ _ _) (Nat.le_refl _)⟩
set_option maxRecDepth 100000 in
theorem set3 {α : Type} (x y z a b c : α) (B : List α) : ∀ (A : List α) (i : Nat), A.length = i → (((A ++ x :: y :: z :: B).set i a).set (i + 1) b).set (i + 2) c = A ++ a :: b :: c :: B
  | [], i, h => by
    obtain rfl : i = 0 := h.symm
    rfl
  | d :: A, i, h => by
    rcases i with _ | i
    · simp at h
    · have := set3 x y z a b c B A i (by simpa using h)
      simp only [List.cons_append, List.set_cons_succ]
      rw [this]
def LOPost (r : List Int) (w : World) (e : Ending) (w' : World) : Prop := ∃ g, e = .returned (.slice (some ⟨g, 0, none⟩) r.length r.length) ∧ Row w' g 41 (labsC (r.map lbR)) ∧ w.heap.size ≤ g ∧ w.grownBy w' none
/-- While labels are written. -/
def labZ (r : List Int) (k : Nat) : List Value := labsC ((r.take k).map lbR) ++ List.replicate (3 * (r.length - k)) (iv 0)
set_option maxRecDepth 100000 in
theorem labZ_form {r : List Int} {k : Nat} (h : k < r.length) : labZ r k = labsC ((r.take k).map lbR) ++ iv 0 :: iv 0 :: iv 0 :: List.replicate (3 * (r.length - (k + 1))) (iv 0) := by
  unfold labZ
  rw [show 3 * (r.length - k) = 3 * (r.length - (k + 1)) + 3 by omega, List.replicate_succ, List.replicate_succ, List.replicate_succ]
set_option maxRecDepth 100000 in
theorem labZ_pre {r : List Int} {k : Nat} (h : k ≤ r.length) : (labsC ((r.take k).map lbR)).length = k * 3 := by
  rw [labsC_len, List.length_map, List.length_take, Nat.min_eq_left h, Nat.mul_comm]
set_option maxRecDepth 100000 in
theorem labZ_at {r : List Int} {k : Nat} (h : k < r.length) : (labZ r k)[k * 3]? = some (iv 0) ∧ (labZ r k)[k * 3 + 1]? = some (iv 0) ∧ (labZ r k)[k * 3 + 2]? = some (iv 0) := by
  have hl := labZ_pre (Nat.le_of_lt h)
  rw [labZ_form h]
  refine ⟨?_, ?_, ?_⟩ <;> rw [List.getElem?_append_right (by omega), hl]
  · simp
  · rw [show k * 3 + 1 - k * 3 = 1 by omega]; rfl
  · rw [show k * 3 + 2 - k * 3 = 2 by omega]; rfl
set_option maxRecDepth 100000 in
theorem labZ_set {r : List Int} {k : Nat} {z : Int} (h : k < r.length) (hz : r[k]? = some z) : (((labZ r k).set (k * 3) (iv (16 + z))).set (k * 3 + 1) (iv 0)).set (k * 3 + 2) (iv 255) = labZ r (k + 1) := by
  rw [labZ_form h, set3 _ _ _ _ _ _ _ _ _ (labZ_pre (Nat.le_of_lt h))]
  unfold labZ
  rw [List.take_add_one, hz]
  show _ = labsC (List.map lbR (r.take k ++ [z])) ++ _
  rw [List.map_append, List.map_singleton, labsC_snoc]
  simp [labC, lbR, iv]
set_option maxRecDepth 100000 in
set_option maxHeartbeats 3200000 in
theorem slabs_any (r : List Int) (hr : allR r = true) (p : Option Addr) (c : Nat) (h24 : r.length ≤ 24) (q : Nat → Prop) (w : World) (hR : Rd w q (.slice p r.length c) (r.map iv)) :
    Calls Tryd.prog 80 #[.slice p r.length c] w fun e w' => LOPost r w e w' := by
  have HR := Lib.hid hR
  have HA := Lib.hid hr
  clear hR hr
  obtain ⟨i0, hi, hz0, hz1, hz2⟩ := info_parts info_lab
  go_enter Tryd.func80, Tryd.ntmps80
  go_wp2_with (at_make; refine wpList_make_k _ rfl _ _ 49 rfl 41 i0 _ Tryd.underlying49 hi hz0 r.length rfl rfl (by omega) (by omega) ?_; rw [hz1, made_same _ (iv 0) (by intro i hi; have : i = 0 ∨ i = 1 ∨ i = 2 := by { simp [Value.cells] at hi; omega }; rcases this with rfl | rfl | rfl <;> rfl) (by simp [Value.cells]) _])
  obtain ⟨k1, k2⟩ := sone_box w (Array.replicate (r.length * 3) (iv 0)) 41
  have P0 : Hid (Row (w.alloc (.cells (Array.replicate (r.length * 3) (iv 0)) 41)) w.heap.size 41 (labZ r 0) ∧ w.grownBy (w.alloc (.cells (Array.replicate (r.length * 3) (iv 0)) 41)) none) := by
    refine Lib.hid ⟨?_, k2⟩
    unfold Row labZ
    rw [k1, List.take_zero, show 3 * (r.length - 0) = r.length * 3 by omega]
    show _ = some (Obj.cells (List.replicate (r.length * 3) (iv 0)).toArray _ _)
    rw [List.toArray_replicate]
  clear k1 k2
  generalize w.alloc _ = wa at *
  go_loopw [11] (fun a wr => ∃ k : Nat, k ≤ r.length ∧ a = .int .i64 (k : Int) ∧ Row wr w.heap.size 41 (labZ r k) ∧ w.grownBy wr none) (fun a _ => r.length - (intOf a).toNat)
  case atStart => exact ⟨0, Nat.zero_le _, rfl, P0.out.1, P0.out.2⟩
  case round =>
    obtain ⟨k, hk, rfl, hX, hG⟩ := hrel
    have HX := Lib.hid (And.intro hX hG)
    clear hX hG P0
    by_cases hlt : k < r.length
    · obtain ⟨b, off, rfl, hq, hc⟩ := rdi_cells (HR.out.keep HX.out.2) (by omega)
      have c0 := hc k hlt
      obtain ⟨z, hz⟩ : ∃ z, r.getD k 0 = z := ⟨_, rfl⟩
      rw [hz] at c0
      have hk2 : r[k]? = some z := by rw [← hz, List.getD_eq_getElem?_getD, List.getElem?_eq_getElem hlt]; rfl
      have hz9 : 1 ≤ z ∧ z ≤ 99 := by
        have := List.all_eq_true.1 HA.out z (List.mem_of_getElem? hk2)
        simpa [okR] using this
      have HK := Lib.hid hk2
      have HZ := Lib.hid hz9
      clear hc hz hk2 hz9
      go_wp2_with fail
      refine (slabof_any z HZ.out _).mono ?_
      rintro e w1 ⟨rfl, hg⟩
      have HX1 := Lib.hid (And.intro (HX.out.1.kept hg (by simp)) (grown_trans HX.out.2 hg))
      clear hg HX c0
      obtain ⟨l0, l1, l2⟩ := labZ_at hlt
      have e0 : w1.cell? ⟨w.heap.size, k * 3, none⟩ = some (.int .i64 0) := HX1.out.1.cell l0
      have e1 : w1.cell? ⟨w.heap.size, k * 3 + 1, none⟩ = some (.int .i64 0) := HX1.out.1.cell l1
      have e2 : w1.cell? ⟨w.heap.size, k * 3 + 2, none⟩ = some (.int .i64 0) := HX1.out.1.cell l2
      have f0 := HX1.out.1.frozen (k * 3)
      have f1 := HX1.out.1.frozen (k * 3 + 1)
      have f2 := HX1.out.1.frozen (k * 3 + 2)
      have HS : Hid (Row (((w1.setCell ⟨w.heap.size, k * 3, none⟩ (.int .i64 (16 + z))).setCell ⟨w.heap.size, k * 3 + 1, none⟩ (.int .i64 0)).setCell ⟨w.heap.size, k * 3 + 2, none⟩ (.int .i64 255)) w.heap.size 41 (labZ r (k + 1)) ∧
          w.grownBy (((w1.setCell ⟨w.heap.size, k * 3, none⟩ (.int .i64 (16 + z))).setCell ⟨w.heap.size, k * 3 + 1, none⟩ (.int .i64 0)).setCell ⟨w.heap.size, k * 3 + 2, none⟩ (.int .i64 255)) none) := by
        refine Lib.hid ⟨?_, grown_new HX1.out.2 (grown_trans (grown_trans (grown_setCell w1 ⟨w.heap.size, k * 3, none⟩ _) (grown_setCell _ ⟨w.heap.size, k * 3 + 1, none⟩ _)) (grown_setCell _ ⟨w.heap.size, k * 3 + 2, none⟩ _)) (Nat.le_refl _)⟩
        rw [← labZ_set hlt HK.out]
        exact ((HX1.out.1.set _ _).set _ _).set _ _
      clear l0 l1 l2
      go_wp2_with fail
      exact ⟨⟨k + 1, by omega, congrArg _ (by omega), HS.out.1, HS.out.2⟩, by simp only [intOf]; omega⟩
    · obtain rfl : k = r.length := by omega
      go_wp2_with fail
      go_ret
      refine ⟨w.heap.size, rfl, ?_, Nat.le_refl _, HX.out.2⟩
      have := HX.out.1
      unfold labZ at this
      rw [List.take_length, Nat.sub_self] at this
      simpa using this
end Go.Proofs.YtpombmpkccnefaaDoor

/- stack: EncodeLabels. -/
namespace Go.Proofs.YtpombmpkccnefaaDoor
open Go.RowKit Bs
def lenL (n : Nat) : Bool := decide (1 ≤ (n : Int) ∧ (n : Int) ≤ 24)
/-- The error of EncodeLabels, and its bytes. -/
def encE (ls : List Lab) : Int := if lenL ls.length then (if ls.all vlab then 0 else 2) else 3
def encB (ls : List Lab) : List Nat := if encE ls = 0 then encL ls else []
def ELPost (ls : List Lab) (w : World) (e : Ending) (w' : World) : Prop := ∃ p c, e = .returned (.tuple #[.slice p (encB ls).length c, .int .i64 (encE ls)]) ∧ Own w' w.heap.size p c (encB ls) ∧ w.grownBy w' none
set_option maxRecDepth 100000 in
theorem el_err {ls : List Lab} {w w' : World} {x : Int} (h : encE ls = x) (hx : x ≠ 0) (g : w.grownBy w' none) : ELPost ls w (.returned (.tuple #[.slice none 0 0, .int .i64 x])) w' := by
  have hb : encB ls = [] := by unfold encB; rw [if_neg (by rw [h]; exact hx)]
  refine ⟨none, 0, by rw [hb, h]; rfl, ?_, g⟩
  rw [hb]
  exact ⟨World.ownsRow_nil _ _ _ _, fun _ => rfl, fun x hx => by cases hx⟩
/-- The words of a stack. -/
def partsL (ls : List Lab) : List (List Nat) := (List.range ls.length).map fun i => by4 (wordL (ls.getD i ⟨0, 0, 0⟩) (decide (i + 1 = ls.length)))
set_option maxRecDepth 100000 in
theorem partsL_at {ls : List Lab} {i : Nat} (h : i < ls.length) : (partsL ls)[i]? = some (by4 (wordL (ls.getD i ⟨0, 0, 0⟩) (decide (i + 1 = ls.length)))) := by
  unfold partsL
  rw [List.getElem?_map, List.getElem?_range h]; rfl
set_option maxRecDepth 100000 in
theorem partsL_len (ls : List Lab) : (partsL ls).length = ls.length := by unfold partsL; simp
set_option maxRecDepth 100000 in
theorem partsL_cons (l m : Lab) (r : List Lab) : partsL (l :: m :: r) = by4 (wordL l false) :: partsL (m :: r) := by
  apply List.ext_getElem?
  intro i
  rcases i with _ | i
  · rw [partsL_at (by simp)]; simp
  · by_cases h : i < (m :: r).length
    · rw [partsL_at (by simpa using h), List.getElem?_cons_succ, partsL_at h]; simp
    · rw [List.getElem?_eq_none (by rw [partsL_len]; simp at h ⊢; omega), List.getElem?_cons_succ, List.getElem?_eq_none (by rw [partsL_len]; simp at h ⊢; omega)]
set_option maxRecDepth 100000 in
theorem partsL_flat : ∀ ls : List Lab, (partsL ls).flatten = encL ls
  | [] => rfl
  | [l] => by
    show ([by4 (wordL l true)] : List (List Nat)).flatten = _
    simp [encL]
  | l :: m :: r => by
    rw [partsL_cons, List.flatten_cons, partsL_flat (m :: r)]
    rfl
set_option maxRecDepth 100000 in
theorem partsL_by (ls : List Lab) : ∀ L ∈ partsL ls, By L := by
  intro L hL
  unfold partsL at hL
  obtain ⟨i, _, rfl⟩ := List.mem_map.1 hL
  exact by4_by _
set_option maxRecDepth 100000 in
theorem info_sl : (Tryd.prog.info? 23).map (fun i => (i.zero, i.size, i.bytes)) = some (some (.slice none 0 0), 1, 24) := by kernel_rfl
/-- While the words are written: block g holds the slices of the first k. -/
structure PW (ls : List Lab) (W : World) (g k : Nat) (xs : List Value) (w : World) : Prop where
  row : Row w g 23 xs
  len : xs.length = ls.length
  done : ∀ i, i < k → ∃ h, xs[i]? = some (.slice (some ⟨h, 0, none⟩) 4 4) ∧ Row w h 5 ((by4 (wordL (ls.getD i ⟨0, 0, 0⟩) (decide (i + 1 = ls.length)))).map nv) ∧ h ≠ g
  rest : ∀ i, k ≤ i → i < ls.length → xs[i]? = some (.slice none 0 0)
  gr : W.grownBy w none
  gW : W.heap.size ≤ g
set_option maxRecDepth 100000 in
theorem PW.keep {ls : List Lab} {W w w' : World} {g k : Nat} {xs : List Value} (h : PW ls W g k xs w) (k1 : w.grownBy w' none) : PW ls W g k xs w' :=
  ⟨h.row.kept k1 (by simp), h.len, fun i hi => (by obtain ⟨b, h1, h2, h3⟩ := h.done i hi; exact ⟨b, h1, h2.kept k1 (by simp), h3⟩), h.rest, grown_trans h.gr k1, h.gW⟩
set_option maxRecDepth 100000 in
theorem PW.put {ls : List Lab} {W w : World} {g k b : Nat} {xs : List Value} (h : PW ls W g k xs w) (hk : k < ls.length) (hb : Row w b 5 ((by4 (wordL (ls.getD k ⟨0, 0, 0⟩) (decide (k + 1 = ls.length)))).map nv)) (hne : b ≠ g) :
    PW ls W g (k + 1) (xs.set k (.slice (some ⟨b, 0, none⟩) 4 4)) (w.setCell ⟨g, k, none⟩ (.slice (some ⟨b, 0, none⟩) 4 4)) := by
  have k1 : w.grownBy (w.setCell ⟨g, k, none⟩ (.slice (some ⟨b, 0, none⟩) 4 4)) (some g) := grown_setCell w ⟨g, k, none⟩ _
  have hl := h.len
  refine ⟨h.row.set k _, by rw [List.length_set, hl], fun i hi => ?_, fun i h1 h2 => ?_, grown_new h.gr k1 h.gW, h.gW⟩
  · by_cases e : i = k
    · subst e
      exact ⟨b, by rw [List.getElem?_set_self (by omega)], hb.kept k1 (by simpa using hne), hne⟩
    · obtain ⟨b2, h1, h2, h3⟩ := h.done i (by omega)
      exact ⟨b2, by rw [List.getElem?_set_ne (by omega)]; exact h1, h2.kept k1 (by simpa using h3), h3⟩
  · rw [List.getElem?_set_ne (by omega)]
    exact h.rest i (by omega) h2
set_option maxRecDepth 100000 in
theorem PW.rdb {ls : List Lab} {W w : World} {g : Nat} {xs : List Value} (h : PW ls W g ls.length xs w) : RdB w (fun _ => True) (some ⟨g, 0, none⟩) (partsL ls) := by
  intro _
  refine ⟨g, 0, rfl, fun i L hL => ?_⟩
  have hi : i < ls.length := by
    rw [← partsL_len]
    exact (List.getElem?_eq_some_iff.1 hL).1
  rw [partsL_at hi] at hL
  obtain rfl := Option.some.inj hL
  obtain ⟨b, h1, h2, h3⟩ := h.done i hi
  refine ⟨some ⟨b, 0, none⟩, 4, by rw [Nat.zero_add]; exact h.row.cell h1, ⟨some ⟨b, 0, none⟩, 4, rfl, fun _ => ⟨b, 0, rfl, trivial, fun j x hj => by rw [Nat.zero_add]; exact h2.cell hj⟩⟩, by exact nofun⟩
set_option maxRecDepth 100000 in
theorem all_not {ls : List Lab} {k : Nat} {l : Lab} (h : ls[k]? = some l) (hv : vlab l = false) : ls.all vlab = false := by
  rw [Bool.eq_false_iff]
  intro ha
  have := List.all_eq_true.1 ha l (List.mem_of_getElem? h)
  rw [hv] at this
  cases this
set_option maxRecDepth 100000 in
set_option maxHeartbeats 3200000 in
theorem sencl_any (ls : List Lab) (p : Option Addr) (c : Nat) (q : Nat → Prop) (w : World) (hR : RdL w q (.slice p ls.length c) ls) :
    Calls Tryd.prog 27 #[.slice p ls.length c] w fun e w' => ELPost ls w e w' := by
  have HR := Lib.hid hR
  clear hR
  obtain ⟨i0, hi, hz0, hz1, hz2⟩ := info_parts info_sl
  go_enter Tryd.func27, Tryd.ntmps27
  cases hn : lenL ls.length
  · have HN := Lib.hid hn
    have hd : decide (1 ≤ (ls.length : Int) ∧ (ls.length : Int) ≤ 24) = false := hn
    clear hn
    go_wp2_with (go_at_call 73; refine (swithin_any _ _ _ _).mono ?_; rw [hd]; rintro e w' ⟨rfl, rfl⟩)
    go_ret2
    exact el_err (by unfold encE; rw [HN.out]; rfl) (by decide) (grown_refl _ _)
  · have HN := Lib.hid hn
    have hd : decide (1 ≤ (ls.length : Int) ∧ (ls.length : Int) ≤ 24) = true := hn
    have hd2 := of_decide_eq_true hd
    have h24 : ls.length ≤ 24 := by omega
    have h1 : 1 ≤ ls.length := by omega
    clear hn hd2
    go_wp2_with (first
      | (go_at_call 73; refine (swithin_any _ _ _ _).mono ?_; rw [hd]; rintro e w' ⟨rfl, rfl⟩)
      | (at_make; refine wpList_make_k _ rfl _ _ 35 rfl 23 i0 _ Tryd.underlying35 hi hz0 ls.length rfl rfl (by omega) (by omega) ?_; rw [hz1, made_same _ (.slice none 0 0) (by intro i hi; have : i = 0 := by { simp [Value.cells] at hi; omega }; subst this; rfl) (by simp [Value.cells]) _, Nat.mul_one]))
    obtain ⟨k1, k2⟩ := sone_box w' (Array.replicate ls.length (.slice none 0 0)) 23
    have P0 : Hid (PW ls w' w'.heap.size 0 (List.replicate ls.length (.slice none 0 0)) (w'.alloc (.cells (Array.replicate ls.length (.slice none 0 0)) 23))) :=
      Lib.hid ⟨by unfold Row; rw [List.toArray_replicate]; exact k1, by simp, fun i hi => absurd hi (Nat.not_lt_zero _), fun i _ hi => by rw [List.getElem?_replicate, if_pos hi], k2, Nat.le_refl _⟩
    clear k1 k2 hd
    generalize w'.alloc _ = wa at *
    go_loopw [16] (fun a wr => ∃ k xs, k ≤ ls.length ∧ a = .int .i64 ((k : Nat) : Int) ∧ PW ls w' w'.heap.size k xs wr ∧ ∀ x ∈ ls.take k, vlab x = true) (fun a _ => ls.length - (intOf a).toNat)
    case atStart => exact ⟨0, _, Nat.zero_le _, rfl, P0.out, fun x hx => by simp at hx⟩
    case round =>
      obtain ⟨k, xs, hk, rfl, hP, hV⟩ := hrel
      have HP := Lib.hid hP
      have HV := Lib.hid hV
      clear hP hV P0
      by_cases hlt : k < ls.length
      · obtain ⟨-, b, off, rfl, hq, hc⟩ := (HR.out.keep HP.out.gr).cells (by omega)
        obtain ⟨c0, c1, c2⟩ := hc k hlt
        obtain ⟨l, hl⟩ : ∃ l, ls[k] = l := ⟨_, rfl⟩
        rw [hl] at c0 c1 c2
        have HL : Hid (ls[k]? = some l) := Lib.hid (by rw [← hl]; exact List.getElem?_eq_getElem hlt)
        clear hc hl
        go_wp2_with fail
        obtain ⟨k1, k2⟩ := sone_box wr #[.int .i64 l.v, .int .i64 l.c, .int .i64 l.h] 41
        refine (slab_any l _).mono ?_
        rintro e w1 ⟨rfl, hg⟩
        have HP1 := Lib.hid (HP.out.keep (grown_trans k2 hg))
        obtain ⟨d0, d1, d2⟩ := lab_facts (kept_row k1 hg (by simp))
        clear k1 k2 hg HP c0 c1 c2
        cases hv : vlab l
        · go_wp2_with fail
          go_ret2
          exact el_err (by unfold encE; rw [HN.out, all_not HL.out hv]; rfl) (by decide) HP1.out.gr
        · obtain ⟨z, hz⟩ : ∃ z, decide (k + 1 = ls.length) = z := ⟨_, rfl⟩
          have hz1 : ((k : Int) == (ls.length : Int) - 1) = z := by
            rw [← hz, Bool.eq_iff_iff, beq_iff_eq, decide_eq_true_eq]
            omega
          have HZ := Lib.hid hz
          have HVL := Lib.hid hv
          clear hz hv
          go_wp2_with fail
          refine (wlab_any l z HVL.out _).mono ?_
          rintro e w2 ⟨h, rfl, hrow, hge, hg⟩
          have hl3 : ls.getD k ⟨0, 0, 0⟩ = l := by rw [List.getD_eq_getElem?_getD, HL.out]; rfl
          have hP2 := HP1.out.keep hg
          have hne : h ≠ w'.heap.size := by have := HP1.out.row.lt; omega
          have HP3 := Lib.hid (hP2.put (b := h) hlt (by rw [hl3, HZ.out]; exact hrow) hne)
          have e0 := hP2.row.cell (hP2.rest k (Nat.le_refl _) hlt)
          have f0 := hP2.row.frozen k
          clear hrow hge hg hP2 hne hl3 HP1 d0 d1 d2
          go_wp2_with fail
          refine ⟨⟨k + 1, _, by omega, congrArg _ (by omega), HP3.out, fun x hx => ?_⟩, by simp only [intOf]; omega⟩
          rw [List.take_add_one, HL.out] at hx
          rcases List.mem_append.1 hx with hx | hx
          · exact HV.out x hx
          · obtain rfl : x = l := by simpa using hx
            exact HVL.out
      · obtain rfl : k = ls.length := by omega
        have RB := Lib.hid HP.out.rdb
        go_wp2_with fail
        refine (sjoin_any (partsL ls) (partsL_by ls) (by rw [partsL_flat, encL_len]; omega) _ _ _ (partsL_len ls).symm (by rw [partsL_len]; omega) _ _ RB.out).mono ?_
        rw [partsL_flat]
        rintro e w2 ⟨p2, c2, rfl, hO, hg⟩
        have HF := Lib.hid (And.intro hO hg)
        clear hO hg
        go_wp2_with fail
        go_ret2
        have he : encE ls = 0 := by
          unfold encE
          have := HV.out
          rw [List.take_length] at this
          rw [HN.out, List.all_eq_true.2 this]; rfl
        have hb : encB ls = encL ls := by unfold encB; rw [if_pos he]
        refine ⟨p2, c2, by rw [hb, he]; rfl, by rw [hb]; exact HF.out.1.mono HP.out.gr.size, grown_trans HP.out.gr HF.out.2⟩
end Go.Proofs.YtpombmpkccnefaaDoor

/- stack: ValidFrame. -/
namespace Go.Proofs.YtpombmpkccnefaaDoor
open Go.RowKit Bs
/-- A frame's cells. -/
def frcells (v : Value) (P : Pk) : Array Value := #[v, .int .i64 P.mode, .int .i64 P.sub, .int .i64 P.set, .int .i64 P.len, .int .i64 P.ttl, .int .i64 P.ent, .int .i64 P.ing, .int .i64 P.pro, .int .u64 (P.bits : Int), .string P.pay]
set_option maxRecDepth 100000 in
theorem fr_facts {w : World} {b : Nat} {v : Value} {P : Pk} (h : w.heap[b]? = some (.cells (frcells v P) 43 (0, 0))) :
    w.cell? ⟨b, 0, none⟩ = some v ∧ w.cell? ⟨b, 1, none⟩ = some (.int .i64 P.mode) ∧ w.cell? ⟨b, 2, none⟩ = some (.int .i64 P.sub) ∧ w.cell? ⟨b, 3, none⟩ = some (.int .i64 P.set) ∧ w.cell? ⟨b, 4, none⟩ = some (.int .i64 P.len) ∧ w.cell? ⟨b, 5, none⟩ = some (.int .i64 P.ttl) ∧ w.cell? ⟨b, 6, none⟩ = some (.int .i64 P.ent) ∧ w.cell? ⟨b, 7, none⟩ = some (.int .i64 P.ing) ∧ w.cell? ⟨b, 8, none⟩ = some (.int .i64 P.pro) ∧ w.cell? ⟨b, 9, none⟩ = some (.int .u64 (P.bits : Int)) ∧ w.cell? ⟨b, 10, none⟩ = some (.string P.pay) :=
  ⟨cell_of_row _ _ _ _ _ _ h, cell_of_row _ _ _ _ _ _ h, cell_of_row _ _ _ _ _ _ h, cell_of_row _ _ _ _ _ _ h, cell_of_row _ _ _ _ _ _ h, cell_of_row _ _ _ _ _ _ h, cell_of_row _ _ _ _ _ _ h, cell_of_row _ _ _ _ _ _ h, cell_of_row _ _ _ _ _ _ h, cell_of_row _ _ _ _ _ _ h, cell_of_row _ _ _ _ _ _ h⟩
/-- A frame as a value. -/
def fval (v : Value) (P : Pk) : Value := .agg #[v, .int .i64 P.mode, .int .i64 P.sub, .int .i64 P.set, .int .i64 P.len, .int .i64 P.ttl, .int .i64 P.ent, .int .i64 P.ing, .int .i64 P.pro, .int .u64 (P.bits : Int), .string P.pay]
set_option maxHeartbeats 3200000 in
set_option maxRecDepth 100000 in
theorem svfr_any (r : List Int) (P : Pk) (hP : P.Wf) (p : Option Addr) (c : Nat) (hc0 : r.length ≤ c) (hcm : c ≤ 9223372036854775807) (q : Nat → Prop) (w : World) (hR : Rd w q (.slice p r.length c) (r.map iv)) :
    Calls Tryd.prog 22 #[fval (.slice p r.length c) P] w fun e w' => e = .returned (.bool (vfr r P)) ∧ w.grownBy w' none := by
  unfold fval
  obtain ⟨k1, k2⟩ := sone_box w (frcells (.slice p r.length c) P) 43
  obtain ⟨c0, c1, c2, c3, c4, c5, c6, c7, c8, c9, c10⟩ := fr_facts k1
  have HR := Lib.hid (hR.keep k2)
  have K := Lib.hid k2
  have hval : P.val = .agg #[.int .i64 P.mode, .int .i64 P.sub, .int .i64 P.set, .int .i64 P.len, .int .i64 P.ttl, .int .i64 P.ent, .int .i64 P.ing, .int .i64 P.pro, .int .u64 (P.bits : Int), .string P.pay] := rfl
  have HV := Lib.hid hval
  have HC := Lib.hid (And.intro hc0 hcm)
  clear k1 k2 hR hval hc0 hcm
  unfold frcells at *
  go_enter Tryd.func22, Tryd.ntmps22
  go_upto_region 1 with fail
  generalize w.alloc _ = wa at *
  by_cases h24 : r.length ≤ 24
  · cases ha : allR r
    · go_wp2_with (go_at_call 74; refine (sallv_any r p c q _ HR.out (by have := HC.out; omega)).mono ?_; rw [ha]; rintro e w' ⟨rfl, rfl⟩)
      go_ret
      exact ⟨by unfold vfr; rw [ha]; simp, K.out⟩
    · cases hr : rep r
      · go_wp2_with (first | (go_at_call 74; refine (sallv_any r p c q _ HR.out (by have := HC.out; omega)).mono ?_; rw [ha]; rintro e w' ⟨rfl, rfl⟩) | (go_at_call 75; go_loud (refine (salld_any r p c HC.out.1 HC.out.2 q _ HR.out).mono ?_; rw [hr]; rintro e w' ⟨rfl, rfl⟩)) | (go_at_call 64; go_loud (rw [← HV.out]; refine (pvalid_any P hP _).mono ?_; rintro e w' ⟨rfl, hg⟩; have G := Lib.hid hg; clear hg)))
        go_ret
        refine ⟨?_, grown_trans K.out G.out⟩
        have : vfr r P = vpk P := by unfold vfr; rw [ha, hr, decide_eq_true h24]; simp
        rw [this]; rfl
      · go_wp2_with (first | (go_at_call 74; refine (sallv_any r p c q _ HR.out (by have := HC.out; omega)).mono ?_; rw [ha]; rintro e w' ⟨rfl, rfl⟩) | (go_at_call 75; go_loud (refine (salld_any r p c HC.out.1 HC.out.2 q _ HR.out).mono ?_; rw [hr]; rintro e w' ⟨rfl, rfl⟩)))
        go_ret
        exact ⟨by unfold vfr; rw [ha, hr]; simp, K.out⟩
  · go_wp2_with fail
    go_ret
    exact ⟨by unfold vfr; rw [decide_eq_false h24]; rfl, K.out⟩
end Go.Proofs.YtpombmpkccnefaaDoor

/- packet: Size and Plane. -/
namespace Go.Proofs.YtpombmpkccnefaaDoor
open Go.RowKit Bs
def sizeV (P : Pk) : Nat := if vpk P = true then (49 + P.len.toNat + 8 * P.pay.size + 16 + 7) / 8 else 0
def planeV (P : Pk) : Int := if vpk P = true then P.ent % 8 else 0
set_option maxRecDepth 100000 in
theorem vpk_len {P : Pk} (h : vpk P = true) : P.len = ((P.len.toNat : Nat) : Int) ∧ P.len.toNat ≤ 64 := by
  rcases vl_cases (vb_vl (vpk_parts h).2.2.2.2.2.2.2.2) with h | h | h | h <;> rw [h] <;> decide
set_option maxRecDepth 100000 in
set_option maxHeartbeats 3200000 in
theorem psize_any (P : Pk) (hP : P.Wf) (w : World) :
    Calls Tryd.prog 70 #[P.val] w fun e w' => e = .returned (.int .i64 ((sizeV P : Nat) : Int)) ∧ w.grownBy w' none := by
  have hval : P.val = .agg #[.int .i64 P.mode, .int .i64 P.sub, .int .i64 P.set, .int .i64 P.len, .int .i64 P.ttl, .int .i64 P.ent, .int .i64 P.ing, .int .i64 P.pro, .int .u64 (P.bits : Int), .string P.pay] := rfl
  rw [hval]
  go_enter Tryd.func70, Tryd.ntmps70
  go_wp2_with fail
  obtain ⟨k1, k2⟩ := one_box w (pcells P) 31
  have HP := Lib.hid (And.intro k1 k2)
  clear k1 k2
  unfold pcells at HP
  generalize w.alloc _ = wa at *
  change Hid (wa.heap[w.heap.size]? = some (.cells (pcells P) 31 (0, 0)) ∧ w.grownBy wa none) at HP
  rw [← hval]
  refine (pvalid_any P hP _).mono ?_
  rintro e w1 ⟨rfl, hg⟩
  have HQ := Lib.hid (And.intro (kept_row HP.out.1 hg (by simp)) (grown_trans HP.out.2 hg))
  clear hg HP
  by_cases hv : vpk P = true
  · have hE : Hid (sizeV P = (49 + P.len.toNat + 8 * P.pay.size + 16 + 7) / 8) := Lib.hid (by unfold sizeV; rw [if_pos hv])
    obtain ⟨hn, hn2⟩ := vpk_len hv
    have hp := (vpk_parts hv).2.2.2.2.2.2.2.1
    have HN := Lib.hid hn
    rw [hv]
    clear hv hn
    obtain ⟨_, _, _, a3, _, _, _, _, _, a9⟩ := p_facts HQ.out.1
    go_wp2_with fail
    rw [HN.out]
    refine (bytesForP_any P.len.toNat P.pay.size (by omega) (by omega) _).mono ?_
    rintro e w' ⟨rfl, rfl⟩
    rw [← hE.out]
    go_wp2_with fail
    go_ret
    exact ⟨rfl, HQ.out.2⟩
  · have hf : vpk P = false := by simpa using hv
    have hE : Hid (sizeV P = 0) := Lib.hid (by unfold sizeV; rw [if_neg hv])
    rw [hf]
    clear hf hv
    go_wp2_with fail
    go_ret
    exact ⟨by rw [hE.out]; rfl, HQ.out.2⟩
end Go.Proofs.YtpombmpkccnefaaDoor

/- stack: EncodeFrame. -/
namespace Go.Proofs.YtpombmpkccnefaaDoor
open Go.RowKit Bs
set_option maxRecDepth 100000 in
theorem rdb_row {w : World} {b : Nat} {t : TypeId} {vs : List Value} {Ls : List (List Nat)} (h : Row w b t vs) (hx : ∀ (i : Nat) (L : List Nat), Ls[i]? = some L → ∃ (p : Option Addr) (c : Nat), vs[i]? = some (Value.slice p L.length c) ∧ Rd w (fun _ => True) (.slice p L.length c) (L.map nv) ∧ (p = none → c = 0)) : RdB w (fun _ => True) (some ⟨b, 0, none⟩) Ls := by
  intro _
  refine ⟨b, 0, rfl, fun i L hL => ?_⟩
  obtain ⟨p, c, h1, h2, h3⟩ := hx i L hL
  exact ⟨p, c, by rw [Nat.zero_add]; exact h.cell h1, h2, h3⟩
set_option maxRecDepth 100000 in
theorem rdb2 {w : World} {x g : Nat} {E : List Nat} (h : Blk w g E) :
    RdB ((w.alloc (.cells #[.int .u8 (x : Int)] 5)).alloc (.cells #[.slice (some ⟨w.heap.size, 0, none⟩) 1 1, .slice (some ⟨g, 0, none⟩) E.length E.length] 23)) (fun _ => True) (some ⟨w.heap.size + 1, 0, none⟩) [[x], E] := by
  obtain ⟨k1, k2, k3, _⟩ := two_boxes w #[.int .u8 (x : Int)] #[.slice (some ⟨w.heap.size, 0, none⟩) 1 1, .slice (some ⟨g, 0, none⟩) E.length E.length] 5 23
  refine rdb_row (vs := [.slice (some ⟨w.heap.size, 0, none⟩) 1 1, .slice (some ⟨g, 0, none⟩) E.length E.length]) k2 fun i L hL => ?_
  rcases i with _ | _ | i
  · obtain rfl : [x] = L := by simpa using hL
    exact ⟨_, _, rfl, Blk.rd (l := [x]) k1 _ trivial 1, by exact nofun⟩
  · obtain rfl : E = L := by simpa using hL
    exact ⟨_, _, rfl, (h.keep k3).rd _ trivial _, by exact nofun⟩
  · simp at hL
set_option maxRecDepth 100000 in
theorem rdb3 {w : World} {x g c1 : Nat} {p1 : Option Addr} {D E : List Nat} (h1 : Rd w (fun _ => True) (.slice p1 D.length c1) (D.map nv)) (hp : p1 = none → c1 = 0) (h : Blk w g E) :
    RdB ((w.alloc (.cells #[.int .u8 (x : Int)] 5)).alloc (.cells #[.slice (some ⟨w.heap.size, 0, none⟩) 1 1, .slice p1 D.length c1, .slice (some ⟨g, 0, none⟩) E.length E.length] 23)) (fun _ => True) (some ⟨w.heap.size + 1, 0, none⟩) [[x], D, E] := by
  obtain ⟨k1, k2, k3, _⟩ := two_boxes w #[.int .u8 (x : Int)] #[.slice (some ⟨w.heap.size, 0, none⟩) 1 1, .slice p1 D.length c1, .slice (some ⟨g, 0, none⟩) E.length E.length] 5 23
  refine rdb_row (vs := [.slice (some ⟨w.heap.size, 0, none⟩) 1 1, .slice p1 D.length c1, .slice (some ⟨g, 0, none⟩) E.length E.length]) k2 fun i L hL => ?_
  rcases i with _ | _ | _ | i
  · obtain rfl : [x] = L := by simpa using hL
    exact ⟨_, _, rfl, Blk.rd (l := [x]) k1 _ trivial 1, by exact nofun⟩
  · obtain rfl : D = L := by simpa using hL
    exact ⟨_, _, rfl, h1.keep k3, hp⟩
  · obtain rfl : E = L := by simpa using hL
    exact ⟨_, _, rfl, (h.keep k3).rd _ trivial _, by exact nofun⟩
  · simp at hL
set_option maxRecDepth 100000 in
theorem by_one {x : Nat} (h : x < 256) : By [x] := fun y hy => by
  obtain rfl : y = x := by simpa using hy
  exact h
set_option maxRecDepth 100000 in
theorem by2 {x : Nat} {E : List Nat} (h : x < 256) (hE : By E) : ∀ L ∈ ([[x], E] : List (List Nat)), By L := by
  intro L hL
  rcases List.mem_cons.1 hL with rfl | hL
  · exact by_one h
  · obtain rfl : L = E := by simpa using hL
    exact hE
set_option maxRecDepth 100000 in
theorem by3 {x : Nat} {D E : List Nat} (h : x < 256) (hD : By D) (hE : By E) : ∀ L ∈ ([[x], D, E] : List (List Nat)), By L := by
  intro L hL
  rcases List.mem_cons.1 hL with rfl | hL
  · exact by_one h
  rcases List.mem_cons.1 hL with rfl | hL
  · exact hD
  · obtain rfl : L = E := by simpa using hL
    exact hE
set_option maxRecDepth 100000 in
theorem two_grown (w : World) (A Z : Array Value) (t u : TypeId) : w.grownBy ((w.alloc (.cells A t)).alloc (.cells Z u)) none := (two_boxes w A Z t u).2.2.1
set_option maxRecDepth 100000 in
theorem encF_nil {r : List Int} {P : Pk} (h : r.length = 0) : ([[0], enc P] : List (List Nat)).flatten = encF r P := by
  unfold encF
  rw [if_pos (List.eq_nil_of_length_eq_zero h)]
  simp
set_option maxRecDepth 100000 in
theorem encF_some {r : List Int} {P : Pk} (h : ¬ r.length = 0) : ([[1], encL (r.map lbR), enc P] : List (List Nat)).flatten = encF r P := by
  unfold encF
  rw [if_neg (fun e => h (by rw [e]; rfl))]
  simp
def EFPost (r : List Int) (P : Pk) (w : World) (e : Ending) (w' : World) : Prop :=
  (vfr r P = true ∧ ∃ p c, e = .returned (.tuple #[.slice p (encF r P).length c, .int .i64 0]) ∧ Own w' w.heap.size p c (encF r P) ∧ w.grownBy w' none) ∨
  (vfr r P = false ∧ e = .returned (.tuple #[.slice none 0 0, .int .i64 1]) ∧ w.grownBy w' none)
set_option maxRecDepth 100000 in
theorem vfr_parts {r : List Int} {P : Pk} (h : vfr r P = true) : r.length ≤ 24 ∧ allR r = true ∧ rep r = false ∧ vpk P = true := by
  unfold vfr at h
  simp only [Bool.and_eq_true, decide_eq_true_eq, Bool.not_eq_true'] at h
  exact ⟨h.1, h.2.1, h.2.2.1, h.2.2.2⟩
set_option maxRecDepth 100000 in
theorem enc_small {P : Pk} (h : vpk P = true) : (enc P).length ≤ 100 := by
  obtain ⟨_, hn⟩ := vpk_len h
  have hp := (vpk_parts h).2.2.2.2.2.2.2.1
  rw [enc_len]
  omega
set_option maxRecDepth 100000 in
theorem encL_route {r : List Int} (hr : allR r = true) (h1 : 1 ≤ r.length) (h24 : r.length ≤ 24) : encE (r.map lbR) = 0 ∧ encB (r.map lbR) = encL (r.map lbR) := by
  have he : encE (r.map lbR) = 0 := by
    unfold encE lenL
    rw [if_pos (by rw [List.length_map, decide_eq_true_eq]; omega), if_pos]
    rw [List.all_eq_true]
    intro x hx
    obtain ⟨z, hz, rfl⟩ := List.mem_map.1 hx
    exact lbR_v (List.all_eq_true.1 hr z hz)
  exact ⟨he, by unfold encB; rw [if_pos he]⟩
set_option maxRecDepth 100000 in
set_option maxHeartbeats 3200000 in
theorem sencf_any (r : List Int) (P : Pk) (hP : P.Wf) (p : Option Addr) (c : Nat) (hc0 : r.length ≤ c) (hcm : c ≤ 9223372036854775807) (q : Nat → Prop) (w : World) (hT : Tb w) (hR : Rd w q (.slice p r.length c) (r.map iv)) :
    Calls Tryd.prog 32 #[fval (.slice p r.length c) P] w fun e w' => EFPost r P w e w' := by
  have hfv : fval (.slice p r.length c) P = .agg #[.slice p r.length c, .int .i64 P.mode, .int .i64 P.sub, .int .i64 P.set, .int .i64 P.len, .int .i64 P.ttl, .int .i64 P.ent, .int .i64 P.ing, .int .i64 P.pro, .int .u64 (P.bits : Int), .string P.pay] := rfl
  rw [hfv]
  obtain ⟨k1, k2⟩ := sone_box w (frcells (.slice p r.length c) P) 43
  have HB := Lib.hid (And.intro k1 k2)
  obtain ⟨c0, c1, c2, c3, c4, c5, c6, c7, c8, c9, c10⟩ := fr_facts k1
  have HR := Lib.hid (hR.keep k2)
  have HTT := Lib.hid (hT.keep k2)
  have HFV := Lib.hid hfv
  have hval : P.val = .agg #[.int .i64 P.mode, .int .i64 P.sub, .int .i64 P.set, .int .i64 P.len, .int .i64 P.ttl, .int .i64 P.ent, .int .i64 P.ing, .int .i64 P.pro, .int .u64 (P.bits : Int), .string P.pay] := rfl
  have HV := Lib.hid hval
  have HC := Lib.hid (And.intro hc0 hcm)
  clear hR hT hfv hval hc0 hcm k1 k2
  go_enter Tryd.func32, Tryd.ntmps32
  go_upto_region 1 with fail
  have HB2 : Hid ((w.alloc (.cells #[.slice p r.length c, .int .i64 P.mode, .int .i64 P.sub, .int .i64 P.set, .int .i64 P.len, .int .i64 P.ttl, .int .i64 P.ent, .int .i64 P.ing, .int .i64 P.pro, .int .u64 (P.bits : Int), .string P.pay] 43)).heap[w.heap.size]? = some (.cells (frcells (.slice p r.length c) P) 43 (0, 0)) ∧ w.grownBy (w.alloc (.cells #[.slice p r.length c, .int .i64 P.mode, .int .i64 P.sub, .int .i64 P.set, .int .i64 P.len, .int .i64 P.ttl, .int .i64 P.ent, .int .i64 P.ing, .int .i64 P.pro, .int .u64 (P.bits : Int), .string P.pay] 43)) none) := HB
  clear HB
  unfold frcells at HR HTT c0 c1 c2 c3 c4 c5 c6 c7 c8 c9 c10
  generalize w.alloc _ = wa at *
  go_wp2_with fail
  rw [← HFV.out]
  refine (svfr_any r P hP p c HC.out.1 HC.out.2 q wa HR.out).mono ?_
  rintro e w1 ⟨rfl, hg⟩
  have HB1 := Lib.hid (And.intro (kept_row HB2.out.1 hg (by simp)) (grown_trans HB2.out.2 hg))
  have HR1 := Lib.hid (HR.out.keep hg)
  have HT1 := Lib.hid (HTT.out.keep hg)
  clear hg HB2 HR HTT c0 c1 c2 c3 c4 c5 c6 c7 c8 c9 c10
  cases hv : vfr r P
  · go_wp2_with fail
    go_ret2
    exact Or.inr ⟨hv, rfl, HB1.out.2⟩
  · obtain ⟨hr24, hra, hrr, hvp⟩ := vfr_parts hv
    obtain ⟨c0, c1, c2, c3, c4, c5, c6, c7, c8, c9, c10⟩ := fr_facts HB1.out.1
    have HVF := Lib.hid (And.intro hv (And.intro hra (And.intro hvp (enc_small hvp))))
    clear hv hra hrr hvp
    go_wp2_with fail
    rw [← HV.out]
    refine (pencode_any P hP w1 HT1.out).mono ?_
    intro e w2 hE
    rcases hE with ⟨-, g, rfl, hB, hge, hg⟩ | ⟨hbad, _⟩
    · have HB3 := Lib.hid (And.intro (kept_row HB1.out.1 hg (by simp)) (grown_trans HB1.out.2 hg))
      have HR3 := Lib.hid (HR1.out.keep hg)
      have HE := Lib.hid hB
      clear hg HB1 HR1 HT1 hB c0 c1 c2 c3 c4 c5 c6 c7 c8 c9 c10
      obtain ⟨c0, c1, c2, c3, c4, c5, c6, c7, c8, c9, c10⟩ := fr_facts HB3.out.1
      clear c1 c2 c3 c4 c5 c6 c7 c8 c9 c10
      by_cases hr0 : r.length = 0
      · go_wp2_with fail
        have RB := rdb2 (x := 0) HE.out
        refine (sjoin_any [[0], enc P] (by2 (by decide) (pk_by _)) (by have := HVF.out.2.2.2; simp; omega) _ 2 2 rfl (by simp) _ _ RB).mono ?_
        clear RB
        rw [encF_nil hr0]
        rintro e w3 ⟨p2, c2, rfl, hO, hg3⟩
        have HF := Lib.hid (And.intro hO (grown_trans (two_grown _ _ _ _ _) hg3))
        clear hO hg3
        go_wp2_with fail
        go_ret2
        have G2 := grown_trans HB3.out.2 HF.out.2
        exact Or.inl ⟨HVF.out.1, p2, c2, rfl, HF.out.1.mono (Nat.le_trans HB3.out.2.size (by simp; omega)), G2⟩
      · go_wp2_with fail
        refine (slabs_any r HVF.out.2.1 p c hr24 q w2 HR3.out).mono ?_
        rintro e w3 ⟨g3, rfl, hrow, hge3, hg3⟩
        have hlen : (r.map lbR).length = r.length := List.length_map _
        have hL : RdL w3 (· = g3) (.slice (some ⟨g3, 0, none⟩) (r.map lbR).length r.length) (r.map lbR) := hrow.rd _ _
        have C := sencl_any (r.map lbR) _ _ _ w3 hL
        rw [hlen] at C
        have HB4 := Lib.hid (grown_trans HB3.out.2 hg3)
        have HE4 := Lib.hid (HE.out.keep hg3)
        obtain ⟨q1, q2⟩ := encL_route HVF.out.2.1 (by omega) hr24
        have HQ := Lib.hid (And.intro q1 q2)
        clear hrow hL hg3 hlen q1 q2 HR3 c0
        go_wp2_with fail
        refine C.mono ?_
        clear C
        rintro e w4 ⟨p2, c2, rfl, hO, hg4⟩
        rw [HQ.out.1, HQ.out.2]
        rw [HQ.out.2] at hO
        obtain ⟨D, hD⟩ : ∃ D, encL (r.map lbR) = D := ⟨_, rfl⟩
        rw [hD] at hO ⊢
        have HD := Lib.hid hD
        have HF := Lib.hid (And.intro hO (And.intro (grown_trans HB4.out hg4) (HE4.out.keep hg4)))
        clear hO hg4 HE4 HB4 hD
        go_wp2_with fail
        have RB := rdb3 (x := 1) (HF.out.1.rd.mono fun _ _ => trivial) HF.out.1.pc HF.out.2.2
        refine (sjoin_any [[1], D, enc P] (by3 (by decide) HF.out.1.by_ (pk_by _)) (by have := HVF.out.2.2.2; have hl := encL_len (r.map lbR); rw [HD.out, List.length_map] at hl; simp; omega) _ 3 3 rfl (by simp) _ _ RB).mono ?_
        clear RB
        rw [← HD.out, encF_some hr0]
        rintro e w5 ⟨p3, c3, rfl, hO, hg5⟩
        have HF2 := Lib.hid (And.intro hO (grown_trans (two_grown _ _ _ _ _) hg5))
        clear hO hg5
        go_wp2_with fail
        go_ret2
        exact Or.inl ⟨HVF.out.1, p3, c3, rfl, HF2.out.1.mono (Nat.le_trans HF.out.2.1.size (by simp; omega)), grown_trans HF.out.2.1 HF2.out.2⟩
    · rw [HVF.out.2.2.1] at hbad; cases hbad
end Go.Proofs.YtpombmpkccnefaaDoor

/- stack: routeOf. -/
namespace Go.Proofs.YtpombmpkccnefaaDoor
open Go.RowKit Bs
def RTPost (ls : List Lab) (w : World) (e : Ending) (w' : World) : Prop :=
  ∃ p c, e = .returned (.tuple #[.slice p (rtV ls).1.length c, .int .i64 (rtV ls).2]) ∧ Rd w' (w.heap.size ≤ ·) (.slice p (rtV ls).1.length c) ((rtV ls).1.map iv) ∧ (rtV ls).1.length ≤ c ∧ c ≤ 9223372036854775807 ∧ (p = none → c = 0) ∧ w.grownBy w' none
set_option maxRecDepth 100000 in
theorem rt_err {ls : List Lab} {w w' : World} {x : Int} (h : rtV ls = ([], x)) (g : w.grownBy w' none) : RTPost ls w (.returned (.tuple #[.slice none 0 0, .int .i64 x])) w' := by
  refine ⟨none, 0, by rw [h]; rfl, ?_, by rw [h]; exact Nat.le_refl _, by omega, fun _ => rfl, g⟩
  rw [h]
  exact Rd.nil_ _ _ _ _
set_option maxRecDepth 100000 in
theorem keep3 {w0 w' : World} {b : Nat} {x y z : Value} (h0 : w0.cell? ⟨b, 0, none⟩ = some x) (h1 : w0.cell? ⟨b, 1, none⟩ = some y) (h2 : w0.cell? ⟨b, 2, none⟩ = some z) (g : Hid (w0.grownBy w' none)) :
    w'.cell? ⟨b, 0, none⟩ = some x ∧ w'.cell? ⟨b, 1, none⟩ = some y ∧ w'.cell? ⟨b, 2, none⟩ = some z ∧ Hid (w0.grownBy w' none) := ⟨g.out.cell h0 (by simp), g.out.cell h1 (by simp), g.out.cell h2 (by simp), g⟩
set_option maxRecDepth 100000 in
theorem grown_dn (w : World) (n : Nat) : w.grownBy (w.drewN n) none := grown_drewN w n none
set_option maxRecDepth 100000 in
theorem hid_dr (w : World) : Hid (w.grownBy w.drew none) := Lib.hid (grown_drew (grown_refl _ _))
def rtZ (ls : List Lab) (k : Nat) : List Value := (rts (ls.take k)).map iv ++ List.replicate (ls.length - k) (iv 0)
set_option maxRecDepth 100000 in
theorem rtZ_pre {ls : List Lab} {k : Nat} (h : k ≤ ls.length) : ((rts (ls.take k)).map iv).length = k := by
  unfold rts
  rw [List.length_map, List.length_map, List.length_take, Nat.min_eq_left h]
set_option maxRecDepth 100000 in
theorem rtZ_at {ls : List Lab} {k : Nat} (h : k < ls.length) : (rtZ ls k)[k]? = some (iv 0) := by
  unfold rtZ
  rw [List.getElem?_append_right (by rw [rtZ_pre (Nat.le_of_lt h)]; exact Nat.le_refl _), rtZ_pre (Nat.le_of_lt h), Nat.sub_self, List.getElem?_replicate, if_pos (by omega)]
set_option maxRecDepth 100000 in
theorem rtZ_set {ls : List Lab} {k : Nat} {l : Lab} (h : k < ls.length) (hl : ls[k]? = some l) : (rtZ ls k).set k (iv (l.v - 16)) = rtZ ls (k + 1) := by
  unfold rtZ
  have hp := rtZ_pre (Nat.le_of_lt h)
  rw [show ls.length - k = (ls.length - (k + 1)) + 1 by omega, List.replicate_succ, List.set_append_right _ _ (by rw [hp]; exact Nat.le_refl _), hp, Nat.sub_self, List.set_cons_zero, List.take_add_one, hl]
  unfold rts
  simp
set_option maxRecDepth 100000 in
theorem okL_iff (l : Lab) : okL l = true ↔ okR (l.v - 16) = true ∧ l.c = 0 ∧ l.h = 255 := by
  unfold okL okR
  rw [decide_eq_true_eq, decide_eq_true_eq]
  omega
set_option maxRecDepth 100000 in
theorem all_bad {ls : List Lab} {k : Nat} {l : Lab} (h : ls[k]? = some l) (hv : ¬ okL l = true) : rtV ls = ([], 2) := by
  have : ls.all okL = false := by
    rw [Bool.eq_false_iff]
    intro ha
    exact hv (List.all_eq_true.1 ha l (List.mem_of_getElem? h))
  unfold rtV
  rw [this]
  rfl
set_option maxRecDepth 100000 in
set_option maxHeartbeats 3200000 in
theorem srtof_any (ls : List Lab) (hv : ∀ l ∈ ls, vlab l = true) (h24 : ls.length ≤ 24) (p : Option Addr) (c : Nat) (q : Nat → Prop) (w : World) (hR : RdL w q (.slice p ls.length c) ls) :
    Calls Tryd.prog 81 #[.slice p ls.length c] w fun e w' => RTPost ls w e w' := by
  have HR := Lib.hid hR
  have HV := Lib.hid hv
  clear hR hv
  obtain ⟨i0, hi, hz0, hz1, hz2⟩ := info_parts info_int
  go_enter Tryd.func81, Tryd.ntmps81
  go_wp2_with (at_make; refine wpList_make_k _ rfl _ _ 22 rfl 3 i0 _ Tryd.underlying22 hi hz0 ls.length rfl rfl (by omega) (by omega) ?_; rw [hz1, made_same _ (iv 0) (by intro i hi; have : i = 0 := by { simp [Value.cells] at hi; omega }; subst this; rfl) (by simp [Value.cells]) _, Nat.mul_one])
  obtain ⟨k1, k2⟩ := sone_box w (Array.replicate ls.length (iv 0)) 3
  have P0 : Hid (Row (w.alloc (.cells (Array.replicate ls.length (iv 0)) 3)) w.heap.size 3 (rtZ ls 0) ∧ w.grownBy (w.alloc (.cells (Array.replicate ls.length (iv 0)) 3)) none) := by
    refine Lib.hid ⟨?_, k2⟩
    unfold Row rtZ
    rw [k1, List.take_zero, Nat.sub_zero]
    show _ = some (Obj.cells (List.replicate ls.length (iv 0)).toArray _ _)
    rw [List.toArray_replicate]
  clear k1 k2
  generalize w.alloc _ = wa at *
  go_loopw [13] (fun a wr => ∃ k : Nat, k ≤ ls.length ∧ a = .int .i64 (k : Int) ∧ Row wr w.heap.size 3 (rtZ ls k) ∧ w.grownBy wr none ∧ ∀ x ∈ ls.take k, okL x = true) (fun a _ => ls.length - (intOf a).toNat)
  case atStart => exact ⟨0, Nat.zero_le _, rfl, P0.out.1, P0.out.2, fun x hx => by simp at hx⟩
  case round =>
    obtain ⟨k, hk, rfl, hX, hG, hA⟩ := hrel
    have HX := Lib.hid (And.intro hX hG)
    have HA := Lib.hid hA
    clear hX hG P0 hA
    by_cases hlt : k < ls.length
    · obtain ⟨-, b, off, rfl, hq, hc⟩ := (HR.out.keep HX.out.2).cells (by omega)
      obtain ⟨c0, c1, c2⟩ := hc k hlt
      obtain ⟨l, hl⟩ : ∃ l, ls[k] = l := ⟨_, rfl⟩
      rw [hl] at c0 c1 c2
      have HL : Hid (ls[k]? = some l) := Lib.hid (by rw [← hl]; exact List.getElem?_eq_getElem hlt)
      have hv9 := (vlab_iff l).1 (HV.out l (List.mem_of_getElem? HL.out))
      clear hc hl
      obtain ⟨y, hy⟩ : ∃ y, l.v - 16 = y := ⟨_, rfl⟩
      have hv' : l.v = 16 + y := by omega
      obtain ⟨v0, v1⟩ : -16 ≤ y ∧ y ≤ 1048559 := by omega
      have HOK := Lib.hid (okL_iff l)
      rw [hy] at HOK
      have HY := Lib.hid hy
      rw [hv'] at c0
      obtain ⟨cc, hcc⟩ : ∃ cc, l.c = cc := ⟨_, rfl⟩
      obtain ⟨hh, hhh⟩ : ∃ hh, l.h = hh := ⟨_, rfl⟩
      rw [hcc] at c1 HOK
      rw [hhh] at c2 HOK
      clear hv' hcc hhh hy hv9
      go_upto_region 5 with fail
      obtain ⟨k1, k2⟩ := sone_box wr #[.int .i64 (16 + y), .int .i64 cc, .int .i64 hh] 41
      have HX1 := Lib.hid (And.intro (HX.out.1.kept k2 (by simp)) (grown_trans HX.out.2 k2))
      obtain ⟨d0, d1, d2⟩ := lab_facts (l := ⟨16 + y, cc, hh⟩) k1
      simp only at d0 d1 d2
      clear k1 k2 HX c0 c1 c2
      generalize wr.alloc _ = wb at *
      go_upto_region 6 with fail
      rw [show 16 + y - 16 = y by omega]
      cases hok : okR y
      · have hVR : ∀ w, Calls Tryd.prog 103 #[.int .i64 y] w fun e w' => e = .returned (.bool false) ∧ w = w' := fun w => (svr_any y w).mono (by rw [hok]; rintro e w' ⟨rfl, rfl⟩; exact ⟨rfl, rfl⟩)
        have HB := Lib.hid (all_bad HL.out (fun h => by have := (HOK.out.1 h).1; rw [hok] at this; cases this))
        clear hok
        go_quiet (first | (go_at_call 103; first | exact qt0 (hVR _) | exact qt1 (hVR _) | exact qt2 (hVR _)))
        go_wp2_with fail
        go_ret2
        exact rt_err HB.out (grown_trans HX1.out.2 (grown_dn _ _))
      · have HOKT := Lib.hid hok
        have hz9 : 1 ≤ y ∧ y ≤ 99 := by simpa [okR] using hok
        have HZ := Lib.hid hz9
        clear hok hz9
        by_cases hc0 : cc = 0
        · by_cases hh0 : hh = 255
          · subst hc0
            subst hh0
            go_region_held3 (fun w' => w'.cell? ⟨wr.heap.size, 0, none⟩ = some (.int .i64 (16 + y)) ∧ w'.cell? ⟨wr.heap.size, 1, none⟩ = some (.int .i64 0) ∧ w'.cell? ⟨wr.heap.size, 2, none⟩ = some (.int .i64 255) ∧ Hid (wb.grownBy w' none))
              (first | with_reducible exact keep3 d0 d1 d2 (hid_dr wb) | (go_split_ands; with_reducible refine keep3 d0 d1 d2 (hid_more ?_ hap); with_reducible assumption) | (go_split_ands; with_reducible refine keep3 d0 d1 d2 ?_; with_reducible assumption))
              (first | (go_at_call 103; refine (svr_any _ _).mono ?_; rw [HOKT.out]; rintro e w' ⟨rfl, rfl⟩) | (go_at_call 105; refine (slabof_any _ HZ.out _).mono ?_; rintro e w' ⟨rfl, hap⟩))
            all_goals
              have HGW := Lib.hid (And.intro (HX1.out.1.kept (grown_trans (hid_dr wb).out hap) (by simp)) (grown_trans HX1.out.2 (grown_trans (hid_dr wb).out hap)))
              go_split_ands
              clear hap
              have e0 : w'.cell? ⟨w.heap.size, k, none⟩ = some (.int .i64 0) := HGW.out.1.cell (rtZ_at hlt)
              have f0 := HGW.out.1.frozen k
              have HS : Hid (Row (w'.setCell ⟨w.heap.size, k, none⟩ (.int .i64 y)) w.heap.size 3 (rtZ ls (k + 1)) ∧ w.grownBy (w'.setCell ⟨w.heap.size, k, none⟩ (.int .i64 y)) none) := by
                refine Lib.hid ⟨?_, grown_new HGW.out.2 (grown_setCell w' ⟨w.heap.size, k, none⟩ _) (Nat.le_refl _)⟩
                rw [← rtZ_set hlt HL.out, HY.out]
                exact HGW.out.1.set _ _
              go_wp2_with fail
              refine ⟨⟨k + 1, by omega, congrArg _ (by omega), HS.out.1, HS.out.2, fun x hx => ?_⟩, by simp only [intOf]; omega⟩
              rw [List.take_add_one, HL.out] at hx
              rcases List.mem_append.1 hx with hx | hx
              · exact HA.out x hx
              · obtain rfl : x = l := by simpa using hx
                exact HOK.out.2 (by simp [HOKT.out])
          · subst hc0
            have hhb : (hh == 255) = false := by simpa using hh0
            go_region_held3 (fun w' => w'.cell? ⟨wr.heap.size, 0, none⟩ = some (.int .i64 (16 + y)) ∧ w'.cell? ⟨wr.heap.size, 1, none⟩ = some (.int .i64 0) ∧ w'.cell? ⟨wr.heap.size, 2, none⟩ = some (.int .i64 hh) ∧ Hid (wb.grownBy w' none))
              (first | with_reducible exact keep3 d0 d1 d2 (hid_dr wb) | (go_split_ands; with_reducible refine keep3 d0 d1 d2 (hid_more ?_ hap); with_reducible assumption) | (go_split_ands; with_reducible refine keep3 d0 d1 d2 ?_; with_reducible assumption))
              (first | (go_at_call 103; refine (svr_any _ _).mono ?_; rw [HOKT.out]; rintro e w' ⟨rfl, rfl⟩) | (go_at_call 105; refine (slabof_any _ HZ.out _).mono ?_; rintro e w' ⟨rfl, hap⟩))
            all_goals
              have HGW := Lib.hid (grown_trans HX1.out.2 (grown_trans (hid_dr wb).out hap))
              go_split_ands
              clear hap
              go_wp2_with fail
              go_ret2
              exact rt_err (all_bad HL.out (fun h => by have := (HOK.out.1 h).2; omega)) HGW.out
        · have hcb : (cc == 0) = false := by simpa using hc0
          go_region_held3 (fun w' => w'.cell? ⟨wr.heap.size, 0, none⟩ = some (.int .i64 (16 + y)) ∧ w'.cell? ⟨wr.heap.size, 1, none⟩ = some (.int .i64 cc) ∧ w'.cell? ⟨wr.heap.size, 2, none⟩ = some (.int .i64 hh) ∧ Hid (wb.grownBy w' none))
            (first | with_reducible exact keep3 d0 d1 d2 (hid_dr wb) | (go_split_ands; with_reducible refine keep3 d0 d1 d2 (hid_more ?_ hap); with_reducible assumption) | (go_split_ands; with_reducible refine keep3 d0 d1 d2 ?_; with_reducible assumption))
            (first | (go_at_call 103; refine (svr_any _ _).mono ?_; rw [HOKT.out]; rintro e w' ⟨rfl, rfl⟩) | (go_at_call 105; refine (slabof_any _ HZ.out _).mono ?_; rintro e w' ⟨rfl, hap⟩))
          all_goals
            have HGW := Lib.hid (grown_trans HX1.out.2 (grown_trans (hid_dr wb).out hap))
            go_split_ands
            clear hap
            go_wp2_with fail
            go_ret2
            exact rt_err (all_bad HL.out (fun h => by have := (HOK.out.1 h).2; omega)) HGW.out
    · obtain rfl : k = ls.length := by omega
      have hrow : Row wr w.heap.size 3 ((rts ls).map iv) := by
        have := HX.out.1
        unfold rtZ at this
        rw [List.take_length, Nat.sub_self] at this
        simpa using this
      have hlen : (rts ls).length = ls.length := by unfold rts; rw [List.length_map]
      have hall : ls.all okL = true := by
        rw [List.all_eq_true]
        have := HA.out
        rwa [List.take_length] at this
      have hRd : Rd wr (w.heap.size ≤ ·) (.slice (some ⟨w.heap.size, 0, none⟩) (rts ls).length (rts ls).length) ((rts ls).map iv) :=
        ⟨_, _, by rw [List.length_map], fun _ => ⟨w.heap.size, 0, rfl, Nat.le_refl _, fun i x hi => by rw [Nat.zero_add]; exact hrow.cell hi⟩⟩
      have C := salld_any (rts ls) _ _ (Nat.le_refl _) (by omega) _ wr hRd
      have hrt : rtV ls = if rep (rts ls) then ([], 5) else (rts ls, 0) := by unfold rtV; rw [if_pos hall]
      have HRT := Lib.hid hrt
      have HRD := Lib.hid hRd
      have HLN := Lib.hid hlen
      rw [hlen] at C
      clear hrow hall hRd hrt hlen
      go_wp2_with fail
      refine C.mono ?_
      clear C
      rintro e w' ⟨rfl, rfl⟩
      cases hr : rep (rts ls)
      · have e : rtV ls = (rts ls, 0) := by rw [HRT.out, if_neg (by rw [hr]; decide)]
        have HE := Lib.hid e
        clear e hr
        go_wp2_with fail
        go_ret2
        refine ⟨some ⟨w.heap.size, 0, none⟩, ls.length, ?_, ?_, ?_, by omega, by exact nofun, HX.out.2⟩
        · rw [HE.out]
          show Ending.returned (.tuple #[.slice (some ⟨w.heap.size, 0, none⟩) ls.length ls.length, .int .i64 0]) = .returned (.tuple #[.slice (some ⟨w.heap.size, 0, none⟩) (rts ls).length ls.length, .int .i64 0])
          rw [HLN.out]
        · rw [HE.out, ← HLN.out]
          exact HRD.out
        · rw [HE.out]
          exact Nat.le_of_eq HLN.out
      · have HE := Lib.hid (show rtV ls = ([], 5) by rw [HRT.out, if_pos hr])
        clear hr
        go_wp2_with fail
        go_ret2
        exact rt_err HE.out HX.out.2
end Go.Proofs.YtpombmpkccnefaaDoor

/- stack: DecodeLabels. -/
namespace Go.Proofs.YtpombmpkccnefaaDoor
open Go.RowKit Bs
/-- What DecodeLabels returns: the labels lie in memory of the call's own. -/
def DLPost (b : List Nat) (w : World) (e : Ending) (w' : World) : Prop :=
  ∃ v, e = .returned (.tuple #[v, .int .i64 ((4 * (decM b).1 : Nat) : Int), .int .i64 (decM b).2]) ∧ OwnL w' w.heap.size v (labsN b (decM b).1) ∧ w.grownBy w' none
set_option maxRecDepth 100000 in
theorem dl_err {b : List Nat} {w w' : World} {e : Int} (h : decM b = (0, e)) (g : w.grownBy w' none) : DLPost b w (.returned (.tuple #[.slice none 0 0, .int .i64 0, .int .i64 e])) w' := by
  refine ⟨.slice none 0 0, ?_, ?_, g⟩
  · rw [h]; rfl
  · rw [h]; exact World.ownsRow_nil _ _ _ _
set_option maxRecDepth 100000 in
theorem dl_step {b : List Nat} {w wr w1 : World} {k : Nat} {v v' : Value} {o : Obj} {l : Lab} (g : w.grownBy wr none) (h : OwnL wr w.heap.size v (labsN b k)) (hl : l = labN (word4 b k)) (ha : (wr.alloc o).grownBy w1 v.ownBlock)
    (hown : w1.ownsRow w.heap.size 41 3 v' ((labsN b k).length + 1) (labsC (labsN b k) ++ [.int .i64 l.v, .int .i64 l.c, .int .i64 l.h])) : OwnL w1 w.heap.size v' (labsN b (k + 1)) ∧ w.grownBy w1 none := by
  refine ⟨?_, own_step g h ha⟩
  show w1.ownsRow w.heap.size 41 3 v' (labsN b (k + 1)).length (labsC (labsN b (k + 1)))
  rw [labsN_snoc, labsC_snoc, List.length_append, ← hl]
  exact hown
set_option maxRecDepth 100000 in
set_option maxHeartbeats 3200000 in
theorem sdecl_any (L : List Nat) (hL : By L) (p : Option Addr) (c : Nat) (hc : L.length ≤ c) (hcm : c ≤ 9223372036854775807) (q : Nat → Prop) (w : World) (hR : Rd w q (.slice p L.length c) (L.map nv)) :
    Calls Tryd.prog 29 #[.slice p L.length c] w fun e w' => DLPost L w e w' := by
  obtain ⟨i0, hi, hz0, hz1, hz2⟩ := info_parts info_lab
  have HR := Lib.hid hR
  have HL := Lib.hid hL
  have HC := Lib.hid (And.intro hc hcm)
  clear hR hL hc hcm
  have HM : Hid (decM L = decGo L 24 0) := Lib.hid rfl
  go_enter Tryd.func29, Tryd.ntmps29
  go_wp2_with fail
  go_loopw [5, 6] (fun v a wr => ∃ k : Nat, k ≤ 24 ∧ a = .int .i64 ((4 * k : Nat) : Int) ∧ OwnL wr w.heap.size v (labsN L k) ∧ w.grownBy wr none ∧ decM L = decGo L (24 - k) k ∧ ∃ p2 c2, v = .slice p2 k c2) (fun _ a _ => 24 - (intOf a).toNat / 4)
  case atStart => exact ⟨0, by omega, rfl, World.ownsRow_nil _ _ _ _, grown_refl _ _, HM.out, none, 0, rfl⟩
  case round =>
    obtain ⟨k, hk, rfl, hO, hG, hM, p2, c2, rfl⟩ := hrel
    have HO := Lib.hid hO
    have HG := Lib.hid hG
    have HM2 := Lib.hid hM
    clear hO hG hM HM
    by_cases h24 : k < 24
    · by_cases hs : L.length < 4 * k + 4
      · go_wp2_with fail
        go_ret3
        exact dl_err (by rw [HM2.out, show 24 - k = (23 - k) + 1 by omega, decGo, if_pos hs]) HG.out
      · obtain ⟨b, off, rfl, hb, _⟩ := rd_cells HR.out (by omega)
        have hle : 4 * k ≤ L.length := by omega
        have hlc := HC.out.1
        have hlm := Nat.le_trans HC.out.1 HC.out.2
        go_wp2_with fail
        have C := rdlab_any (L.drop (4 * k)) (HL.out.drop _) (by rw [List.length_drop]; omega) q (some ⟨b, off + 4 * k, none⟩) (c - 4 * k) wr (rd_drop (HR.out.keep HG.out) _ _)
        rw [List.length_drop, word4_drop] at C
        refine C.mono ?_
        clear C
        rintro e w1 ⟨rfl, hg1⟩
        obtain ⟨l, hl⟩ : ∃ l, labN (word4 L k) = l := ⟨_, rfl⟩
        obtain ⟨z, hz⟩ : ∃ z, botN (word4 L k) = z := ⟨_, rfl⟩
        rw [hl, hz]
        have HO1 : Hid (OwnL w1 w.heap.size (.slice p2 k c2) (labsN L k)) := Lib.hid (HO.out.kept hg1 (by cases hv : (Value.slice p2 k c2).ownBlock <;> simp))
        have HG1 := Lib.hid (grown_trans HG.out hg1)
        have HLZ := Lib.hid (And.intro hl hz)
        clear hg1 hl hz HO HG
        go_wp2_with (at_builtin; refine wpList_append_own _ rfl _ _ 49 rfl w.heap.size 41 i0 (.agg #[.int .i64 0, .int .i64 0, .int .i64 0]) 3 24 Tryd.underlying49 hi hz0 hz1 hz2 rfl (by decide) (.slice p2 k c2) (labsN L k).length (labsC (labsN L k)) rfl ((HO1.out.alloc _).alloc _) ⟨w1.heap.size + 1, 0, none⟩ 1 1 [.int .i64 l.v, .int .i64 l.c, .int .i64 l.h] rfl rfl ?c1 ?c2 ?c3 ?c4 ?c5 ?_)
        case c1 => rw [← show (w1.alloc (.cells #[.int .i64 l.v, .int .i64 l.c, .int .i64 l.h] 41)).heap.size = w1.heap.size + 1 by simp]; exact cells3 _ _ _ _ _
        case c2 => intro u hu; simp at hu; rcases hu with rfl | rfl | rfl <;> rfl
        case c3 => rw [labsN_len]; unfold maxLen; omega
        case c4 => rw [labsN_len]; omega
        case c5 => have := HG1.out.size; simp; omega
        intro v' w2 hown2 hg2 _
        obtain ⟨O2, G2⟩ := dl_step (grown_trans HG1.out (World.grownBy_alloc w1 _ _)) (HO1.out.alloc _) HLZ.out.1.symm hg2 hown2
        have HO2 := Lib.hid O2
        have HG2 := Lib.hid G2
        have hzz := HLZ.out.2
        clear hown2 hg2 O2 G2 HO1 HG1
        have hM : decM L = if z = true then (k + 1, 0) else decGo L (23 - k) (k + 1) := by
          rw [HM2.out, show 24 - k = (23 - k) + 1 by omega, decGo, if_neg hs, hzz]
        have HM3 := Lib.hid hM
        clear hM hzz HLZ HM2
        cases z
        · go_wp2_with fail
          obtain ⟨g, cap, hv⟩ := Joins.ownsRow_form HO2.out (by rw [labsN_len]; omega)
          rw [labsN_len] at hv
          refine ⟨⟨k + 1, by omega, congrArg _ (by omega), HO2.out, HG2.out, by rw [HM3.out, if_neg (by decide), show 24 - (k + 1) = 23 - k by omega], _, _, hv⟩, ?_⟩
          simp only [intOf]
          omega
        · go_wp2_with fail
          go_ret3
          have e : decM L = (k + 1, 0) := by have := HM3.out; simpa using this
          have e2 : 4 * (k : Int) + 4 = ((4 * (k + 1) : Nat) : Int) := by omega
          refine ⟨v', ?_, ?_, HG2.out⟩
          · show Ending.returned (.tuple #[v', .int .i64 (4 * (k : Int) + 4), .int .i64 0]) = _
            rw [e2, e]
          · rw [e]
            exact HO2.out
    · have hk24 : k = 24 := by omega
      subst hk24
      go_wp2_with fail
      go_ret3
      exact dl_err (by rw [HM2.out]; rfl) HG.out
end Go.Proofs.YtpombmpkccnefaaDoor

/- Parts of the proof, packed: StLabs, StEncL, PkSize, StEncF, StEncR, PkRefs, StRep, PkRefs2. -/
import Derived.Test.YtpabfjhjehjebaaDoorSPsh9
import Derived.Test.YtpabfjhjehjebaaDoorSPsh8
import Derived.Test.YtpabfjhjehjebaaDoorSPsh6
import Derived.Test.YtpabfjhjehjebaaDoorSPsh7
/- stack: labelOf, labelsOf. -/
namespace Go.Proofs.YtpabfjhjehjebaaDoor
open Go.RowKit Bs
set_option maxRecDepth 100000 in
theorem res_lab {fn : Func} {p : Tmp} (h : fn.results = #[.cell p 55]) (tmps : Array Value) (w : World) (g : Nat) (xs : Array Value) (hp : tmps.getD p undef = .pointer (some ⟨g, 0, none⟩)) (hn : xs.size = 3) (hg : w.heap[g]? = some (.cells xs 55 (0, 0))) :
    (results fn tmps).run Tryd.prog w = .ok (.agg xs) w := by
  exact results_cell_row h tmps w g _ _ _ _ hp hg Tryd.underlying55 rfl (by rw [hn]; exact lab_size)
set_option maxRecDepth 100000 in
theorem slabof_any (z : Int) (hz : 1 ≤ z ∧ z ≤ 99) (w : World) :
    Calls Tryd.prog 55 #[.int .i64 z] w fun e w' => e = .returned (.agg #[.int .i64 (16 + z), .int .i64 0, .int .i64 255]) ∧ w.grownBy w' none := by
  obtain ⟨k1, k2⟩ := sone_box w #[.int .i64 0, .int .i64 0, .int .i64 0] 55
  have HB := Lib.hid (And.intro k1 k2)
  have f0 := frozen_of_row _ _ 0 _ _ k1
  have f1 := frozen_of_row _ _ 1 _ _ k1
  have f2 := frozen_of_row _ _ 2 _ _ k1
  obtain ⟨e0, e1, e2⟩ := lab_facts (l := ⟨0, 0, 0⟩) k1
  simp only at e0 e1 e2
  clear k1 k2
  obtain ⟨h1, h2⟩ := hz
  go_enter Tryd.func55, Tryd.ntmps55
  go_upto_region 1 with fail
  generalize w.alloc _ = wa at *
  go_wp2_with fail
  refine bodyPost_ret (res_lab rfl _ _ w.heap.size _ rfl rfl (store3 HB.out.1)) rfl ?_
  exact ⟨rfl, grown_new HB.out.2 (grown_store3 _ _ _ _ _) (Nat.le_refl _)⟩
set_option maxRecDepth 100000 in
theorem set3 {α : Type} (x y z a b c : α) (B : List α) : ∀ (A : List α) (i : Nat), A.length = i → (((A ++ x :: y :: z :: B).set i a).set (i + 1) b).set (i + 2) c = A ++ a :: b :: c :: B
  | [], i, h => by
    obtain rfl : i = 0 := h.symm
    rfl
  | d :: A, i, h => by
    rcases i with _ | i
    · simp at h
    · have := set3 x y z a b c B A i (by simpa using h)
      simp only [List.cons_append, List.set_cons_succ]
      rw [this]
def LOPost (r : List Int) (w : World) (e : Ending) (w' : World) : Prop := ∃ g, e = .returned (.slice (some ⟨g, 0, none⟩) r.length r.length) ∧ Row w' g 55 (labsC (r.map lbR)) ∧ w.heap.size ≤ g ∧ w.grownBy w' none
/-- While labels are written. -/
def labZ (r : List Int) (k : Nat) : List Value := labsC ((r.take k).map lbR) ++ List.replicate (3 * (r.length - k)) (iv 0)
set_option maxRecDepth 100000 in
theorem labZ_form {r : List Int} {k : Nat} (h : k < r.length) : labZ r k = labsC ((r.take k).map lbR) ++ iv 0 :: iv 0 :: iv 0 :: List.replicate (3 * (r.length - (k + 1))) (iv 0) := by
  unfold labZ
  rw [show 3 * (r.length - k) = 3 * (r.length - (k + 1)) + 3 by omega, List.replicate_succ, List.replicate_succ, List.replicate_succ]
set_option maxRecDepth 100000 in
theorem labZ_pre {r : List Int} {k : Nat} (h : k ≤ r.length) : (labsC ((r.take k).map lbR)).length = k * 3 := by
  rw [labsC_len, List.length_map, List.length_take, Nat.min_eq_left h, Nat.mul_comm]
set_option maxRecDepth 100000 in
theorem labZ_at {r : List Int} {k : Nat} (h : k < r.length) : (labZ r k)[k * 3]? = some (iv 0) ∧ (labZ r k)[k * 3 + 1]? = some (iv 0) ∧ (labZ r k)[k * 3 + 2]? = some (iv 0) := by
  have hl := labZ_pre (Nat.le_of_lt h)
  rw [labZ_form h]
  refine ⟨?_, ?_, ?_⟩ <;> rw [List.getElem?_append_right (by omega), hl]
  · simp
  · rw [show k * 3 + 1 - k * 3 = 1 by omega]; rfl
  · rw [show k * 3 + 2 - k * 3 = 2 by omega]; rfl
set_option maxRecDepth 100000 in
theorem labZ_set {r : List Int} {k : Nat} {z : Int} (h : k < r.length) (hz : r[k]? = some z) : (((labZ r k).set (k * 3) (iv (16 + z))).set (k * 3 + 1) (iv 0)).set (k * 3 + 2) (iv 255) = labZ r (k + 1) := by
  rw [labZ_form h, set3 _ _ _ _ _ _ _ _ _ (labZ_pre (Nat.le_of_lt h))]
  unfold labZ
  rw [List.take_add_one, hz]
  show _ = labsC (List.map lbR (r.take k ++ [z])) ++ _
  rw [List.map_append, List.map_singleton, labsC_snoc]
  simp [labC, lbR, iv]
set_option maxRecDepth 100000 in
set_option maxHeartbeats 3200000 in
theorem slabs_any (r : List Int) (hr : allR r = true) (p : Option Addr) (c : Nat) (h24 : r.length ≤ 24) (q : Nat → Prop) (w : World) (hR : Rd w q (.slice p r.length c) (r.map iv)) :
    Calls Tryd.prog 70 #[.slice p r.length c] w fun e w' => LOPost r w e w' := by
  have HR := Lib.hid hR
  have HA := Lib.hid hr
  clear hR hr
  obtain ⟨i0, hi, hz0, hz1, hz2⟩ := info_parts info_lab
  go_enter Tryd.func70, Tryd.ntmps70
  go_wp2_with (at_make; refine wpList_make_k _ rfl _ _ 53 rfl 55 i0 _ Tryd.underlying53 hi hz0 r.length rfl rfl (by omega) (by omega) ?_; rw [hz1, made_same _ (iv 0) (by intro i hi; have : i = 0 ∨ i = 1 ∨ i = 2 := by { simp [Value.cells] at hi; omega }; rcases this with rfl | rfl | rfl <;> rfl) (by simp [Value.cells]) _])
  obtain ⟨k1, k2⟩ := sone_box w (Array.replicate (r.length * 3) (iv 0)) 55
  have P0 : Hid (Row (w.alloc (.cells (Array.replicate (r.length * 3) (iv 0)) 55)) w.heap.size 55 (labZ r 0) ∧ w.grownBy (w.alloc (.cells (Array.replicate (r.length * 3) (iv 0)) 55)) none) := by
    refine Lib.hid ⟨?_, k2⟩
    unfold Row labZ
    rw [k1, List.take_zero, show 3 * (r.length - 0) = r.length * 3 by omega]
    show _ = some (Obj.cells (List.replicate (r.length * 3) (iv 0)).toArray _ _)
    rw [List.toArray_replicate]
  clear k1 k2
  generalize w.alloc _ = wa at *
  go_loopw [11] (fun a wr => ∃ k : Nat, k ≤ r.length ∧ a = .int .i64 (k : Int) ∧ Row wr w.heap.size 55 (labZ r k) ∧ w.grownBy wr none) (fun a _ => r.length - (intOf a).toNat)
  case atStart => exact ⟨0, Nat.zero_le _, rfl, P0.out.1, P0.out.2⟩
  case round =>
    obtain ⟨k, hk, rfl, hX, hG⟩ := hrel
    have HX := Lib.hid (And.intro hX hG)
    clear hX hG P0
    by_cases hlt : k < r.length
    · obtain ⟨b, off, rfl, hq, hc⟩ := rdi_cells (HR.out.keep HX.out.2) (by omega)
      have c0 := hc k hlt
      obtain ⟨z, hz⟩ : ∃ z, r.getD k 0 = z := ⟨_, rfl⟩
      rw [hz] at c0
      have hk2 : r[k]? = some z := by rw [← hz, List.getD_eq_getElem?_getD, List.getElem?_eq_getElem hlt]; rfl
      have hz9 : 1 ≤ z ∧ z ≤ 99 := by
        have := List.all_eq_true.1 HA.out z (List.mem_of_getElem? hk2)
        simpa [okR] using this
      have HK := Lib.hid hk2
      have HZ := Lib.hid hz9
      clear hc hz hk2 hz9
      go_wp2_with fail
      refine (slabof_any z HZ.out _).mono ?_
      rintro e w1 ⟨rfl, hg⟩
      have HX1 := Lib.hid (And.intro (HX.out.1.kept hg (by simp)) (grown_trans HX.out.2 hg))
      clear hg HX c0
      obtain ⟨l0, l1, l2⟩ := labZ_at hlt
      have e0 : w1.cell? ⟨w.heap.size, k * 3, none⟩ = some (.int .i64 0) := HX1.out.1.cell l0
      have e1 : w1.cell? ⟨w.heap.size, k * 3 + 1, none⟩ = some (.int .i64 0) := HX1.out.1.cell l1
      have e2 : w1.cell? ⟨w.heap.size, k * 3 + 2, none⟩ = some (.int .i64 0) := HX1.out.1.cell l2
      have f0 := HX1.out.1.frozen (k * 3)
      have f1 := HX1.out.1.frozen (k * 3 + 1)
      have f2 := HX1.out.1.frozen (k * 3 + 2)
      have HS : Hid (Row (((w1.setCell ⟨w.heap.size, k * 3, none⟩ (.int .i64 (16 + z))).setCell ⟨w.heap.size, k * 3 + 1, none⟩ (.int .i64 0)).setCell ⟨w.heap.size, k * 3 + 2, none⟩ (.int .i64 255)) w.heap.size 55 (labZ r (k + 1)) ∧
          w.grownBy (((w1.setCell ⟨w.heap.size, k * 3, none⟩ (.int .i64 (16 + z))).setCell ⟨w.heap.size, k * 3 + 1, none⟩ (.int .i64 0)).setCell ⟨w.heap.size, k * 3 + 2, none⟩ (.int .i64 255)) none) := by
        refine Lib.hid ⟨?_, grown_new HX1.out.2 (grown_trans (grown_trans (grown_setCell w1 ⟨w.heap.size, k * 3, none⟩ _) (grown_setCell _ ⟨w.heap.size, k * 3 + 1, none⟩ _)) (grown_setCell _ ⟨w.heap.size, k * 3 + 2, none⟩ _)) (Nat.le_refl _)⟩
        rw [← labZ_set hlt HK.out]
        exact ((HX1.out.1.set _ _).set _ _).set _ _
      clear l0 l1 l2
      go_wp2_with fail
      exact ⟨⟨k + 1, by omega, congrArg _ (by omega), HS.out.1, HS.out.2⟩, by simp only [intOf]; omega⟩
    · obtain rfl : k = r.length := by omega
      go_wp2_with fail
      go_ret
      refine ⟨w.heap.size, rfl, ?_, Nat.le_refl _, HX.out.2⟩
      have := HX.out.1
      unfold labZ at this
      rw [List.take_length, Nat.sub_self] at this
      simpa using this
end Go.Proofs.YtpabfjhjehjebaaDoor

/- stack: EncodeLabels. -/
namespace Go.Proofs.YtpabfjhjehjebaaDoor
open Go.RowKit Bs
def lenL (n : Nat) : Bool := decide (1 ≤ (n : Int) ∧ (n : Int) ≤ 24)
/-- The error of EncodeLabels, and its bytes. -/
def encE (ls : List Lab) : Int := if lenL ls.length then (if ls.all vlab then 0 else 2) else 3
def encB (ls : List Lab) : List Nat := if encE ls = 0 then encL ls else []
def ELPost (ls : List Lab) (w : World) (e : Ending) (w' : World) : Prop := ∃ p c, e = .returned (.tuple #[.slice p (encB ls).length c, .int .i64 (encE ls)]) ∧ Own w' w.heap.size p c (encB ls) ∧ w.grownBy w' none
set_option maxRecDepth 100000 in
theorem el_err {ls : List Lab} {w w' : World} {x : Int} (h : encE ls = x) (hx : x ≠ 0) (g : w.grownBy w' none) : ELPost ls w (.returned (.tuple #[.slice none 0 0, .int .i64 x])) w' := by
  have hb : encB ls = [] := by unfold encB; rw [if_neg (by rw [h]; exact hx)]
  refine ⟨none, 0, by rw [hb, h]; rfl, ?_, g⟩
  rw [hb]
  exact ⟨World.ownsRow_nil _ _ _ _, fun _ => rfl, fun x hx => by cases hx⟩
/-- The words of a stack. -/
def partsL (ls : List Lab) : List (List Nat) := (List.range ls.length).map fun i => by4 (wordL (ls.getD i ⟨0, 0, 0⟩) (decide (i + 1 = ls.length)))
set_option maxRecDepth 100000 in
theorem partsL_at {ls : List Lab} {i : Nat} (h : i < ls.length) : (partsL ls)[i]? = some (by4 (wordL (ls.getD i ⟨0, 0, 0⟩) (decide (i + 1 = ls.length)))) := by
  unfold partsL
  rw [List.getElem?_map, List.getElem?_range h]; rfl
set_option maxRecDepth 100000 in
theorem partsL_len (ls : List Lab) : (partsL ls).length = ls.length := by unfold partsL; simp
set_option maxRecDepth 100000 in
theorem partsL_cons (l m : Lab) (r : List Lab) : partsL (l :: m :: r) = by4 (wordL l false) :: partsL (m :: r) := by
  apply List.ext_getElem?
  intro i
  rcases i with _ | i
  · rw [partsL_at (by simp)]; simp
  · by_cases h : i < (m :: r).length
    · rw [partsL_at (by simpa using h), List.getElem?_cons_succ, partsL_at h]; simp
    · rw [List.getElem?_eq_none (by rw [partsL_len]; simp at h ⊢; omega), List.getElem?_cons_succ, List.getElem?_eq_none (by rw [partsL_len]; simp at h ⊢; omega)]
set_option maxRecDepth 100000 in
theorem partsL_flat : ∀ ls : List Lab, (partsL ls).flatten = encL ls
  | [] => rfl
  | [l] => by
    show ([by4 (wordL l true)] : List (List Nat)).flatten = _
    simp [encL]
  | l :: m :: r => by
    rw [partsL_cons, List.flatten_cons, partsL_flat (m :: r)]
    rfl
set_option maxRecDepth 100000 in
theorem partsL_by (ls : List Lab) : ∀ L ∈ partsL ls, By L := by
  intro L hL
  unfold partsL at hL
  obtain ⟨i, _, rfl⟩ := List.mem_map.1 hL
  exact by4_by _
set_option maxRecDepth 100000 in
theorem info_sl : (Tryd.prog.info? 23).map (fun i => (i.zero, i.size, i.bytes)) = some (some (.slice none 0 0), 1, 24) := by kernel_rfl
/-- While the words are written: block g holds the slices of the first k. -/
structure PW (ls : List Lab) (W : World) (g k : Nat) (xs : List Value) (w : World) : Prop where
  row : Row w g 23 xs
  len : xs.length = ls.length
  done : ∀ i, i < k → ∃ h, xs[i]? = some (.slice (some ⟨h, 0, none⟩) 4 4) ∧ Row w h 5 ((by4 (wordL (ls.getD i ⟨0, 0, 0⟩) (decide (i + 1 = ls.length)))).map nv) ∧ h ≠ g
  rest : ∀ i, k ≤ i → i < ls.length → xs[i]? = some (.slice none 0 0)
  gr : W.grownBy w none
  gW : W.heap.size ≤ g
set_option maxRecDepth 100000 in
theorem PW.keep {ls : List Lab} {W w w' : World} {g k : Nat} {xs : List Value} (h : PW ls W g k xs w) (k1 : w.grownBy w' none) : PW ls W g k xs w' :=
  ⟨h.row.kept k1 (by simp), h.len, fun i hi => (by obtain ⟨b, h1, h2, h3⟩ := h.done i hi; exact ⟨b, h1, h2.kept k1 (by simp), h3⟩), h.rest, grown_trans h.gr k1, h.gW⟩
set_option maxRecDepth 100000 in
theorem PW.put {ls : List Lab} {W w : World} {g k b : Nat} {xs : List Value} (h : PW ls W g k xs w) (hk : k < ls.length) (hb : Row w b 5 ((by4 (wordL (ls.getD k ⟨0, 0, 0⟩) (decide (k + 1 = ls.length)))).map nv)) (hne : b ≠ g) :
    PW ls W g (k + 1) (xs.set k (.slice (some ⟨b, 0, none⟩) 4 4)) (w.setCell ⟨g, k, none⟩ (.slice (some ⟨b, 0, none⟩) 4 4)) := by
  have k1 : w.grownBy (w.setCell ⟨g, k, none⟩ (.slice (some ⟨b, 0, none⟩) 4 4)) (some g) := grown_setCell w ⟨g, k, none⟩ _
  have hl := h.len
  refine ⟨h.row.set k _, by rw [List.length_set, hl], fun i hi => ?_, fun i h1 h2 => ?_, grown_new h.gr k1 h.gW, h.gW⟩
  · by_cases e : i = k
    · subst e
      exact ⟨b, by rw [List.getElem?_set_self (by omega)], hb.kept k1 (by simpa using hne), hne⟩
    · obtain ⟨b2, h1, h2, h3⟩ := h.done i (by omega)
      exact ⟨b2, by rw [List.getElem?_set_ne (by omega)]; exact h1, h2.kept k1 (by simpa using h3), h3⟩
  · rw [List.getElem?_set_ne (by omega)]
    exact h.rest i (by omega) h2
set_option maxRecDepth 100000 in
theorem PW.rdb {ls : List Lab} {W w : World} {g : Nat} {xs : List Value} (h : PW ls W g ls.length xs w) : RdB w (fun _ => True) (some ⟨g, 0, none⟩) (partsL ls) := by
  intro _
  refine ⟨g, 0, rfl, fun i L hL => ?_⟩
  have hi : i < ls.length := by
    rw [← partsL_len]
    exact (List.getElem?_eq_some_iff.1 hL).1
  rw [partsL_at hi] at hL
  obtain rfl := Option.some.inj hL
  obtain ⟨b, h1, h2, h3⟩ := h.done i hi
  refine ⟨some ⟨b, 0, none⟩, 4, by rw [Nat.zero_add]; exact h.row.cell h1, ⟨some ⟨b, 0, none⟩, 4, rfl, fun _ => ⟨b, 0, rfl, trivial, fun j x hj => by rw [Nat.zero_add]; exact h2.cell hj⟩⟩, by exact nofun⟩
set_option maxRecDepth 100000 in
theorem all_not {ls : List Lab} {k : Nat} {l : Lab} (h : ls[k]? = some l) (hv : vlab l = false) : ls.all vlab = false := by
  rw [Bool.eq_false_iff]
  intro ha
  have := List.all_eq_true.1 ha l (List.mem_of_getElem? h)
  rw [hv] at this
  cases this
set_option maxRecDepth 100000 in
set_option maxHeartbeats 3200000 in
theorem sencl_any (ls : List Lab) (p : Option Addr) (c : Nat) (q : Nat → Prop) (w : World) (hR : RdL w q (.slice p ls.length c) ls) :
    Calls Tryd.prog 35 #[.slice p ls.length c] w fun e w' => ELPost ls w e w' := by
  have HR := Lib.hid hR
  clear hR
  obtain ⟨i0, hi, hz0, hz1, hz2⟩ := info_parts info_sl
  go_enter Tryd.func35, Tryd.ntmps35
  cases hn : lenL ls.length
  · have HN := Lib.hid hn
    have hd : decide (1 ≤ (ls.length : Int) ∧ (ls.length : Int) ≤ 24) = false := hn
    clear hn
    go_wp2_with (go_at_call 65; refine (swithin_any _ _ _ _).mono ?_; rw [hd]; rintro e w' ⟨rfl, rfl⟩)
    go_ret2
    exact el_err (by unfold encE; rw [HN.out]; rfl) (by decide) (grown_refl _ _)
  · have HN := Lib.hid hn
    have hd : decide (1 ≤ (ls.length : Int) ∧ (ls.length : Int) ≤ 24) = true := hn
    have hd2 := of_decide_eq_true hd
    have h24 : ls.length ≤ 24 := by omega
    have h1 : 1 ≤ ls.length := by omega
    clear hn hd2
    go_wp2_with (first
      | (go_at_call 65; refine (swithin_any _ _ _ _).mono ?_; rw [hd]; rintro e w' ⟨rfl, rfl⟩)
      | (at_make; refine wpList_make_k _ rfl _ _ 36 rfl 23 i0 _ Tryd.underlying36 hi hz0 ls.length rfl rfl (by omega) (by omega) ?_; rw [hz1, made_same _ (.slice none 0 0) (by intro i hi; have : i = 0 := by { simp [Value.cells] at hi; omega }; subst this; rfl) (by simp [Value.cells]) _, Nat.mul_one]))
    obtain ⟨k1, k2⟩ := sone_box w' (Array.replicate ls.length (.slice none 0 0)) 23
    have P0 : Hid (PW ls w' w'.heap.size 0 (List.replicate ls.length (.slice none 0 0)) (w'.alloc (.cells (Array.replicate ls.length (.slice none 0 0)) 23))) :=
      Lib.hid ⟨by unfold Row; rw [List.toArray_replicate]; exact k1, by simp, fun i hi => absurd hi (Nat.not_lt_zero _), fun i _ hi => by rw [List.getElem?_replicate, if_pos hi], k2, Nat.le_refl _⟩
    clear k1 k2 hd
    generalize w'.alloc _ = wa at *
    go_loopw [16] (fun a wr => ∃ k xs, k ≤ ls.length ∧ a = .int .i64 ((k : Nat) : Int) ∧ PW ls w' w'.heap.size k xs wr ∧ ∀ x ∈ ls.take k, vlab x = true) (fun a _ => ls.length - (intOf a).toNat)
    case atStart => exact ⟨0, _, Nat.zero_le _, rfl, P0.out, fun x hx => by simp at hx⟩
    case round =>
      obtain ⟨k, xs, hk, rfl, hP, hV⟩ := hrel
      have HP := Lib.hid hP
      have HV := Lib.hid hV
      clear hP hV P0
      by_cases hlt : k < ls.length
      · obtain ⟨-, b, off, rfl, hq, hc⟩ := (HR.out.keep HP.out.gr).cells (by omega)
        obtain ⟨c0, c1, c2⟩ := hc k hlt
        obtain ⟨l, hl⟩ : ∃ l, ls[k] = l := ⟨_, rfl⟩
        rw [hl] at c0 c1 c2
        have HL : Hid (ls[k]? = some l) := Lib.hid (by rw [← hl]; exact List.getElem?_eq_getElem hlt)
        clear hc hl
        go_wp2_with fail
        obtain ⟨k1, k2⟩ := sone_box wr #[.int .i64 l.v, .int .i64 l.c, .int .i64 l.h] 55
        refine (slab_any l _).mono ?_
        rintro e w1 ⟨rfl, hg⟩
        have HP1 := Lib.hid (HP.out.keep (grown_trans k2 hg))
        obtain ⟨d0, d1, d2⟩ := lab_facts (kept_row k1 hg (by simp))
        clear k1 k2 hg HP c0 c1 c2
        cases hv : vlab l
        · go_wp2_with fail
          go_ret2
          exact el_err (by unfold encE; rw [HN.out, all_not HL.out hv]; rfl) (by decide) HP1.out.gr
        · obtain ⟨z, hz⟩ : ∃ z, decide (k + 1 = ls.length) = z := ⟨_, rfl⟩
          have hz1 : ((k : Int) == (ls.length : Int) - 1) = z := by
            rw [← hz, Bool.eq_iff_iff, beq_iff_eq, decide_eq_true_eq]
            omega
          have HZ := Lib.hid hz
          have HVL := Lib.hid hv
          clear hz hv
          go_wp2_with fail
          refine (wlab_any l z HVL.out _).mono ?_
          rintro e w2 ⟨h, rfl, hrow, hge, hg⟩
          have hl3 : ls.getD k ⟨0, 0, 0⟩ = l := by rw [List.getD_eq_getElem?_getD, HL.out]; rfl
          have hP2 := HP1.out.keep hg
          have hne : h ≠ w'.heap.size := by have := HP1.out.row.lt; omega
          have HP3 := Lib.hid (hP2.put (b := h) hlt (by rw [hl3, HZ.out]; exact hrow) hne)
          have e0 := hP2.row.cell (hP2.rest k (Nat.le_refl _) hlt)
          have f0 := hP2.row.frozen k
          clear hrow hge hg hP2 hne hl3 HP1 d0 d1 d2
          go_wp2_with fail
          refine ⟨⟨k + 1, _, by omega, congrArg _ (by omega), HP3.out, fun x hx => ?_⟩, by simp only [intOf]; omega⟩
          rw [List.take_add_one, HL.out] at hx
          rcases List.mem_append.1 hx with hx | hx
          · exact HV.out x hx
          · obtain rfl : x = l := by simpa using hx
            exact HVL.out
      · obtain rfl : k = ls.length := by omega
        have RB := Lib.hid HP.out.rdb
        go_wp2_with fail
        refine (sjoin_any (partsL ls) (partsL_by ls) (by rw [partsL_flat, encL_len]; omega) _ _ _ (partsL_len ls).symm (by rw [partsL_len]; omega) _ _ RB.out).mono ?_
        rw [partsL_flat]
        rintro e w2 ⟨p2, c2, rfl, hO, hg⟩
        have HF := Lib.hid (And.intro hO hg)
        clear hO hg
        go_wp2_with fail
        go_ret2
        have he : encE ls = 0 := by
          unfold encE
          have := HV.out
          rw [List.take_length] at this
          rw [HN.out, List.all_eq_true.2 this]; rfl
        have hb : encB ls = encL ls := by unfold encB; rw [if_pos he]
        refine ⟨p2, c2, by rw [hb, he]; rfl, by rw [hb]; exact HF.out.1.mono HP.out.gr.size, grown_trans HP.out.gr HF.out.2⟩
end Go.Proofs.YtpabfjhjehjebaaDoor

/- packet: Size and Plane. -/
namespace Go.Proofs.YtpabfjhjehjebaaDoor
open Go.RowKit Bs
def sizeV (P : Pk) : Nat := if vpk P = true then (49 + P.len.toNat + 8 * P.pay.size + 16 + 7) / 8 else 0
def planeV (P : Pk) : Int := if vpk P = true then P.ent % 8 else 0
set_option maxRecDepth 100000 in
theorem vpk_len {P : Pk} (h : vpk P = true) : P.len = ((P.len.toNat : Nat) : Int) ∧ P.len.toNat ≤ 64 := by
  rcases vl_cases (vb_vl (vpk_parts h).2.2.2.2.2.2.2.2) with h | h | h | h <;> rw [h] <;> decide
end Go.Proofs.YtpabfjhjehjebaaDoor

/- stack: EncodeFrame. -/
namespace Go.Proofs.YtpabfjhjehjebaaDoor
open Go.RowKit Bs
set_option maxRecDepth 100000 in
theorem rdb_row {w : World} {b : Nat} {t : TypeId} {vs : List Value} {Ls : List (List Nat)} (h : Row w b t vs) (hx : ∀ (i : Nat) (L : List Nat), Ls[i]? = some L → ∃ (p : Option Addr) (c : Nat), vs[i]? = some (Value.slice p L.length c) ∧ Rd w (fun _ => True) (.slice p L.length c) (L.map nv) ∧ (p = none → c = 0)) : RdB w (fun _ => True) (some ⟨b, 0, none⟩) Ls := by
  intro _
  refine ⟨b, 0, rfl, fun i L hL => ?_⟩
  obtain ⟨p, c, h1, h2, h3⟩ := hx i L hL
  exact ⟨p, c, by rw [Nat.zero_add]; exact h.cell h1, h2, h3⟩
set_option maxRecDepth 100000 in
theorem rdb2 {w : World} {x g : Nat} {E : List Nat} (h : Blk w g E) :
    RdB ((w.alloc (.cells #[.int .u8 (x : Int)] 5)).alloc (.cells #[.slice (some ⟨w.heap.size, 0, none⟩) 1 1, .slice (some ⟨g, 0, none⟩) E.length E.length] 23)) (fun _ => True) (some ⟨w.heap.size + 1, 0, none⟩) [[x], E] := by
  obtain ⟨k1, k2, k3, _⟩ := two_boxes w #[.int .u8 (x : Int)] #[.slice (some ⟨w.heap.size, 0, none⟩) 1 1, .slice (some ⟨g, 0, none⟩) E.length E.length] 5 23
  refine rdb_row (vs := [.slice (some ⟨w.heap.size, 0, none⟩) 1 1, .slice (some ⟨g, 0, none⟩) E.length E.length]) k2 fun i L hL => ?_
  rcases i with _ | _ | i
  · obtain rfl : [x] = L := by simpa using hL
    exact ⟨_, _, rfl, Blk.rd (l := [x]) k1 _ trivial 1, by exact nofun⟩
  · obtain rfl : E = L := by simpa using hL
    exact ⟨_, _, rfl, (h.keep k3).rd _ trivial _, by exact nofun⟩
  · simp at hL
set_option maxRecDepth 100000 in
theorem rdb3 {w : World} {x g c1 : Nat} {p1 : Option Addr} {D E : List Nat} (h1 : Rd w (fun _ => True) (.slice p1 D.length c1) (D.map nv)) (hp : p1 = none → c1 = 0) (h : Blk w g E) :
    RdB ((w.alloc (.cells #[.int .u8 (x : Int)] 5)).alloc (.cells #[.slice (some ⟨w.heap.size, 0, none⟩) 1 1, .slice p1 D.length c1, .slice (some ⟨g, 0, none⟩) E.length E.length] 23)) (fun _ => True) (some ⟨w.heap.size + 1, 0, none⟩) [[x], D, E] := by
  obtain ⟨k1, k2, k3, _⟩ := two_boxes w #[.int .u8 (x : Int)] #[.slice (some ⟨w.heap.size, 0, none⟩) 1 1, .slice p1 D.length c1, .slice (some ⟨g, 0, none⟩) E.length E.length] 5 23
  refine rdb_row (vs := [.slice (some ⟨w.heap.size, 0, none⟩) 1 1, .slice p1 D.length c1, .slice (some ⟨g, 0, none⟩) E.length E.length]) k2 fun i L hL => ?_
  rcases i with _ | _ | _ | i
  · obtain rfl : [x] = L := by simpa using hL
    exact ⟨_, _, rfl, Blk.rd (l := [x]) k1 _ trivial 1, by exact nofun⟩
  · obtain rfl : D = L := by simpa using hL
    exact ⟨_, _, rfl, h1.keep k3, hp⟩
  · obtain rfl : E = L := by simpa using hL
    exact ⟨_, _, rfl, (h.keep k3).rd _ trivial _, by exact nofun⟩
  · simp at hL
set_option maxRecDepth 100000 in
theorem by_one {x : Nat} (h : x < 256) : By [x] := fun y hy => by
  obtain rfl : y = x := by simpa using hy
  exact h
set_option maxRecDepth 100000 in
theorem by2 {x : Nat} {E : List Nat} (h : x < 256) (hE : By E) : ∀ L ∈ ([[x], E] : List (List Nat)), By L := by
  intro L hL
  rcases List.mem_cons.1 hL with rfl | hL
  · exact by_one h
  · obtain rfl : L = E := by simpa using hL
    exact hE
set_option maxRecDepth 100000 in
theorem by3 {x : Nat} {D E : List Nat} (h : x < 256) (hD : By D) (hE : By E) : ∀ L ∈ ([[x], D, E] : List (List Nat)), By L := by
  intro L hL
  rcases List.mem_cons.1 hL with rfl | hL
  · exact by_one h
  rcases List.mem_cons.1 hL with rfl | hL
  · exact hD
  · obtain rfl : L = E := by simpa using hL
    exact hE
set_option maxRecDepth 100000 in
theorem two_grown (w : World) (A Z : Array Value) (t u : TypeId) : w.grownBy ((w.alloc (.cells A t)).alloc (.cells Z u)) none := (two_boxes w A Z t u).2.2.1
set_option maxRecDepth 100000 in
theorem encF_nil {r : List Int} {P : Pk} (h : r.length = 0) : ([[0], enc P] : List (List Nat)).flatten = encF r P := by
  unfold encF
  rw [if_pos (List.eq_nil_of_length_eq_zero h)]
  simp
set_option maxRecDepth 100000 in
theorem encF_some {r : List Int} {P : Pk} (h : ¬ r.length = 0) : ([[1], encL (r.map lbR), enc P] : List (List Nat)).flatten = encF r P := by
  unfold encF
  rw [if_neg (fun e => h (by rw [e]; rfl))]
  simp
def EFPost (r : List Int) (P : Pk) (w : World) (e : Ending) (w' : World) : Prop :=
  (vfr r P = true ∧ ∃ p c, e = .returned (.tuple #[.slice p (encF r P).length c, .int .i64 0]) ∧ Own w' w.heap.size p c (encF r P) ∧ w.grownBy w' none) ∨
  (vfr r P = false ∧ e = .returned (.tuple #[.slice none 0 0, .int .i64 1]) ∧ w.grownBy w' none)
set_option maxRecDepth 100000 in
theorem vfr_parts {r : List Int} {P : Pk} (h : vfr r P = true) : r.length ≤ 24 ∧ allR r = true ∧ rep r = false ∧ vpk P = true := by
  unfold vfr at h
  simp only [Bool.and_eq_true, decide_eq_true_eq, Bool.not_eq_true'] at h
  exact ⟨h.1, h.2.1, h.2.2.1, h.2.2.2⟩
set_option maxRecDepth 100000 in
theorem enc_small {P : Pk} (h : vpk P = true) : (enc P).length ≤ 100 := by
  obtain ⟨_, hn⟩ := vpk_len h
  have hp := (vpk_parts h).2.2.2.2.2.2.2.1
  rw [enc_len]
  omega
set_option maxRecDepth 100000 in
theorem encL_route {r : List Int} (hr : allR r = true) (h1 : 1 ≤ r.length) (h24 : r.length ≤ 24) : encE (r.map lbR) = 0 ∧ encB (r.map lbR) = encL (r.map lbR) := by
  have he : encE (r.map lbR) = 0 := by
    unfold encE lenL
    rw [if_pos (by rw [List.length_map, decide_eq_true_eq]; omega), if_pos]
    rw [List.all_eq_true]
    intro x hx
    obtain ⟨z, hz, rfl⟩ := List.mem_map.1 hx
    exact lbR_v (List.all_eq_true.1 hr z hz)
  exact ⟨he, by unfold encB; rw [if_pos he]⟩
set_option maxRecDepth 100000 in
set_option maxHeartbeats 3200000 in
theorem sencf_any (r : List Int) (P : Pk) (hP : P.Wf) (p : Option Addr) (c : Nat) (hc0 : r.length ≤ c) (hcm : c ≤ 9223372036854775807) (q : Nat → Prop) (w : World) (hT : Tb w) (hR : Rd w q (.slice p r.length c) (r.map iv)) :
    Calls Tryd.prog 36 #[fval (.slice p r.length c) P] w fun e w' => EFPost r P w e w' := by
  have hfv : fval (.slice p r.length c) P = .agg #[.slice p r.length c, .int .i64 P.mode, .int .i64 P.sub, .int .i64 P.set, .int .i64 P.len, .int .i64 P.ttl, .int .i64 P.ent, .int .i64 P.ing, .int .i64 P.pro, .int .u64 (P.bits : Int), .string P.pay] := rfl
  rw [hfv]
  obtain ⟨k1, k2⟩ := sone_box w (frcells (.slice p r.length c) P) 33
  have HB := Lib.hid (And.intro k1 k2)
  obtain ⟨c0, c1, c2, c3, c4, c5, c6, c7, c8, c9, c10⟩ := fr_facts k1
  have HR := Lib.hid (hR.keep k2)
  have HTT := Lib.hid (hT.keep k2)
  have HFV := Lib.hid hfv
  have hval : P.val = .agg #[.int .i64 P.mode, .int .i64 P.sub, .int .i64 P.set, .int .i64 P.len, .int .i64 P.ttl, .int .i64 P.ent, .int .i64 P.ing, .int .i64 P.pro, .int .u64 (P.bits : Int), .string P.pay] := rfl
  have HV := Lib.hid hval
  have HC := Lib.hid (And.intro hc0 hcm)
  clear hR hT hfv hval hc0 hcm k1 k2
  go_enter Tryd.func36, Tryd.ntmps36
  go_upto_region 1 with fail
  have HB2 : Hid ((w.alloc (.cells #[.slice p r.length c, .int .i64 P.mode, .int .i64 P.sub, .int .i64 P.set, .int .i64 P.len, .int .i64 P.ttl, .int .i64 P.ent, .int .i64 P.ing, .int .i64 P.pro, .int .u64 (P.bits : Int), .string P.pay] 33)).heap[w.heap.size]? = some (.cells (frcells (.slice p r.length c) P) 33 (0, 0)) ∧ w.grownBy (w.alloc (.cells #[.slice p r.length c, .int .i64 P.mode, .int .i64 P.sub, .int .i64 P.set, .int .i64 P.len, .int .i64 P.ttl, .int .i64 P.ent, .int .i64 P.ing, .int .i64 P.pro, .int .u64 (P.bits : Int), .string P.pay] 33)) none) := HB
  clear HB
  unfold frcells at HR HTT c0 c1 c2 c3 c4 c5 c6 c7 c8 c9 c10
  generalize w.alloc _ = wa at *
  go_wp2_with fail
  rw [← HFV.out]
  refine (svfr_any r P hP p c HC.out.1 HC.out.2 q wa HR.out).mono ?_
  rintro e w1 ⟨rfl, hg⟩
  have HB1 := Lib.hid (And.intro (kept_row HB2.out.1 hg (by simp)) (grown_trans HB2.out.2 hg))
  have HR1 := Lib.hid (HR.out.keep hg)
  have HT1 := Lib.hid (HTT.out.keep hg)
  clear hg HB2 HR HTT c0 c1 c2 c3 c4 c5 c6 c7 c8 c9 c10
  cases hv : vfr r P
  · go_wp2_with fail
    go_ret2
    exact Or.inr ⟨hv, rfl, HB1.out.2⟩
  · obtain ⟨hr24, hra, hrr, hvp⟩ := vfr_parts hv
    obtain ⟨c0, c1, c2, c3, c4, c5, c6, c7, c8, c9, c10⟩ := fr_facts HB1.out.1
    have HVF := Lib.hid (And.intro hv (And.intro hra (And.intro hvp (enc_small hvp))))
    clear hv hra hrr hvp
    go_wp2_with fail
    rw [← HV.out]
    refine (pencode_any P hP w1 HT1.out).mono ?_
    intro e w2 hE
    rcases hE with ⟨-, g, rfl, hB, hge, hg⟩ | ⟨hbad, _⟩
    · have HB3 := Lib.hid (And.intro (kept_row HB1.out.1 hg (by simp)) (grown_trans HB1.out.2 hg))
      have HR3 := Lib.hid (HR1.out.keep hg)
      have HE := Lib.hid hB
      clear hg HB1 HR1 HT1 hB c0 c1 c2 c3 c4 c5 c6 c7 c8 c9 c10
      obtain ⟨c0, c1, c2, c3, c4, c5, c6, c7, c8, c9, c10⟩ := fr_facts HB3.out.1
      clear c1 c2 c3 c4 c5 c6 c7 c8 c9 c10
      by_cases hr0 : r.length = 0
      · go_wp2_with fail
        have RB := rdb2 (x := 0) HE.out
        refine (sjoin_any [[0], enc P] (by2 (by decide) (pk_by _)) (by have := HVF.out.2.2.2; simp; omega) _ 2 2 rfl (by simp) _ _ RB).mono ?_
        clear RB
        rw [encF_nil hr0]
        rintro e w3 ⟨p2, c2, rfl, hO, hg3⟩
        have HF := Lib.hid (And.intro hO (grown_trans (two_grown _ _ _ _ _) hg3))
        clear hO hg3
        go_wp2_with fail
        go_ret2
        have G2 := grown_trans HB3.out.2 HF.out.2
        exact Or.inl ⟨HVF.out.1, p2, c2, rfl, HF.out.1.mono (Nat.le_trans HB3.out.2.size (by simp; omega)), G2⟩
      · go_wp2_with fail
        refine (slabs_any r HVF.out.2.1 p c hr24 q w2 HR3.out).mono ?_
        rintro e w3 ⟨g3, rfl, hrow, hge3, hg3⟩
        have hlen : (r.map lbR).length = r.length := List.length_map _
        have hL : RdL w3 (· = g3) (.slice (some ⟨g3, 0, none⟩) (r.map lbR).length r.length) (r.map lbR) := hrow.rd _ _
        have C := sencl_any (r.map lbR) _ _ _ w3 hL
        rw [hlen] at C
        have HB4 := Lib.hid (grown_trans HB3.out.2 hg3)
        have HE4 := Lib.hid (HE.out.keep hg3)
        obtain ⟨q1, q2⟩ := encL_route HVF.out.2.1 (by omega) hr24
        have HQ := Lib.hid (And.intro q1 q2)
        clear hrow hL hg3 hlen q1 q2 HR3 c0
        go_wp2_with fail
        refine C.mono ?_
        clear C
        rintro e w4 ⟨p2, c2, rfl, hO, hg4⟩
        rw [HQ.out.1, HQ.out.2]
        rw [HQ.out.2] at hO
        obtain ⟨D, hD⟩ : ∃ D, encL (r.map lbR) = D := ⟨_, rfl⟩
        rw [hD] at hO ⊢
        have HD := Lib.hid hD
        have HF := Lib.hid (And.intro hO (And.intro (grown_trans HB4.out hg4) (HE4.out.keep hg4)))
        clear hO hg4 HE4 HB4 hD
        go_wp2_with fail
        have RB := rdb3 (x := 1) (HF.out.1.rd.mono fun _ _ => trivial) HF.out.1.pc HF.out.2.2
        refine (sjoin_any [[1], D, enc P] (by3 (by decide) HF.out.1.by_ (pk_by _)) (by have := HVF.out.2.2.2; have hl := encL_len (r.map lbR); rw [HD.out, List.length_map] at hl; simp; omega) _ 3 3 rfl (by simp) _ _ RB).mono ?_
        clear RB
        rw [← HD.out, encF_some hr0]
        rintro e w5 ⟨p3, c3, rfl, hO, hg5⟩
        have HF2 := Lib.hid (And.intro hO (grown_trans (two_grown _ _ _ _ _) hg5))
        clear hO hg5
        go_wp2_with fail
        go_ret2
        exact Or.inl ⟨HVF.out.1, p3, c3, rfl, HF2.out.1.mono (Nat.le_trans HF.out.2.1.size (by simp; omega)), grown_trans HF.out.2.1 HF2.out.2⟩
    · rw [HVF.out.2.2.1] at hbad; cases hbad
end Go.Proofs.YtpabfjhjehjebaaDoor

/- The reference's EncodeLabels. -/
namespace Go.Proofs.YtpabfjhjehjebaaDoor
open Go.RowKit Bs
set_option maxRecDepth 100000 in
theorem word_int {l : Lab} (h : vlab l = true) : l.v * 4096 + l.c * 512 + l.h = ((wordL l false : Nat) : Int) ∧ wordL l true = wordL l false + 256 ∧ wordL l true < 4294967296 := by
  have hb := (lab_back h true).1
  rw [vlab_iff] at h
  have e1 : wordL l true = l.v.toNat * 4096 + l.c.toNat * 512 + l.h.toNat + 256 := rfl
  have e0 : wordL l false = l.v.toNat * 4096 + l.c.toNat * 512 + l.h.toNat + 0 := rfl
  omega
set_option maxRecDepth 100000 in
theorem cells4 (w : World) (n : Nat) (hn : n < 4294967296) (t : TypeId) : ∀ j u, ((by4 n).map nv)[j]? = some u → (w.alloc (.cells #[.int .u8 ((n : Int) / 16777216), .int .u8 ((n : Int) / 65536 % 256), .int .u8 ((n : Int) / 256 % 256), .int .u8 ((n : Int) % 256)] t)).cell? ((⟨w.heap.size, 0, none⟩ : Addr).add j) = some u := by
  intro j u hj
  rw [show ((n : Int) / 16777216) = (n : Int) / 16777216 % 256 by omega, by4_cells]
  have hb : (w.alloc (.cells ((by4 n).map nv).toArray t)).heap[w.heap.size]? = some (.cells ((by4 n).map nv).toArray t (0, 0)) := heap_alloc_new w _
  have hadd : (⟨w.heap.size, 0, none⟩ : Addr).add j = ⟨w.heap.size, j, none⟩ := by rw [add_plain, Nat.zero_add]
  rw [hadd, cell_of_row _ _ _ _ _ _ hb]
  simpa using hj
set_option maxRecDepth 100000 in
set_option maxHeartbeats 3200000 in
theorem rencl_any (ls : List Lab) (p : Option Addr) (c : Nat) (hm : ls.length ≤ 9223372036854775807) (q : Nat → Prop) (w : World) (hR : RdL w q (.slice p ls.length c) ls) :
    Calls Tryd.prog 22 #[.slice p ls.length c] w fun e w' => ELPost ls w e w' := by
  have HR := Lib.hid hR
  clear hR
  obtain ⟨i0, hi, hz0, hz1, hz2⟩ := info_parts info_u8
  go_enter Tryd.func22, Tryd.ntmps22
  by_cases hlo : ls.length < 1
  · go_wp2_with fail
    go_ret2
    exact el_err (by unfold encE lenL; rw [if_neg (by simp; omega)]) (by decide) (grown_refl _ _)
  · by_cases hhi : 24 < ls.length
    · go_wp2_with fail
      go_ret2
      exact el_err (by unfold encE lenL; rw [if_neg (by simp; omega)]) (by decide) (grown_refl _ _)
    · have HN : Hid (lenL ls.length = true) := Lib.hid (by unfold lenL; rw [decide_eq_true_eq]; omega)
      go_wp2_with fail
      go_loopw [4, 5] (fun v a wr => ∃ k : Nat, k ≤ ls.length ∧ a = .int .i64 (k : Int) ∧ wr.ownsRow w.heap.size 5 1 v (((partsL ls).take k).flatten).length ((((partsL ls).take k).flatten).map nv) ∧ w.grownBy wr none ∧ ∀ x ∈ ls.take k, vlab x = true) (fun _ a _ => ls.length - (intOf a).toNat)
      case atStart => exact ⟨0, Nat.zero_le _, rfl, World.ownsRow_nil _ _ _ _, grown_refl _ _, fun x hx => by simp at hx⟩
      case round =>
        obtain ⟨k, hk, rfl, hO, hG, hV⟩ := hrel
        have HG := Lib.hid hG
        have HV := Lib.hid hV
        by_cases hlt : k < ls.length
        · obtain ⟨F, hF⟩ : ∃ F, ((partsL ls).take k).flatten = F := ⟨_, rfl⟩
          rw [hF] at hO
          have HO := Lib.hid hO
          have HFF := Lib.hid hF
          obtain ⟨-, b, off, rfl, hq, hc⟩ := (HR.out.keep HG.out).cells (by omega)
          obtain ⟨c0, c1, c2⟩ := hc k hlt
          obtain ⟨l, hl⟩ : ∃ l, ls[k] = l := ⟨_, rfl⟩
          rw [hl] at c0 c1 c2
          have HL : Hid (ls[k]? = some l) := Lib.hid (by rw [← hl]; exact List.getElem?_eq_getElem hlt)
          clear hc hl hO hG hV hF
          go_wp2_with fail
          refine (rlab_any l _).mono ?_
          rintro e w1 ⟨rfl, hg⟩
          have HG1 := Lib.hid (grown_trans HG.out hg)
          have HO1 : Hid (w1.ownsRow w.heap.size 5 1 u4 F.length (F.map nv)) := Lib.hid (HO.out.kept hg (by cases hv : u4.ownBlock <;> simp))
          have d0 := hg.cell c0 (by simp)
          have d1 := hg.cell c1 (by simp)
          have d2 := hg.cell c2 (by simp)
          clear hg c0 c1 c2 HG HO
          cases hv : vlab l
          · go_wp2_with fail
            go_ret2
            exact el_err (by unfold encE; rw [HN.out, all_not HL.out hv]; rfl) (by decide) HG1.out
          · have HVL := Lib.hid hv
            obtain ⟨⟨v0, v1⟩, ⟨v2, v3⟩, v4, v5⟩ := (vlab_iff l).1 hv
            obtain ⟨w0, w1', w2'⟩ := word_int hv
            have HW := Lib.hid (And.intro w0 (And.intro w1' w2'))
            clear hv w0 w1' w2'
            go_wp2_with fail
            go_region
            rw [HW.out.1]
            have HO2 : Hid (w1.drew.ownsRow w.heap.size 5 1 u4 F.length (F.map nv)) := Lib.hid HO1.out.drew
            have HG2 := hid_drew HG1
            have HFL : Hid (F.length ≤ 96) := by
              refine Lib.hid ?_
              have := flat_le (Ls := partsL ls) (k := k)
              rw [HFF.out, partsL_flat, encL_len] at this
              omega
            have hgd : ls.getD k ⟨0, 0, 0⟩ = l := by rw [List.getD_eq_getElem?_getD, HL.out]; rfl
            have hpk := partsL_at hlt
            rw [hgd] at hpk
            have hfn := flat_next hpk
            rw [HFF.out] at hfn
            have HFN := Lib.hid hfn
            clear HO1 HG1 d0 d1 d2 v0 v1 v2 v3 v4 v5 hgd hpk hfn
            generalize w1.drew = w2 at *
            by_cases hz : k + 1 = ls.length
            · have hzz : ((k : Int) == (ls.length : Int) - 1) = true := by rw [beq_iff_eq]; omega
              obtain ⟨n0, hn0⟩ : ∃ n0, wordL l false = n0 := ⟨_, rfl⟩
              have hb32 : n0 < 4294967296 := by have := HW.out.2; omega
              obtain ⟨n, hn⟩ : ∃ n, wordL l true = n := ⟨_, rfl⟩
              have hnn : ((n0 : Nat) : Int) + 256 = ((n : Nat) : Int) := by have := HW.out.2.1; omega
              have hn32 : n < 4294967296 := by have := HW.out.2.2; omega
              have HP : Hid (((partsL ls).take (k + 1)).flatten = F ++ by4 n) := Lib.hid (by rw [HFN.out, decide_eq_true hz, hn])
              rw [hn0]
              clear hn0 hn
              go_upto_region 12 with fail
              try rw [hnn]
              go_wp2_with (at_builtin; refine wpList_append_own _ rfl _ _ 23 rfl w.heap.size 5 i0 (.int .u8 0) 1 1 Tryd.underlying23 hi hz0 hz1 hz2 rfl (by decide) _ _ _ rfl (HO2.out.alloc _) ⟨w2.heap.size, 0, none⟩ 4 4 ((by4 n).map nv) rfl (by rw [List.length_map, by4_len]) ?c1 ?c2 ?c3 ?c4 ?c5 ?_)
              case c1 => exact cells4 _ n hn32 _
              case c2 => exact nv_one
              case c3 => have := HFL.out; unfold maxLen; omega
              case c4 => have := HFL.out; omega
              case c5 => have := HG2.out.size; simp; omega
              intro v' w3 hown hg _
              have HO3 : Hid (w3.ownsRow w.heap.size 5 1 v' (((partsL ls).take (k + 1)).flatten).length ((((partsL ls).take (k + 1)).flatten).map nv)) := Lib.hid (by rw [HP.out, List.length_append, List.map_append, by4_len]; exact hown)
              have HG3 := Lib.hid (own_step HG2.out HO2.out hg)
              clear hown hg HO2 HG2
              go_wp2_with fail
              refine ⟨⟨k + 1, by omega, by go_num, HO3.out, HG3.out, fun x hx => ?_⟩, by simp [intOf]; omega⟩
              rw [List.take_add_one, HL.out] at hx
              rcases List.mem_append.1 hx with hx | hx
              · exact HV.out x hx
              · obtain rfl : x = l := by simpa using hx
                exact HVL.out
            · have hzz : ((k : Int) == (ls.length : Int) - 1) = false := by
                rw [Bool.eq_false_iff, Ne, beq_iff_eq]
                omega
              obtain ⟨n, hn⟩ : ∃ n, wordL l false = n := ⟨_, rfl⟩
              have hn32 : n < 4294967296 := by have := HW.out.2; omega
              have HP : Hid (((partsL ls).take (k + 1)).flatten = F ++ by4 n) := Lib.hid (by rw [HFN.out, decide_eq_false hz, hn])
              rw [hn]
              clear hn
              go_wp2_with (at_builtin; refine wpList_append_own _ rfl _ _ 23 rfl w.heap.size 5 i0 (.int .u8 0) 1 1 Tryd.underlying23 hi hz0 hz1 hz2 rfl (by decide) _ _ _ rfl (HO2.out.alloc _) ⟨w2.heap.size, 0, none⟩ 4 4 ((by4 n).map nv) rfl (by rw [List.length_map, by4_len]) ?c1 ?c2 ?c3 ?c4 ?c5 ?_)
              case c1 => exact cells4 _ n hn32 _
              case c2 => exact nv_one
              case c3 => have := HFL.out; unfold maxLen; omega
              case c4 => have := HFL.out; omega
              case c5 => have := HG2.out.size; simp; omega
              intro v' w3 hown hg _
              have HO3 : Hid (w3.ownsRow w.heap.size 5 1 v' (((partsL ls).take (k + 1)).flatten).length ((((partsL ls).take (k + 1)).flatten).map nv)) := Lib.hid (by rw [HP.out, List.length_append, List.map_append, by4_len]; exact hown)
              have HG3 := Lib.hid (own_step HG2.out HO2.out hg)
              clear hown hg HO2 HG2
              go_wp2_with fail
              refine ⟨⟨k + 1, by omega, by go_num, HO3.out, HG3.out, fun x hx => ?_⟩, by simp [intOf]; omega⟩
              rw [List.take_add_one, HL.out] at hx
              rcases List.mem_append.1 hx with hx | hx
              · exact HV.out x hx
              · obtain rfl : x = l := by simpa using hx
                exact HVL.out
        · obtain rfl : k = ls.length := by omega
          have e : (partsL ls).take ls.length = partsL ls := by rw [← partsL_len ls, List.take_length]
          rw [e, partsL_flat] at hO
          obtain ⟨p2, c2, rfl, hpc⟩ := own_parts hO
          have HO := Lib.hid hO
          have he : encE ls = 0 := by
            unfold encE
            have := HV.out
            rw [List.take_length] at this
            rw [HN.out, List.all_eq_true.2 this]; rfl
          have hb : encB ls = encL ls := by unfold encB; rw [if_pos he]
          have HE := Lib.hid (And.intro he hb)
          clear hO hG hV e he hb
          go_wp2_with fail
          go_ret2
          refine ⟨p2, c2, by rw [HE.out.2, HE.out.1]; rfl, by rw [HE.out.2]; exact ⟨HO.out, hpc, encL_by ls⟩, HG.out⟩
end Go.Proofs.YtpabfjhjehjebaaDoor

/- packet: the reference's Valid, Size, Plane. -/
namespace Go.Proofs.YtpabfjhjehjebaaDoor
open Go.RowKit Bs
def ins (n m : Int) : Bool := decide (0 ≤ n ∧ n ≤ m)
set_option maxRecDepth 100000 in
theorem inside_any (n m : Int) (w : World) :
    Calls Tryd.prog 74 #[.int .i64 n, .int .i64 m] w fun e w' => e = .returned (.bool (ins n m)) ∧ w = w' := by
  by_cases h : 0 ≤ n
  · by_cases h2 : n ≤ m
    · have hi : Hid (ins n m = true) := Lib.hid (decide_eq_true ⟨h, h2⟩)
      go_enter Tryd.func74, Tryd.ntmps74
      go_wp2
      all_goals (go_ret; exact ⟨by rw [hi.out]; first | rfl | (simp; omega), rfl⟩)
    · have hi : Hid (ins n m = false) := Lib.hid (decide_eq_false (by omega))
      go_enter Tryd.func74, Tryd.ntmps74
      go_wp2
      all_goals (go_ret; exact ⟨by rw [hi.out]; first | rfl | (simp; omega), rfl⟩)
  · have hi : Hid (ins n m = false) := Lib.hid (decide_eq_false (by omega))
    go_enter Tryd.func74, Tryd.ntmps74
    go_wp2
    all_goals (go_ret; exact ⟨by rw [hi.out]; first | rfl | (simp; omega), rfl⟩)
set_option maxRecDepth 100000 in
theorem vpk_iff (P : Pk) : vpk P = (decide (1 ≤ P.mode) && (decide (P.mode ≤ 3) && (ins P.sub 7 && (ins P.set 31 && (vb P.bits P.len && (ins P.ttl 63 && (ins P.ent 1023 && (ins P.ing 256 && (ins P.pro 7 && decide (P.pay.size ≤ 64)))))))))) := by
  unfold vpk ins
  rw [Bool.eq_iff_iff]
  simp only [decide_eq_true_eq, Bool.and_eq_true]
  constructor
  · rintro ⟨⟨h1, h2⟩, h3, h4, h5, h6, h7, h8, h9, h10⟩
    exact ⟨h1, h2, h3, h4, h10, h5, h6, h7, h8, h9⟩
  · rintro ⟨h1, h2, h3, h4, h10, h5, h6, h7, h8, h9⟩
    exact ⟨⟨h1, h2⟩, h3, h4, h5, h6, h7, h8, h9, h10⟩
set_option maxRecDepth 100000 in
set_option maxHeartbeats 3200000 in
theorem rvalid_any (P : Pk) (hP : P.Wf) (w : World) :
    Calls Tryd.prog 43 #[P.val] w fun e w' => e = .returned (.bool (vpk P)) ∧ w.grownBy w' none := by
  have hval : P.val = .agg #[.int .i64 P.mode, .int .i64 P.sub, .int .i64 P.set, .int .i64 P.len, .int .i64 P.ttl, .int .i64 P.ent, .int .i64 P.ing, .int .i64 P.pro, .int .u64 (P.bits : Int), .string P.pay] := rfl
  rw [hval]
  go_enter Tryd.func43, Tryd.ntmps43
  obtain ⟨k1, k2⟩ := one_box w (pcells P) 31
  have HA := Lib.hid (And.intro k1 k2)
  unfold pcells at HA
  clear k1 k2
  by_cases hs : P.pay.size ≤ 64
  · have hsi : ((P.pay.size : Nat) : Int) ≤ 64 := by omega
    go_wp2_with (first
      | (go_at_call 74; refine (inside_any _ _ _).mono ?_; rintro e w' ⟨rfl, rfl⟩)
      | (go_at_call 75; refine (bvalidr_any P.bits P.len hP.bits _).mono ?_; rintro e w' ⟨rfl, rfl⟩))
    all_goals
      go_ret
      refine ⟨?_, HA.out.2⟩
      first
        | (rw [show vpk P = false by (rw [vpk_iff]; first | (simp [*]; done) | (rw [decide_eq_false (show ¬ 1 ≤ P.mode by omega)]; rfl) | (rw [decide_eq_false (show ¬ P.mode ≤ 3 by omega), Bool.false_and, Bool.and_false]))]; rfl)
        | (rw [show vpk P = true by rw [vpk_iff]; simp [*]]; rfl)
  · have hsi : ¬ ((P.pay.size : Nat) : Int) ≤ 64 := by omega
    go_wp2_with (first
      | (go_at_call 74; refine (inside_any _ _ _).mono ?_; rintro e w' ⟨rfl, rfl⟩)
      | (go_at_call 75; refine (bvalidr_any P.bits P.len hP.bits _).mono ?_; rintro e w' ⟨rfl, rfl⟩))
    all_goals
      go_ret
      refine ⟨?_, HA.out.2⟩
      first
        | (rw [show vpk P = false by (rw [vpk_iff]; first | (simp [*]; done) | (rw [decide_eq_false (show ¬ 1 ≤ P.mode by omega)]; rfl) | (rw [decide_eq_false (show ¬ P.mode ≤ 3 by omega), Bool.false_and, Bool.and_false]))]; rfl)
        | (rw [show vpk P = false by (rw [vpk_iff]; simp [*]), decide_eq_false (show ¬ ((P.pay.size : Nat) : Int) ≤ 64 by omega)]; rfl)
set_option maxRecDepth 100000 in
theorem rsz_any (n m : Nat) (hn : n ≤ 10000) (hm : m ≤ 1000) (w : World) :
    Calls Tryd.prog 63 #[.int .i64 (n : Int), .int .i64 (m : Int)] w fun e w' => e = .returned (.int .i64 (((49 + n + 8 * m + 16 + 7) / 8 : Nat) : Int)) ∧ w = w' := by
  go_enter Tryd.func63, Tryd.ntmps63
  go_wp2
  all_goals (go_ret; exact ⟨by go_num, rfl⟩)
end Go.Proofs.YtpabfjhjehjebaaDoor

/- The reference's Repeats and ValidFrame. -/
namespace Go.Proofs.YtpabfjhjehjebaaDoor
open Go.RowKit Bs
set_option maxRecDepth 100000 in
set_option maxHeartbeats 3200000 in
theorem rrep_any (r : List Int) (p : Option Addr) (c : Nat) (q : Nat → Prop) (w : World) (hR : Rd w q (.slice p r.length c) (r.map iv)) (hm : r.length ≤ 9223372036854775807) :
    Calls Tryd.prog 32 #[.slice p r.length c] w fun e w' => e = .returned (.bool (rep r)) ∧ w.grownBy w' none := by
  have HR := Lib.hid hR
  clear hR
  go_enter Tryd.func32, Tryd.ntmps32
  go_wp2_with fail
  go_loopw [3] (fun a wr => ∃ k : Nat, k ≤ r.length ∧ a = .int .i64 (k : Int) ∧ Hid (w.grownBy wr none) ∧ Hid (∀ j, j < k → (r.take j).contains (r.getD j 0) = false)) (fun a _ => r.length - (intOf a).toNat)
  case atStart => exact ⟨0, Nat.zero_le _, rfl, Lib.hid (grown_refl _ _), Lib.hid fun j hj => absurd hj (Nat.not_lt_zero _)⟩
  case round =>
    obtain ⟨k, hk, rfl, hG, hN⟩ := hrel
    by_cases hlt : k < r.length
    · obtain ⟨y, hy⟩ : ∃ y, r.getD k 0 = y := ⟨_, rfl⟩
      have HY := Lib.hid hy
      clear hy
      go_wp2_with fail
      go_loopw [4] (fun a wi => ∃ m : Nat, m ≤ k ∧ a = .int .i64 (m : Int) ∧ Hid (w.grownBy wi none) ∧ Hid (∀ j, j < m → r.getD j 0 ≠ y)) (fun a _ => k - (intOf a).toNat)
      case atStart => exact ⟨0, Nat.zero_le _, rfl, hG, Lib.hid fun j hj => absurd hj (Nat.not_lt_zero _)⟩
      case round =>
        obtain ⟨m, hmk, rfl, hG2, hN2⟩ := hrel
        by_cases hm2 : m < k
        · obtain ⟨b, off, rfl, _, hc⟩ := rdi_cells (HR.out.keep hG2.out) (by omega)
          have c0 := hc k hlt
          have c1 := hc m (by omega)
          rw [HY.out] at c0
          obtain ⟨z, hz⟩ : ∃ z, r.getD m 0 = z := ⟨_, rfl⟩
          rw [hz] at c1
          have HZ := Lib.hid hz
          have hml : m < r.length := by omega
          clear hc hz
          by_cases e : y = z
          · subst e
            go_wp2_with fail
            go_region
            change Exit.then _ _ _ _ wr.drew
            have HG3 := Lib.hid (grown_drew hG2.out)
            clear c0 c1 hG2 hG
            generalize wr.drew = w2 at *
            go_wp2_with fail
            go_ret
            rw [rep_hit hlt HY.out (by
              rw [List.contains_iff_mem]
              have h3 := HZ.out
              rw [List.getD_eq_getElem?_getD, List.getElem?_eq_getElem hml] at h3
              rw [← show r[m] = y from h3]
              exact List.mem_of_getElem? (i := m) (by rw [List.getElem?_take, if_pos hm2, List.getElem?_eq_getElem hml]))]
            exact ⟨rfl, HG3.out⟩
          · have eb : (y == z) = false := by simpa using e
            go_wp2_with fail
            go_region
            change Exit.then _ _ _ _ wr.drew
            have HG3 := Lib.hid (grown_drew hG2.out)
            clear c0 c1 hG2 hG
            generalize wr.drew = w2 at *
            go_wp2_with fail
            refine ⟨⟨m + 1, by omega, by go_num, HG3, Lib.hid fun j hj => ?_⟩, by simp [intOf]; omega⟩
            by_cases h2 : j = m
            · subst h2
              rw [HZ.out]
              exact fun h => e h.symm
            · exact hN2.out j (by omega)
        · obtain rfl : m = k := by omega
          go_wp2_with fail
          refine ⟨⟨m + 1, by omega, by go_num, hG2, Lib.hid fun j hj => ?_⟩, by simp [intOf]; omega⟩
          by_cases h2 : j = m
          · subst h2
            rw [HY.out, Bool.eq_false_iff]
            intro hcn
            rw [List.contains_iff_mem] at hcn
            obtain ⟨i, hi, he⟩ := List.getElem_of_mem hcn
            rw [List.length_take] at hi
            refine hN2.out i (by omega) ?_
            rw [List.getD_eq_getElem?_getD, List.getElem?_eq_getElem (by omega)]
            rw [List.getElem_take] at he
            exact he
          · exact hN.out j (by omega)
    · obtain rfl : k = r.length := by omega
      go_wp2_with fail
      go_ret
      rw [rep_miss hN.out]
      exact ⟨rfl, hG.out⟩
set_option maxRecDepth 100000 in
set_option maxHeartbeats 3200000 in
theorem rvfr_any (r : List Int) (P : Pk) (hP : P.Wf) (p : Option Addr) (c : Nat) (hm : r.length ≤ 9223372036854775807) (q : Nat → Prop) (w : World) (hR : Rd w q (.slice p r.length c) (r.map iv)) :
    Calls Tryd.prog 20 #[fval (.slice p r.length c) P] w fun e w' => e = .returned (.bool (vfr r P)) ∧ w.grownBy w' none := by
  unfold fval
  obtain ⟨k1, k2⟩ := sone_box w (frcells (.slice p r.length c) P) 33
  have HK : Hid ((w.alloc (.cells (frcells (.slice p r.length c) P) 33)).heap[w.heap.size]? = some (.cells (frcells (.slice p r.length c) P) 33 (0, 0)) ∧ w.grownBy (w.alloc (.cells (frcells (.slice p r.length c) P) 33)) none) := Lib.hid ⟨k1, k2⟩
  obtain ⟨c0, c1, c2, c3, c4, c5, c6, c7, c8, c9, c10⟩ := fr_facts k1
  have HR := Lib.hid (hR.keep k2)
  have hval : P.val = .agg #[.int .i64 P.mode, .int .i64 P.sub, .int .i64 P.set, .int .i64 P.len, .int .i64 P.ttl, .int .i64 P.ent, .int .i64 P.ing, .int .i64 P.pro, .int .u64 (P.bits : Int), .string P.pay] := rfl
  have HV := Lib.hid hval
  clear k1 k2 hR hval
  have HF := Lib.hid (show frcells (.slice p r.length c) P = #[.slice p r.length c, .int .i64 P.mode, .int .i64 P.sub, .int .i64 P.set, .int .i64 P.len, .int .i64 P.ttl, .int .i64 P.ent, .int .i64 P.ing, .int .i64 P.pro, .int .u64 (P.bits : Int), .string P.pay] from rfl)
  rw [HF.out] at HK HR c0 c1 c2 c3 c4 c5 c6 c7 c8 c9 c10
  go_enter Tryd.func20, Tryd.ntmps20
  go_upto_region 1 with fail
  generalize w.alloc _ = wa at *
  by_cases h24 : r.length ≤ 24
  · cases hr : rep r
    · go_wp2_with (go_at_call 32; refine (rrep_any r p c q wa HR.out hm).mono ?_; rw [hr]; rintro e w1 ⟨rfl, hg⟩; have HG1 := Lib.hid hg; clear hg)
      have HK1 := Lib.hid (And.intro (kept_row HK.out.1 HG1.out (by simp)) (grown_trans HK.out.2 HG1.out))
      have HR1 := Lib.hid (HR.out.keep HG1.out)
      clear c0 c1 c2 c3 c4 c5 c6 c7 c8 c9 c10 HR HK HG1
      rw [← HF.out] at HK1
      obtain ⟨c0, c1, c2, c3, c4, c5, c6, c7, c8, c9, c10⟩ := fr_facts HK1.out.1
      go_loopw [3] (fun a wr => ∃ k : Nat, k ≤ r.length ∧ a = .int .i64 (k : Int) ∧ wr = w1 ∧ Hid (∀ j, j < k → okR (r.getD j 0) = true)) (fun a _ => r.length - (intOf a).toNat)
      case atStart => exact ⟨0, Nat.zero_le _, rfl, rfl, Lib.hid fun j hj => absurd hj (Nat.not_lt_zero _)⟩
      case round =>
        obtain ⟨k, hk, rfl, rfl, hN⟩ := hrel
        by_cases hlt : k < r.length
        · obtain ⟨b, off, rfl, _, hc⟩ := rdi_cells HR1.out (by omega)
          have d0 := hc k hlt
          obtain ⟨y, hy⟩ : ∃ y, r.getD k 0 = y := ⟨_, rfl⟩
          rw [hy] at d0
          have HY := Lib.hid hy
          clear hc hy
          have hbad : okR y = false → vfr r P = false := by
            intro h
            have : allR r = false := by
              rw [Bool.eq_false_iff]
              intro ha
              have h3 := HY.out
              rw [List.getD_eq_getElem?_getD, List.getElem?_eq_getElem hlt] at h3
              have := List.all_eq_true.1 ha _ (List.getElem_mem hlt)
              rw [show r[k] = y from h3, h] at this
              cases this
            unfold vfr
            rw [this]; simp
          have HBAD := Lib.hid hbad
          clear hbad
          by_cases h1 : y < 1
          · go_wp2_with fail
            go_ret
            rw [HBAD.out (by unfold okR; rw [decide_eq_false_iff_not]; omega)]
            exact ⟨rfl, HK1.out.2⟩
          · by_cases h2 : 99 < y
            · go_wp2_with fail
              go_ret
              rw [HBAD.out (by unfold okR; rw [decide_eq_false_iff_not]; omega)]
              exact ⟨rfl, HK1.out.2⟩
            · go_wp2_with fail
              refine ⟨⟨k + 1, by omega, by go_num, by trivial, Lib.hid fun j hj => ?_⟩, by simp [intOf]; omega⟩
              by_cases h3 : j = k
              · subst h3
                rw [HY.out]
                unfold okR
                rw [decide_eq_true_eq]; omega
              · exact hN.out j (by omega)
        · obtain rfl : k = r.length := by omega
          have ha : allR r = true := by
            refine List.all_eq_true.2 fun x hx => ?_
            obtain ⟨i, hi, he⟩ := List.getElem_of_mem hx
            have := hN.out i hi
            rw [List.getD_eq_getElem?_getD, List.getElem?_eq_getElem hi] at this
            rw [← he]; exact this
          have HA : Hid (vfr r P = vpk P) := Lib.hid (by unfold vfr; rw [ha, hr, decide_eq_true h24]; simp)
          clear ha hN
          go_wp2_with fail
          rw [← HV.out]
          refine (rvalid_any P hP _).mono ?_
          rintro e w2 ⟨rfl, hg⟩
          have HG2 := Lib.hid hg
          clear hg
          go_wp2_with fail
          go_ret
          rw [HA.out]
          exact ⟨rfl, grown_trans HK1.out.2 HG2.out⟩
    · go_wp2_with (go_at_call 32; refine (rrep_any r p c q wa HR.out hm).mono ?_; rw [hr]; rintro e w1 ⟨rfl, hg⟩; have HG1 := Lib.hid hg; clear hg)
      go_ret
      have : vfr r P = false := by unfold vfr; rw [hr]; simp
      rw [this]
      exact ⟨rfl, grown_trans HK.out.2 HG1.out⟩
  · go_wp2_with fail
    go_ret
    have : vfr r P = false := by unfold vfr; rw [decide_eq_false h24]; rfl
    rw [this]
    exact ⟨rfl, HK.out.2⟩
end Go.Proofs.YtpabfjhjehjebaaDoor

/- packet: the reference's Size and Plane. -/
namespace Go.Proofs.YtpabfjhjehjebaaDoor
open Go.RowKit Bs
end Go.Proofs.YtpabfjhjehjebaaDoor

/- Parts of the proof, packed: DbM, DbCln, DbIns, DbVM. -/
import Derived.Test.YtnpkihioklpnmaaMg6
import Derived.Test.YtnpkihioklpnmaaMg10
import Derived.Test.YtnpkihioklpnmaaMg3
import Derived.Lib.SliceRun
import Derived.Lib.Overlaps
import Derived.Test.YtnpkihioklpnmaaMg4
/- Databases: rows of adverts; when a database is valid. -/
namespace Go.Proofs.Ytnpkihioklpnmaa
open Go.RowKit Bs
def adL (A : Ad) : List Value := [.int .i64 A.r, .int .i64 A.q, .bool A.cp, .slice A.pL A.L.length A.cL, .slice A.pC A.C.length A.cC]
set_option maxRecDepth 100000 in
theorem adL_len (A : Ad) : (adL A).length = 5 := rfl
set_option maxRecDepth 100000 in
theorem ad_one (x : Ad) : ∀ u ∈ adL x, u.oneCell' = true := by
  intro u hu
  simp [adL] at hu
  rcases hu with rfl | rfl | rfl | rfl | rfl <;> rfl
/-- Adverts in a row, which can be read with their lists. -/
structure RdA (w : World) (q : Nat → Prop) (v : Value) (l : List Ad) : Prop where
  row : RdF w q v l.length (l.flatMap adL)
  ok : ∀ A ∈ l, AdOk w q A
  nl : ∀ A ∈ l, AdNl A
set_option maxRecDepth 100000 in
theorem RdA.grown {w w' : World} {q : Nat → Prop} {v : Value} {l : List Ad} {r : Option Nat} (h : RdA w q v l) (g : w.grownBy w' r) (hq : ∀ b, q b → some b ≠ r) : RdA w' q v l := ⟨h.row.grown g hq, fun A hA => (h.ok A hA).grown g hq, h.nl⟩
set_option maxRecDepth 100000 in
theorem RdA.keep {w w' : World} {q : Nat → Prop} {v : Value} {l : List Ad} (h : RdA w q v l) (g : w.grownBy w' none) : RdA w' q v l := h.grown g (fun _ _ => by simp)
set_option maxRecDepth 100000 in
theorem RdA.mono {w : World} {q q' : Nat → Prop} {v : Value} {l : List Ad} (h : RdA w q v l) (hq : ∀ b, q b → q' b) : RdA w q' v l := ⟨h.row.mono hq, fun A hA => (h.ok A hA).mono hq, h.nl⟩
set_option maxRecDepth 100000 in
theorem RdA.old {w : World} {q : Nat → Prop} {v : Value} {l : List Ad} (h : RdA w q v l) : RdA w (· < w.heap.size) v l := ⟨rdfA_old h.row, fun A hA => (h.ok A hA).old, h.nl⟩
set_option maxRecDepth 100000 in
/-- The cells of adverts, whatever world has grown out of this one. -/
theorem rda_cells {w : World} {q : Nat → Prop} {p : Option Addr} {n c : Nat} {l : List Ad} (h : RdA w q (.slice p n c) l) (hn : 0 < l.length) :
    n = l.length ∧ ∃ b off, p = some ⟨b, off, none⟩ ∧ q b ∧ ∀ i x, l[i]? = some x → w.cell? ⟨b, off + i * 5, none⟩ = some (.int .i64 x.r) ∧ w.cell? ⟨b, off + i * 5 + 1, none⟩ = some (.int .i64 x.q) ∧ w.cell? ⟨b, off + i * 5 + 2, none⟩ = some (.bool x.cp) ∧ w.cell? ⟨b, off + i * 5 + 3, none⟩ = some (.slice x.pL x.L.length x.cL) ∧ w.cell? ⟨b, off + i * 5 + 4, none⟩ = some (.slice x.pC x.C.length x.cC) := by
  obtain ⟨h0, b, off, hp, hq, hc⟩ := RdF.cells (f := adL) (k := 5) adL_len (by decide) h.row hn
  exact ⟨h0, b, off, hp, hq, fun i x hi => ⟨hc i x hi 0 _ rfl, hc i x hi 1 _ rfl, hc i x hi 2 _ rfl, hc i x hi 3 _ rfl, hc i x hi 4 _ rfl⟩⟩
set_option maxRecDepth 100000 in
theorem rda_at {w : World} {q : Nat → Prop} {b off n c k : Nat} {l : List Ad} {x : Ad} (h : RdA w q (.slice (some ⟨b, off, none⟩) n c) l) (hx : l[k]? = some x) :
    w.cell? ⟨b, off + k * 5, none⟩ = some (.int .i64 x.r) ∧ w.cell? ⟨b, off + k * 5 + 1, none⟩ = some (.int .i64 x.q) ∧ w.cell? ⟨b, off + k * 5 + 2, none⟩ = some (.bool x.cp) ∧ w.cell? ⟨b, off + k * 5 + 3, none⟩ = some (.slice x.pL x.L.length x.cL) ∧ w.cell? ⟨b, off + k * 5 + 4, none⟩ = some (.slice x.pC x.C.length x.cC) := by
  obtain ⟨-, b', o', e, -, hc⟩ := rda_cells h (by have := (List.getElem?_eq_some_iff.1 hx).1; omega)
  injection e with e
  injection e with e1 e2
  subst e1
  subst e2
  exact hc k x hx
set_option maxRecDepth 100000 in
theorem rda_nil (w : World) (q : Nat → Prop) : RdA w q (.slice none 0 0) [] := ⟨⟨none, 0, rfl, fun h => absurd rfl h⟩, (fun _ h => by cases h), fun _ h => by cases h⟩
/-- Are the routers ascending, behind one? -/
def ascD : Int → List Ad → Bool
  | _, [] => true
  | last, A :: t => decide (last < A.r) && ascD A.r t
def notV (A : Ad) : Bool := !vAd A
/-- What Check returns. -/
def chkD (l : List Ad) : Int := if 99 < l.length then 3 else if l.any notV then 1 else if ascD 0 l = false then 25 else 0
def okD (l : List Ad) : Bool := chkD l == 0
def lastD (l : List Ad) (k : Nat) : Int := match (l.take k).getLast? with
  | some x => x.r
  | none => 0
set_option maxRecDepth 100000 in
theorem lastD_succ {l : List Ad} {k : Nat} {x : Ad} (h : l[k]? = some x) : lastD l (k + 1) = x.r := by
  unfold lastD
  rw [List.take_add_one, h]
  simp
set_option maxRecDepth 100000 in
theorem lastD_zero (l : List Ad) : lastD l 0 = 0 := by unfold lastD; simp
set_option maxRecDepth 100000 in
theorem dropA_at {l : List Ad} {k : Nat} {x : Ad} (h : l[k]? = some x) : l.drop k = x :: l.drop (k + 1) := by
  obtain ⟨hk, he⟩ := List.getElem?_eq_some_iff.1 h
  rw [← he, ← List.drop_eq_getElem_cons hk]
set_option maxRecDepth 100000 in
theorem ascD_step {l : List Ad} {k : Nat} {x : Ad} (hx : l[k]? = some x) : ascD (lastD l k) (l.drop k) = (decide (lastD l k < x.r) && ascD (lastD l (k + 1)) (l.drop (k + 1))) := by
  rw [dropA_at hx, ascD, lastD_succ hx]
/-- What a valid database meets. -/
structure OkD (l : List Ad) : Prop where
  len : l.length ≤ 99
  v : ∀ A ∈ l, vAd A = true
  asc : ascD 0 l = true
set_option maxRecDepth 100000 in
theorem chk_OkD {l : List Ad} (h : chkD l = 0) : OkD l := by
  unfold chkD at h
  by_cases h1 : 99 < l.length
  · rw [if_pos h1] at h; cases h
  rw [if_neg h1] at h
  cases h2 : l.any notV with
  | true => rw [h2] at h; cases h
  | false =>
    rw [h2, if_neg (by decide)] at h
    cases h3 : ascD 0 l with
    | false => rw [h3, if_pos rfl] at h; cases h
    | true =>
      refine ⟨by omega, fun A hA => ?_, h3⟩
      have := List.any_eq_false.1 h2 A hA
      unfold notV at this
      simpa using this
set_option maxRecDepth 100000 in
theorem asc_pair : ∀ (l : List Ad) (last : Int), ascD last l = true → (∀ A ∈ l, last < A.r) ∧ l.Pairwise (fun A B => A.r < B.r)
  | [], _, _ => ⟨(fun _ h => by cases h), List.Pairwise.nil⟩
  | A :: t, last, h => by
    rw [ascD, Bool.and_eq_true] at h
    have h1 := of_decide_eq_true h.1
    obtain ⟨h2, h3⟩ := asc_pair t A.r h.2
    refine ⟨fun B hB => ?_, List.pairwise_cons.2 ⟨h2, h3⟩⟩
    rcases List.mem_cons.1 hB with rfl | hB
    · exact h1
    · have := h2 B hB; omega
set_option maxRecDepth 100000 in
theorem OkD.pair {l : List Ad} (h : OkD l) : l.Pairwise (fun A B => A.r < B.r) := (asc_pair l 0 h.asc).2
end Go.Proofs.Ytnpkihioklpnmaa

/- slices.Clone of links, of claims and of adverts. -/
namespace Go.Proofs.Ytnpkihioklpnmaa
open Go.RowKit Bs
set_option maxRecDepth 100000 in
theorem info_ad5 : (Try.prog.info? 38).map (fun i => (i.zero, i.size, i.bytes)) = some (some (.agg #[.int .i64 0, .int .i64 0, .bool false, .slice none 0 0, .slice none 0 0]), 5, 72) := by kernel_rfl
set_option maxRecDepth 100000 in
set_option maxHeartbeats 1600000 in
theorem dclR_any (C : List T3) (p : Option Addr) (c : Nat) (q : Nat → Prop) (w : World) (hR : RdF w q (.slice p C.length c) C.length (C.flatMap t3C)) (hn : p = none → c = 0) (hc : C.length ≤ c ∧ c ≤ 9223372036854775807) (hm : C.length ≤ 1000) :
    Calls Try.prog 85 #[.slice p C.length c] w fun e w' => ∃ v, e = .returned v ∧ w'.ownsRow w.heap.size 73 3 v C.length (C.flatMap t3C) ∧ w.grownBy w' none := by
  obtain ⟨ii, hii, hi0, hi1, hi2⟩ := info_parts info_re
  cases p with
  | none =>
    obtain rfl := hn rfl
    have h0 : C.length = 0 := by omega
    obtain rfl := List.eq_nil_of_length_eq_zero h0
    clear hR
    have heq : ∀ w : World, (binOp .eql 35 (.slice none 0 0) (.slice none 0 0)).run Try.prog w = .ok (.bool true) w := fun w => Lib.run_eql_slice_nil w _ _ none 0 0 0 0 Try.underlying35
    go_enter Try.func85, Try.ntmps85
    go_wp2_with fail
    go_ret
    exact ⟨_, rfl, World.ownsRow_nil _ _ _ _, grown_refl _ _⟩
  | some ad =>
    have k0 := World.grownBy_alloc w (.cells #[] 73) none
    have hlit : (w.alloc (.cells #[] 73)).ownsRow w.heap.size 73 3 (.slice (some ⟨w.heap.size, 0, none⟩) 0 0) 0 (([] : List T3).flatMap t3C) := World.ownsRow_lit w #[] 0 (Nat.le_refl _) (by decide) rfl
    have HL := Lib.hid (And.intro hlit (And.intro k0 (hR.grown k0 (fun _ _ => by simp))))
    clear hlit k0 hR
    have heq : ∀ w : World, (binOp .eql 35 (.slice (some ad) C.length c) (.slice none 0 0)).run Try.prog w = .ok (.bool false) w := fun w => Lib.run_eql_slice_nil w _ _ (some ad) C.length c 0 0 Try.underlying35
    go_enter Try.func85, Try.ntmps85
    go_wp2_with (at_builtin; refine hold_on ?_)
    refine Lib.hid ?_
    refine wpList_append_f t3C 3 24 (by decide) (fun _ => rfl) t3_one 73 35 ii _ Try.underlying35 hii hi0 hi1 hi2 rfl (by decide) rfl _ _ rfl w.heap.size _ [] 0 rfl rfl HL.out.1 _ _ _ C rfl rfl (fun h => by cases h) q HL.out.2.2 hc.1 (by omega) (by simp) ?_
    intro v' w1 hown hg
    rw [List.nil_append] at hown
    have HO := Lib.hid (And.intro hown (old_grow HL.out.2.1 HL.out.1 (Nat.le_refl _) hg))
    clear hown hg
    go_wp2_with fail
    go_ret
    exact ⟨v', rfl, HO.out.1, HO.out.2⟩
set_option maxRecDepth 100000 in
set_option maxHeartbeats 1600000 in
theorem dclC_any (C : List T3) (p : Option Addr) (c : Nat) (q : Nat → Prop) (w : World) (hR : RdF w q (.slice p C.length c) C.length (C.flatMap t3C)) (hn : p = none → c = 0) (hc : C.length ≤ c ∧ c ≤ 9223372036854775807) (hm : C.length ≤ 1000) :
    Calls Try.prog 86 #[.slice p C.length c] w fun e w' => ∃ v, e = .returned v ∧ w'.ownsRow w.heap.size 62 3 v C.length (C.flatMap t3C) ∧ w.grownBy w' none := by
  obtain ⟨ii, hii, hi0, hi1, hi2⟩ := info_parts info_cm
  cases p with
  | none =>
    obtain rfl := hn rfl
    have h0 : C.length = 0 := by omega
    obtain rfl := List.eq_nil_of_length_eq_zero h0
    clear hR
    have heq : ∀ w : World, (binOp .eql 36 (.slice none 0 0) (.slice none 0 0)).run Try.prog w = .ok (.bool true) w := fun w => Lib.run_eql_slice_nil w _ _ none 0 0 0 0 Try.underlying36
    go_enter Try.func86, Try.ntmps86
    go_wp2_with fail
    go_ret
    exact ⟨_, rfl, World.ownsRow_nil _ _ _ _, grown_refl _ _⟩
  | some ad =>
    have k0 := World.grownBy_alloc w (.cells #[] 62) none
    have hlit : (w.alloc (.cells #[] 62)).ownsRow w.heap.size 62 3 (.slice (some ⟨w.heap.size, 0, none⟩) 0 0) 0 (([] : List T3).flatMap t3C) := World.ownsRow_lit w #[] 0 (Nat.le_refl _) (by decide) rfl
    have HL := Lib.hid (And.intro hlit (And.intro k0 (hR.grown k0 (fun _ _ => by simp))))
    clear hlit k0 hR
    have heq : ∀ w : World, (binOp .eql 36 (.slice (some ad) C.length c) (.slice none 0 0)).run Try.prog w = .ok (.bool false) w := fun w => Lib.run_eql_slice_nil w _ _ (some ad) C.length c 0 0 Try.underlying36
    go_enter Try.func86, Try.ntmps86
    go_wp2_with (at_builtin; refine hold_on ?_)
    refine Lib.hid ?_
    refine wpList_append_f t3C 3 24 (by decide) (fun _ => rfl) t3_one 62 36 ii _ Try.underlying36 hii hi0 hi1 hi2 rfl (by decide) rfl _ _ rfl w.heap.size _ [] 0 rfl rfl HL.out.1 _ _ _ C rfl rfl (fun h => by cases h) q HL.out.2.2 hc.1 (by omega) (by simp) ?_
    intro v' w1 hown hg
    rw [List.nil_append] at hown
    have HO := Lib.hid (And.intro hown (old_grow HL.out.2.1 HL.out.1 (Nat.le_refl _) hg))
    clear hown hg
    go_wp2_with fail
    go_ret
    exact ⟨v', rfl, HO.out.1, HO.out.2⟩
set_option maxRecDepth 100000 in
set_option maxHeartbeats 1600000 in
theorem dclA_any (C : List Ad) (p : Option Addr) (c : Nat) (q : Nat → Prop) (w : World) (hR : RdF w q (.slice p C.length c) C.length (C.flatMap adL)) (hn : p = none → c = 0) (hc : C.length ≤ c ∧ c ≤ 9223372036854775807) (hm : C.length ≤ 1000) :
    Calls Try.prog 87 #[.slice p C.length c] w fun e w' => ∃ v, e = .returned v ∧ w'.ownsRow w.heap.size 38 5 v C.length (C.flatMap adL) ∧ w.grownBy w' none := by
  obtain ⟨ii, hii, hi0, hi1, hi2⟩ := info_parts info_ad5
  cases p with
  | none =>
    obtain rfl := hn rfl
    have h0 : C.length = 0 := by omega
    obtain rfl := List.eq_nil_of_length_eq_zero h0
    clear hR
    have heq : ∀ w : World, (binOp .eql 23 (.slice none 0 0) (.slice none 0 0)).run Try.prog w = .ok (.bool true) w := fun w => Lib.run_eql_slice_nil w _ _ none 0 0 0 0 Try.underlying23
    go_enter Try.func87, Try.ntmps87
    go_wp2_with fail
    go_ret
    exact ⟨_, rfl, World.ownsRow_nil _ _ _ _, grown_refl _ _⟩
  | some ad =>
    have k0 := World.grownBy_alloc w (.cells #[] 38) none
    have hlit : (w.alloc (.cells #[] 38)).ownsRow w.heap.size 38 5 (.slice (some ⟨w.heap.size, 0, none⟩) 0 0) 0 (([] : List Ad).flatMap adL) := World.ownsRow_lit w #[] 0 (Nat.le_refl _) (by decide) rfl
    have HL := Lib.hid (And.intro hlit (And.intro k0 (hR.grown k0 (fun _ _ => by simp))))
    clear hlit k0 hR
    have heq : ∀ w : World, (binOp .eql 23 (.slice (some ad) C.length c) (.slice none 0 0)).run Try.prog w = .ok (.bool false) w := fun w => Lib.run_eql_slice_nil w _ _ (some ad) C.length c 0 0 Try.underlying23
    go_enter Try.func87, Try.ntmps87
    go_wp2_with (at_builtin; refine hold_on ?_)
    refine Lib.hid ?_
    refine wpList_append_f adL 5 72 (by decide) (fun _ => rfl) ad_one 38 23 ii _ Try.underlying23 hii hi0 hi1 hi2 rfl (by decide) rfl _ _ rfl w.heap.size _ [] 0 rfl rfl HL.out.1 _ _ _ C rfl rfl (fun h => by cases h) q HL.out.2.2 hc.1 (by omega) (by simp) ?_
    intro v' w1 hown hg
    rw [List.nil_append] at hown
    have HO := Lib.hid (And.intro hown (old_grow HL.out.2.1 HL.out.1 (Nat.le_refl _) hg))
    clear hown hg
    go_wp2_with fail
    go_ret
    exact ⟨v', rfl, HO.out.1, HO.out.2⟩
end Go.Proofs.Ytnpkihioklpnmaa

/- slices.Insert of one advert. -/
namespace Go.Proofs.Ytnpkihioklpnmaa
open Go.RowKit Bs
set_option maxRecDepth 100000 in
theorem alist_eq {xs ys : List Value} (hl : xs.length = ys.length) (h : ∀ j, j < xs.length → xs[j]? = ys[j]?) : xs = ys := by
  apply List.ext_getElem?
  intro j
  by_cases hj : j < xs.length
  · exact h j hj
  · rw [List.getElem?_eq_none (by omega), List.getElem?_eq_none (by omega)]
set_option maxRecDepth 100000 in
theorem ains_get {xs x5 : List Value} {N i : Nat} (hx : xs.length = N * 5) (h5 : x5.length = 5) (hi : i ≤ N) (A : List Value) (hl : A.length = (N + 1) * 5) (ha : ∀ j, j < (N + 1) * 5 → A[j]? = if j < i * 5 then xs[j]? else if j < (i + 1) * 5 then x5[j - i * 5]? else xs[j - 5]?) : A = xs.take (i * 5) ++ x5 ++ xs.drop (i * 5) := by
  refine alist_eq ?_ (fun j hj => ?_)
  · rw [List.length_append, List.length_append, List.length_take, List.length_drop, hl, hx, h5]; omega
  · rw [hl] at hj
    have ht : (xs.take (i * 5)).length = i * 5 := by rw [List.length_take, hx]; omega
    rw [ha j hj]
    by_cases h1 : j < i * 5
    · rw [if_pos h1, List.append_assoc, List.getElem?_append_left (by omega), List.getElem?_take_of_lt h1]
    · rw [if_neg h1]
      by_cases h2 : j < (i + 1) * 5
      · rw [if_pos h2, List.append_assoc, List.getElem?_append_right (by omega), ht, List.getElem?_append_left (by omega)]
      · rw [if_neg h2, List.getElem?_append_right (by rw [List.length_append, ht, h5]; omega), List.length_append, ht, h5, List.getElem?_drop]
        congr 1
        omega
section
variable {Z xs x5 : List Value} {N i : Nat} (hx : xs.length = N * 5) (h5 : x5.length = 5) (hz : Z.length = (N + 1) * 5) (hi : i ≤ N) (hpre : ∀ j, j < i * 5 → Z[j]? = xs[j]?)
include hx h5 hz hi hpre
set_option maxRecDepth 100000 in
theorem ains_cells1 : setAt (setAt Z (i * 5) x5) ((i + 1) * 5) (xs.drop (i * 5)) = xs.take (i * 5) ++ x5 ++ xs.drop (i * 5) := by
  have hd : (xs.drop (i * 5)).length = N * 5 - i * 5 := by rw [List.length_drop, hx]
  refine ains_get hx h5 hi _ (by rw [setAt_len, setAt_len, hz]) (fun j hj => ?_)
  rw [setAt_get _ _ _ _ (by rw [setAt_len, hd, hz]; omega), setAt_get _ _ _ _ (by rw [h5, hz]; omega), hd, h5, List.getElem?_drop]
  by_cases h1 : j < i * 5
  · rw [if_neg (by omega), if_neg (by omega), if_pos h1, hpre j h1]
  · by_cases h2 : j < (i + 1) * 5
    · rw [if_neg (by omega), if_pos (by omega), if_neg h1, if_pos h2]
    · rw [if_pos (by omega), if_neg h1, if_neg h2]
      congr 1
      omega
set_option maxRecDepth 100000 in
theorem ains_cells2 : setAt (setAt Z ((i + 1) * 5) (xs.drop (i * 5))) (i * 5) x5 = xs.take (i * 5) ++ x5 ++ xs.drop (i * 5) := by
  have hd : (xs.drop (i * 5)).length = N * 5 - i * 5 := by rw [List.length_drop, hx]
  refine ains_get hx h5 hi _ (by rw [setAt_len, setAt_len, hz]) (fun j hj => ?_)
  rw [setAt_get _ _ _ _ (by rw [setAt_len, h5, hz]; omega), setAt_get _ _ _ _ (by rw [hd, hz]; omega), hd, h5, List.getElem?_drop]
  by_cases h1 : j < i * 5
  · rw [if_neg (by omega), if_neg (by omega), if_pos h1, hpre j h1]
  · by_cases h2 : j < (i + 1) * 5
    · rw [if_pos (by omega), if_neg h1, if_pos h2]
    · rw [if_neg (by omega), if_pos (by omega), if_neg h1, if_neg h2]
      congr 1
      omega
end
set_option maxRecDepth 100000 in
theorem ablk_lt' {w : World} {b : Nat} {o : Obj} (h : w.heap[b]? = some o) : b < w.heap.size := by
  rcases Nat.lt_or_ge b w.heap.size with h1 | h1
  · exact h1
  · rw [Array.getElem?_eq_none h1] at h
    cases h
set_option maxRecDepth 100000 in
/-- The cells of a list with one element more. -/
theorem insA_flat (L : List Ad) (x : Ad) (i : Nat) : (L.take i ++ x :: L.drop i).flatMap adL = (L.flatMap adL).take (i * 5) ++ adL x ++ (L.flatMap adL).drop (i * 5) := by
  rw [List.flatMap_append, List.flatMap_cons, flat_take adL 5 (fun _ => rfl), flat_drop adL 5 (fun _ => rfl), List.append_assoc]
/-- What Insert leaves. -/
def InsPA (L' : List Ad) (base : Nat) (v : Value) (w : World) (e : Ending) (w' : World) : Prop :=
  ∃ g cap N og, N = L'.length ∧ e = .returned (.slice (some ⟨g, 0, none⟩) N cap) ∧ w'.ownsRow base 38 5 (.slice (some ⟨g, 0, none⟩) N cap) N (L'.flatMap adL) ∧ w.grownBy w' og ∧ (og = v.ownBlock ∨ og = some w.heap.size) ∧ (v.ownBlock = some g ∨ g = w.heap.size)
set_option maxRecDepth 100000 in
/-- The one advert that is put in. -/
theorem insA_src {w : World} {gx : Nat} {x : Ad} (h : w.heap[gx]? = some (.cells #[.int .i64 x.r, .int .i64 x.q, .bool x.cp, .slice x.pL x.L.length x.cL, .slice x.pC x.C.length x.cC] 38 (0, 0))) : ∀ j u, (adL x)[j]? = some u → w.cell? ((⟨gx, 0, none⟩ : Addr).add j) = some u := by
  intro j u hj
  rw [add_plain, Nat.zero_add, cell_of_row _ _ _ _ _ _ h]
  simpa [adL] using hj
set_option maxRecDepth 100000 in
set_option maxHeartbeats 3200000 in
/-- .. at the end. -/
theorem dinsA_any (L : List Ad) (x : Ad) (base gx cx : Nat) (p : Option Addr) (cap : Nat) (w : World) (h : w.ownsRow base 38 5 (.slice p L.length cap) L.length (L.flatMap adL)) (hx : w.heap[gx]? = some (.cells #[.int .i64 x.r, .int .i64 x.q, .bool x.cp, .slice x.pL x.L.length x.cL, .slice x.pC x.C.length x.cC] 38 (0, 0))) (hm : L.length ≤ 1000) (hb : base ≤ w.heap.size) :
    Calls Try.prog 89 #[.slice p L.length cap, .int .i64 (L.length : Int), .slice (some ⟨gx, 0, none⟩) 1 cx] w fun e w' => InsPA (L ++ [x]) base (.slice p L.length cap) w e w' := by
  obtain ⟨il, hil, hl0, hl1, hl2⟩ := info_parts info_ad5
  have hcap : L.length ≤ cap ∧ cap ≤ 9223372036854775807 := by
    obtain ⟨p', c', e, k1, k2⟩ := own_shape h
    injection e with e1 e2 e3
    subst e3
    exact ⟨k1, k2⟩
  have H := Lib.hid h
  have HX := Lib.hid hx
  obtain ⟨N, hN⟩ : ∃ N, L.length = N := ⟨_, rfl⟩
  rw [hN] at hm hcap H ⊢
  have HN := Lib.hid hN
  clear h hx hN
  by_cases hcn : cap = N
  · subst hcn
    go_enter Try.func89, Try.ntmps89
    go_upto_region 7 with fail
    go_wp2_with (at_builtin; refine wpList_append_lies _ rfl _ _ 23 rfl base 38 il (.agg #[.int .i64 0, .int .i64 0, .bool false, .slice none 0 0, .slice none 0 0]) 5 72 Try.underlying23 hil hl0 hl1 hl2 rfl (by decide) (.slice p cap cap) cap (L.flatMap adL) rfl H.out ⟨gx, 0, none⟩ 1 cx (adL x) rfl rfl (insA_src HX.out) (ad_one x) (by decide) (by unfold maxLen; omega) (by omega) hb _ rfl ?_)
    intro g cap' w9 hown hgrow hat hlt9
    have HG : Hid (InsPA (L ++ [x]) base (.slice p cap cap) w (.returned (.slice (some ⟨g, 0, none⟩) (cap + 1) cap')) w9) := Lib.hid ⟨g, cap', cap + 1, _, by rw [List.length_append, HN.out]; rfl, rfl, by rw [List.flatMap_append, List.flatMap_singleton]; exact hown, hgrow, Or.inl rfl, hat⟩
    clear hown hgrow hat hlt9
    go_wp2_with fail
    go_ret
    exact HG.out
  · go_enter Try.func89, Try.ntmps89
    go_upto_region 7 with fail
    go_wp2_with (at_builtin; refine wpList_append_lies _ rfl _ _ 23 rfl base 38 il (.agg #[.int .i64 0, .int .i64 0, .bool false, .slice none 0 0, .slice none 0 0]) 5 72 Try.underlying23 hil hl0 hl1 hl2 rfl (by decide) (.slice p N cap) N (L.flatMap adL) rfl H.out ⟨gx, 0, none⟩ 1 cx (adL x) rfl rfl (insA_src HX.out) (ad_one x) (by decide) (by unfold maxLen; omega) (by omega) hb _ rfl ?_)
    intro g cap' w9 hown hgrow hat hlt9
    have HG : Hid (InsPA (L ++ [x]) base (.slice p N cap) w (.returned (.slice (some ⟨g, 0, none⟩) (N + 1) cap')) w9) := Lib.hid ⟨g, cap', N + 1, _, by rw [List.length_append, HN.out]; rfl, rfl, by rw [List.flatMap_append, List.flatMap_singleton]; exact hown, hgrow, Or.inl rfl, hat⟩
    clear hown hgrow hat hlt9
    go_wp2_with fail
    go_ret
    exact HG.out
set_option maxRecDepth 100000 in
set_option maxHeartbeats 3200000 in
/-- .. where there is no room. -/
theorem dinsB_any (L : List Ad) (x : Ad) (base gx cx g cap i : Nat) (w : World) (h : w.ownsRow base 38 5 (.slice (some ⟨g, 0, none⟩) L.length cap) L.length (L.flatMap adL)) (hx : w.heap[gx]? = some (.cells #[.int .i64 x.r, .int .i64 x.q, .bool x.cp, .slice x.pL x.L.length x.cL, .slice x.pC x.C.length x.cC] 38 (0, 0))) (hm : L.length ≤ 1000) (hb : base ≤ w.heap.size) (hi : i < L.length) (hfull : cap < L.length + 1) :
    Calls Try.prog 89 #[.slice (some ⟨g, 0, none⟩) L.length cap, .int .i64 (i : Int), .slice (some ⟨gx, 0, none⟩) 1 cx] w fun e w' => InsPA (L.take i ++ x :: L.drop i) base (.slice (some ⟨g, 0, none⟩) L.length cap) w e w' := by
  obtain ⟨ii, hii, hi0, hi1, hi2⟩ := info_parts info_ad5
  have hcap : L.length ≤ cap ∧ cap ≤ 9223372036854775807 := by
    obtain ⟨p', c', e, k1, k2⟩ := own_shape h
    injection e with e1 e2 e3
    subst e3
    exact ⟨k1, k2⟩
  have hglt : g < w.heap.size := (h.lt g rfl).2
  have hgxlt := ablk_lt' hx
  obtain ⟨N, hN⟩ : ∃ N, L.length = N := ⟨_, rfl⟩
  have hlf := flat_len adL 5 adL_len L
  rw [hN] at h hm hcap hi hfull hlf ⊢
  have HN := Lib.hid hN
  obtain ⟨xs, hxs⟩ : ∃ xs, L.flatMap adL = xs := ⟨_, rfl⟩
  have HXS := Lib.hid (And.intro hxs (show xs.length = N * 5 by rw [← hxs]; exact hlf))
  rw [hxs] at h
  have htl : (xs.take (i * 5)).length = i * 5 := by rw [List.length_take, HXS.out.2]; omega
  have hdl : (xs.drop (i * 5)).length = (N - i) * 5 := by rw [List.length_drop, HXS.out.2]; omega
  have hone : ∀ u ∈ xs, u.oneCell' = true := fun u hu => by
    rw [← hxs] at hu
    obtain ⟨y, -, hy⟩ := List.mem_flatMap.1 hu
    exact ad_one y u hy
  -- the new row
  obtain ⟨gc, hgc⟩ : ∃ gc, grownCap w (N + 1) cap 38 = gc := ⟨_, rfl⟩
  have hgc1 : N + 1 ≤ gc := by rw [← hgc]; exact grownCap_ge _ _ _ _
  have hgc2 : gc ≤ 9223372036854775807 := by rw [← hgc]; exact grownCap_le_maxLen _ _ _ _ (by unfold maxLen; omega)
  obtain ⟨zz, hzz⟩ : ∃ zz : Value, zz = .agg #[.int .i64 0, .int .i64 0, .bool false, .slice none 0 0, .slice none 0 0] := ⟨_, rfl⟩
  rw [← hzz] at hi0
  have hzs : zz.cells.size = 5 := by rw [hzz]; rfl
  obtain ⟨cur, hcur⟩ : ∃ cur, (xs.take (i * 5)).toArray ++ Builtin.zeroCells zz.cells (N + 1 - i) ++ Builtin.zeroCells zz.cells (gc - (N + 1)) = cur := ⟨_, rfl⟩
  have hcs : cur.size = gc * 5 := by
    rw [← hcur, Array.size_append, Array.size_append, size_zeroCells, size_zeroCells, hzs, List.size_toArray, htl]
    omega
  obtain ⟨w1, hw1⟩ : ∃ w1, w.drew.alloc (.cells cur 38) = w1 := ⟨_, rfl⟩
  obtain ⟨B, hB⟩ : ∃ B, w.heap.size = B := ⟨_, rfl⟩
  have hg1 : w.grownBy w1 none := by rw [← hw1]; exact grown_trans (grown_drew (grown_refl _ _)) (World.grownBy_alloc _ _ _)
  have hrun : ∀ ty, (Builtin.append_ #[23, 3] ty #[.slice (some ⟨g, 0, none⟩) i cap, .int .i64 ((N : Int) + 1 - (i : Int))]).run Try.prog w = .ok (.slice (some ⟨B, 0, none⟩) (N + 1) gc) w1 := fun ty => by
    have hr := run_append_zeros_k Try.underlying23 hii w 3 ty Try.underlying3 zz hi0 (by omega) ⟨g, 0, none⟩ i cap (xs.take (i * 5)) (by rw [hi1]; exact htl) (fun j v hj => by
      have hjl : j < i * 5 := by rw [← htl]; exact (List.getElem?_eq_some_iff.1 hj).1
      rw [List.getElem?_take_of_lt hjl] at hj
      exact h.cells (g := g) rfl _ v hj) (N + 1 - i) (by omega) (by omega) (by omega) (by omega)
    rw [show i + (N + 1 - i) = N + 1 by omega, hgc, hcur, hw1, hB, show ((N + 1 - i : Nat) : Int) = (N : Int) + 1 - (i : Int) by omega] at hr
    exact hr
  have hnew : w1.heap[B]? = some (.cells cur 38 (0, 0)) := by
    rw [← hw1, ← hB]
    exact heap_alloc_new w.drew _
  obtain ⟨Z, hZ⟩ : ∃ Z, cur.toList.take ((N + 1) * 5) = Z := ⟨_, rfl⟩
  have hZl : Z.length = (N + 1) * 5 := by
    rw [← hZ, List.length_take, Array.length_toList, hcs]
    omega
  have hZp : ∀ j, j < i * 5 → Z[j]? = xs[j]? := fun j hj => by
    rw [← hZ, ← hcur, List.getElem?_take_of_lt (by omega)]
    simp only [Array.toList_append, List.append_assoc]
    rw [List.getElem?_append_left (by omega), List.getElem?_take_of_lt hj]
  have hown1 : w1.ownsRow base 38 5 (.slice (some ⟨B, 0, none⟩) (N + 1) gc) (N + 1) Z := ⟨hZl, .inr ⟨B, gc, cur, rfl, by omega, hnew, hgc1, hgc2, hcs, hZ⟩⟩
  -- the copies
  have hx1 : w1.heap[gx]? = some (.cells #[.int .i64 x.r, .int .i64 x.q, .bool x.cp, .slice x.pL x.L.length x.cL, .slice x.pC x.C.length x.cC] 38 (0, 0)) := kept_row hx hg1 (by simp)
  have hcp1 : ∀ ty, (Builtin.copy_ #[23, 23] ty #[.slice (some ⟨B, i * 5, none⟩) (N + 1 - i) (gc - i), .slice (some ⟨gx, 0, none⟩) 1 cx]).run Try.prog w1 = .ok (goInt 1) (w1.setCells B (i * 5) (adL x)) := fun ty =>
    run_copy_k Try.underlying23 hii w1 ty B (i * 5) _ _ ⟨gx, 0, none⟩ 1 cx (adL x) 1 (by simp only [Nat.min_def]; split <;> omega) (by rw [hi1]; rfl) (insA_src hx1)
      (fun j hj => (own_cellOk hown1 _ (by have : (adL x).length = 5 := rfl; omega)).1) (fun j hj => (own_cellOk hown1 _ (by have : (adL x).length = 5 := rfl; omega)).2) (ad_one x)
  obtain ⟨s1, s2⟩ := own_setCells (adL x) (i * 5) w1 _ hown1
  obtain ⟨w2, hw2⟩ : ∃ w2, w1.setCells B (i * 5) (adL x) = w2 := ⟨_, rfl⟩
  rw [hw2] at hcp1 s1 s2
  have hr2 : w2.drew.ownsRow base 38 5 (.slice (some ⟨g, 0, none⟩) N cap) N xs := (((h.kept hg1 (.inr (by simp [Value.ownBlock]))).kept s2 (.inr (fun e => by have h9 : g = B := Option.some.inj e; omega)))).drew
  have hcp2 : ∀ ty dc sc, (Builtin.copy_ #[23, 23] ty #[.slice (some ⟨B, (i + 1) * 5, none⟩) (N - i) dc, .slice (some ⟨g, i * 5, none⟩) (N - i) sc]).run Try.prog w2.drew = .ok (goInt (N - i : Nat)) (w2.drew.setCells B ((i + 1) * 5) (xs.drop (i * 5))) := fun ty dc sc =>
    run_copy_k Try.underlying23 hii w2.drew ty B ((i + 1) * 5) _ _ ⟨g, i * 5, none⟩ (N - i) sc (xs.drop (i * 5)) (N - i) (by simp only [Nat.min_def]; split <;> omega) (by rw [hi1]; exact hdl) (fun j v hj => by
      rw [add_plain]
      rw [List.getElem?_drop] at hj
      have := hr2.cells (g := g) rfl _ v hj
      rw [add_plain, Nat.zero_add] at this
      exact this)
      (fun j hj => (own_cellOk s1.drew _ (by omega)).1) (fun j hj => (own_cellOk s1.drew _ (by omega)).2) (fun u hu => hone u (List.mem_of_mem_drop hu))
  obtain ⟨t1, t2⟩ := own_setCells (xs.drop (i * 5)) ((i + 1) * 5) w2.drew _ s1.drew
  obtain ⟨w3, hw3⟩ : ∃ w3, w2.drew.setCells B ((i + 1) * 5) (xs.drop (i * 5)) = w3 := ⟨_, rfl⟩
  rw [hw3] at hcp2 t1 t2
  rw [ains_cells1 HXS.out.2 rfl hZl (by omega) hZp, ← HXS.out.1, ← insA_flat] at t1
  have H9 := Lib.hid hrun
  have H10 := Lib.hid hcp1
  have H11 := Lib.hid hcp2
  have HG : Hid (InsPA (L.take i ++ x :: L.drop i) base (.slice (some ⟨g, 0, none⟩) N cap) w (.returned (.slice (some ⟨B, 0, none⟩) (N + 1) gc)) w3) := Lib.hid ⟨B, gc, N + 1, some B, by rw [List.length_append, List.length_cons, List.length_take, List.length_drop, HN.out]; omega, rfl, t1, grown_trans (grown_none hg1 _) (grown_trans s2 (grown_trans (grown_drew (grown_refl _ _)) t2)), Or.inr (by rw [hB]), Or.inr hB.symm⟩
  have n1 : ((i : Int) == (N : Int)) = false := by rw [beq_eq_false_iff_ne]; omega
  have n2 : (cap : Int) < (N : Int) + 1 := by omega
  have n3 : i ≤ cap := by omega
  have n4 : (i : Int) ≤ (N : Int) := by omega
  have n5 : ¬ cap = i := by omega
  have n6 : ¬ gc = i := by omega
  have n7 : ¬ gc = i + 1 := by omega
  have n8 : (i : Int) + 1 ≤ (N : Int) + 1 := by omega
  have n9 : (i : Int) ≤ (N : Int) + 1 := by omega
  have n10 : (i : Int) ≤ (cap : Int) := by omega
  have n11 : (0 : Int) ≤ (i : Int) + 1 := by omega
  have u1 : IntKind.i64.wrap ((i : Int) + 1) = (i : Int) + 1 := by rw [IntKind.wrap_i64]; omega
  have u2 : ((i : Int) + 1).toNat = i + 1 := by omega
  clear hrun hcp1 hcp2 t1 t2 s1 s2 hw1 hw2 hw3 h hone hdl htl hlf hxs hN hZp hZl hZ hown1 hnew hcur hcs hzs hi0 hzz hr2 hx hx1 hgc hgc1 hfull
  go_enter Try.func89, Try.ntmps89
  go_upto_region 9 with fail
  go_wp2_with (first | (refine wpList_append_runC rfl _ _ 23 3 rfl _ _ rfl rfl (H9.out _) ?_) | (refine wpList_copy_run rfl _ _ 23 23 rfl _ _ rfl rfl (H10.out _) ?_))
  go_upto_region 11 with fail
  refine wp_region_held_drew (S := fun _ => True) (by kernel_rfl) (trivial) (fun hHeld => ?_)
  refine wpAnyH_take (i := 0) (oi := { dst := some 46, op := Op.move (Operand.tmp 9), type := 23, pos := "slices.go:154", after := #[], guard := none }) (v := ?_) rfl (by kernel_rfl) (by kernel_rfl) (by kernel_rfl) (fun _ _ _ h => h) (Or.inl ⟨by rfl, ?_⟩) hHeld ?_
  rotate_left 1
  · intro u hSu
    go_simp
    first | done | with_reducible rfl
  (try simp only [Act.put, List.setIfInBounds_toArray, List.set_cons_zero, List.set_cons_succ])
  refine wpAnyH_take (i := 1) (oi := { dst := some 47, op := Op.move (Operand.tmp 1), type := 3, pos := "slices.go:154", after := #[], guard := none }) (v := ?_) rfl (by kernel_rfl) (by kernel_rfl) (by kernel_rfl) (fun _ _ _ h => h) (Or.inl ⟨by rfl, ?_⟩) hHeld ?_
  rotate_left 1
  · intro u hSu
    go_simp
    first | done | with_reducible rfl
  (try simp only [Act.put, List.setIfInBounds_toArray, List.set_cons_zero, List.set_cons_succ])
  refine wpAnyH_take (i := 2) (oi := { dst := some 48, op := Op.move (Operand.tmp 7), type := 3, pos := "slices.go:154", after := #[], guard := none }) (v := ?_) rfl (by kernel_rfl) (by kernel_rfl) (by kernel_rfl) (fun _ _ _ h => h) (Or.inl ⟨by rfl, ?_⟩) hHeld ?_
  rotate_left 1
  · intro u hSu
    go_simp
    first | done | with_reducible rfl
  (try simp only [Act.put, List.setIfInBounds_toArray, List.set_cons_zero, List.set_cons_succ])
  refine wpAnyH_take (i := 3) (oi := { dst := some 49, op := Op.binOp BinOp.add 3 (Operand.tmp 47) (Operand.tmp 48) 3, type := 3, pos := "slices.go:154", after := #[{ on := 1, ground := Ground.data }, { on := 2, ground := Ground.data }], guard := none }) (v := ?_) rfl (by kernel_rfl) (by kernel_rfl) (by kernel_rfl) (fun _ _ _ h => h) (Or.inl ⟨by rfl, ?_⟩) hHeld ?_
  rotate_left 1
  · intro u hSu
    go_simp
    first | done | with_reducible rfl
  (try simp only [Act.put, List.setIfInBounds_toArray, List.set_cons_zero, List.set_cons_succ])
  refine wpAnyH_take (i := 4) (oi := { dst := some 50, op := Op.slice 23 (Operand.tmp 46) (some (Operand.tmp 49)) none none, type := 23, pos := "slices.go:154", after := #[{ on := 0, ground := Ground.data }, { on := 3, ground := Ground.data }], guard := none }) (v := ?_) rfl (by kernel_rfl) (by kernel_rfl) (by kernel_rfl) (fun _ _ _ h => h) (Or.inl ⟨by rfl, ?_⟩) hHeld ?_
  rotate_left 1
  · intro u hSu
    go_simp
    first | done | with_reducible rfl
  (try simp only [Act.put, List.setIfInBounds_toArray, List.set_cons_zero, List.set_cons_succ])
  refine wpAnyH_take (i := 5) (oi := { dst := some 51, op := Op.move (Operand.tmp 0), type := 23, pos := "slices.go:154", after := #[], guard := none }) (v := ?_) rfl (by kernel_rfl) (by kernel_rfl) (by kernel_rfl) (fun _ _ _ h => h) (Or.inl ⟨by rfl, ?_⟩) hHeld ?_
  rotate_left 1
  · intro u hSu
    go_simp
    first | done | with_reducible rfl
  (try simp only [Act.put, List.setIfInBounds_toArray, List.set_cons_zero, List.set_cons_succ])
  refine wpAnyH_take (i := 6) (oi := { dst := some 52, op := Op.move (Operand.tmp 1), type := 3, pos := "slices.go:154", after := #[], guard := none }) (v := ?_) rfl (by kernel_rfl) (by kernel_rfl) (by kernel_rfl) (fun _ _ _ h => h) (Or.inl ⟨by rfl, ?_⟩) hHeld ?_
  rotate_left 1
  · intro u hSu
    go_simp
    first | done | with_reducible rfl
  (try simp only [Act.put, List.setIfInBounds_toArray, List.set_cons_zero, List.set_cons_succ])
  refine wpAnyH_take (i := 7) (oi := { dst := some 53, op := Op.slice 23 (Operand.tmp 51) (some (Operand.tmp 52)) none none, type := 23, pos := "slices.go:154", after := #[{ on := 5, ground := Ground.data }, { on := 6, ground := Ground.data }], guard := none }) (v := ?_) rfl (by kernel_rfl) (by kernel_rfl) (by kernel_rfl) (fun _ _ _ h => h) (Or.inl ⟨by rfl, ?_⟩) hHeld ?_
  rotate_left 1
  · intro u hSu
    go_simp
    first | done | with_reducible rfl
  (try simp only [Act.put, List.setIfInBounds_toArray, List.set_cons_zero, List.set_cons_succ])
  refine wpAnyH_ready (rs := [8]) (by kernel_rfl) (by simp) ?_
  refine AllReadyH.cons (o := { dst := some 54, op := Op.call { callee := Callee.builtin Builtin.copy, args := #[Operand.tmp 50, Operand.tmp 53], argTypes := #[23, 23] }, type := 3, pos := "slices.go:154", after := #[{ on := 4, ground := Ground.data }, { on := 7, ground := Ground.data }], guard := none }) rfl (fun Kz hK => ?_) AllReadyH.nil
  refine step_copy_run rfl _ _ _ _ rfl _ _ rfl rfl (H11.out _ _ _) ?_
  refine hK.out _ _ (trivial) (fun hH2 => ?_)
  clear hK Kz hHeld
  have hHeld := hH2
  clear hH2
  (try simp only [Act.put, List.setIfInBounds_toArray, List.set_cons_zero, List.set_cons_succ])
  refine wpAnyH_done (by kernel_rfl) ?_ _
  clear hHeld
  go_wp2_with fail
  go_ret
  exact HG.out

set_option maxRecDepth 100000 in
set_option maxHeartbeats 3200000 in
/-- .. in place. -/
theorem dinsC_any (L : List Ad) (x : Ad) (base gx cx g cap i : Nat) (w : World) (h : w.ownsRow base 38 5 (.slice (some ⟨g, 0, none⟩) L.length cap) L.length (L.flatMap adL)) (hx : w.heap[gx]? = some (.cells #[.int .i64 x.r, .int .i64 x.q, .bool x.cp, .slice x.pL x.L.length x.cL, .slice x.pC x.C.length x.cC] 38 (0, 0))) (hm : L.length ≤ 1000) (hne : gx ≠ g) (hi : i < L.length) (hroom : L.length + 1 ≤ cap) :
    Calls Try.prog 89 #[.slice (some ⟨g, 0, none⟩) L.length cap, .int .i64 (i : Int), .slice (some ⟨gx, 0, none⟩) 1 cx] w fun e w' => InsPA (L.take i ++ x :: L.drop i) base (.slice (some ⟨g, 0, none⟩) L.length cap) w e w' := by
  obtain ⟨ii, hii, hi0, hi1, hi2⟩ := info_parts info_ad5
  have hcap : L.length ≤ cap ∧ cap ≤ 9223372036854775807 := by
    obtain ⟨p', c', e, k1, k2⟩ := own_shape h
    injection e with e1 e2 e3
    subst e3
    exact ⟨k1, k2⟩
  have hglt := h.lt g rfl
  obtain ⟨N, hN⟩ : ∃ N, L.length = N := ⟨_, rfl⟩
  have hlf := flat_len adL 5 adL_len L
  rw [hN] at h hm hcap hi hroom hlf ⊢
  have HN := Lib.hid hN
  obtain ⟨xs, hxs⟩ : ∃ xs, L.flatMap adL = xs := ⟨_, rfl⟩
  have HXS := Lib.hid (And.intro hxs (show xs.length = N * 5 by rw [← hxs]; exact hlf))
  rw [hxs] at h
  have hdl : (xs.drop (i * 5)).length = (N - i) * 5 := by rw [List.length_drop, HXS.out.2]; omega
  have hone : ∀ u ∈ xs, u.oneCell' = true := fun u hu => by
    rw [← hxs] at hu
    obtain ⟨y, -, hy⟩ := List.mem_flatMap.1 hu
    exact ad_one y u hy
  obtain ⟨Z, hZ, hown1⟩ := own_len h (N + 1) hroom
  rw [Nat.min_eq_left (by omega)] at hZ
  have hZl : Z.length = (N + 1) * 5 := hown1.1
  have hZp : ∀ j, j < i * 5 → Z[j]? = xs[j]? := fun j hj => by
    rw [← List.getElem?_take_of_lt (l := Z) (show j < N * 5 by omega), hZ, List.getElem?_take_of_lt (by omega)]
  have hov : ∀ lb cb, (callFunc 120 #[.slice (some ⟨gx, 0, none⟩) 1 cx, .slice (some ⟨g, (i + 1) * 5, none⟩) lb cb]).run Try.prog w = .ok (.value (.bool false)) w := fun lb cb => by
    obtain ⟨cur, hg⟩ : ∃ cur, w.heap[g]? = some (.cells cur 38 (0, 0)) ∧ cur.size ≠ 0 := by
      rcases h.2 with ⟨e1, _⟩ | ⟨g', cap', cur, e1, hb, hg, hn, hcm, hcs, ht⟩
      · cases e1
      · injection e1 with e2 e3 e4
        injection e2 with e2
        injection e2 with e5 e6
        subst e5
        exact ⟨cur, hg, by omega⟩
    rw [run_callFunc_extern Try.func120 (by kernel_rfl) (by kernel_rfl) (by kernel_rfl) (e := Extern.SlicesOverlaps.overlaps #[23, 23] #[4]) (by kernel_rfl),
      Lib.run_overlaps_apart w 23 4 38 Try.underlying23 5 (fun w => by simp [sizeOf, typeInfo, hii, hi1]) ⟨gx, 0, none⟩ ⟨g, (i + 1) * 5, none⟩ 1 cx lb cb hne 38 38 5 cur.size (by simp [World.shape?, hx]) (by simp [World.shape?, hg.1]) hg.2 (frozen_of_row _ _ 0 _ _ hx) (frozen_of_row _ _ 5 _ _ hx)]
    rfl
  have hcp1 : ∀ ty dc sc, (Builtin.copy_ #[23, 23] ty #[.slice (some ⟨g, (i + 1) * 5, none⟩) (N - i) dc, .slice (some ⟨g, i * 5, none⟩) (N + 1 - i) sc]).run Try.prog w.drew = .ok (goInt (N - i : Nat)) (w.drew.setCells g ((i + 1) * 5) (xs.drop (i * 5))) := fun ty dc sc =>
    run_copy_k Try.underlying23 hii w.drew ty g ((i + 1) * 5) _ _ ⟨g, i * 5, none⟩ (N + 1 - i) sc (xs.drop (i * 5)) (N - i) (by simp only [Nat.min_def]; split <;> omega) (by rw [hi1]; exact hdl) (fun j v hj => by
      rw [add_plain]
      rw [List.getElem?_drop] at hj
      have := h.drew.cells (g := g) rfl _ v hj
      rw [add_plain, Nat.zero_add] at this
      exact this)
      (fun j hj => (own_cellOk h.drew _ (by omega)).1) (fun j hj => (own_cellOk h.drew _ (by omega)).2) (fun u hu => hone u (List.mem_of_mem_drop hu))
  obtain ⟨s1, s2⟩ := own_setCells (xs.drop (i * 5)) ((i + 1) * 5) w.drew _ hown1.drew
  obtain ⟨w2, hw2⟩ : ∃ w2, w.drew.setCells g ((i + 1) * 5) (xs.drop (i * 5)) = w2 := ⟨_, rfl⟩
  rw [hw2] at hcp1 s1 s2
  have hg2 : w.grownBy w2 (some g) := grown_trans (grown_drew (grown_refl _ _)) s2
  have hx2 : w2.heap[gx]? = some (.cells #[.int .i64 x.r, .int .i64 x.q, .bool x.cp, .slice x.pL x.L.length x.cL, .slice x.pC x.C.length x.cC] 38 (0, 0)) := kept_row hx hg2 (fun e => hne (Option.some.inj e))
  have hcp2 : ∀ ty dc, (Builtin.copy_ #[23, 23] ty #[.slice (some ⟨g, i * 5, none⟩) (N + 1 - i) dc, .slice (some ⟨gx, 0, none⟩) 1 cx]).run Try.prog w2 = .ok (goInt 1) (w2.setCells g (i * 5) (adL x)) := fun ty dc =>
    run_copy_k Try.underlying23 hii w2 ty g (i * 5) _ _ ⟨gx, 0, none⟩ 1 cx (adL x) 1 (by simp only [Nat.min_def]; split <;> omega) (by rw [hi1]; rfl) (insA_src hx2)
      (fun j hj => (own_cellOk s1 _ (by have : (adL x).length = 5 := rfl; omega)).1) (fun j hj => (own_cellOk s1 _ (by have : (adL x).length = 5 := rfl; omega)).2) (ad_one x)
  obtain ⟨t1, t2⟩ := own_setCells (adL x) (i * 5) w2 _ s1
  obtain ⟨w3, hw3⟩ : ∃ w3, w2.setCells g (i * 5) (adL x) = w3 := ⟨_, rfl⟩
  rw [hw3] at hcp2 t1 t2
  rw [ains_cells2 HXS.out.2 rfl hZl (by omega) hZp, ← HXS.out.1, ← insA_flat] at t1
  have H14 := Lib.hid hov
  have H15 := Lib.hid hcp1
  have H16 := Lib.hid hcp2
  have HG : Hid (InsPA (L.take i ++ x :: L.drop i) base (.slice (some ⟨g, 0, none⟩) N cap) w (.returned (.slice (some ⟨g, 0, none⟩) (N + 1) cap)) w3) := Lib.hid ⟨g, cap, N + 1, some g, by rw [List.length_append, List.length_cons, List.length_take, List.length_drop, HN.out]; omega, rfl, t1, grown_trans hg2 t2, Or.inl rfl, Or.inl rfl⟩
  have n1 : ((i : Int) == (N : Int)) = false := by rw [beq_eq_false_iff_ne]; omega
  have n2 : ¬ (cap : Int) < (N : Int) + 1 := by omega
  have n3 : N + 1 ≤ cap := hroom
  have n4 : (i : Int) ≤ (N : Int) := by omega
  have n5 : ¬ cap = i := by omega
  have n7 : ¬ cap = i + 1 := by omega
  have n8 : (i : Int) + 1 ≤ (N : Int) + 1 := by omega
  have n9 : (i : Int) ≤ (N : Int) + 1 := by omega
  have n10 : (N : Int) + 1 ≤ (cap : Int) := by omega
  have n11 : (0 : Int) ≤ (i : Int) + 1 := by omega
  have u1 : IntKind.i64.wrap ((i : Int) + 1) = (i : Int) + 1 := by rw [IntKind.wrap_i64]; omega
  have u2 : ((i : Int) + 1).toNat = i + 1 := by omega
  have n12 : (0 : Int) ≤ (N : Int) + 1 := by omega
  have n13 : ((N : Int) + 1).toNat = N + 1 := by omega
  clear hov hcp1 hcp2 t1 t2 s1 s2 hw2 hw3 h hone hdl hlf hxs hN hZp hZl hZ hown1 hx hx2 hg2 hroom hglt hi0
  go_enter Try.func89, Try.ntmps89
  go_upto_region 14 with fail
  go_wp2_with fail
  rw [H14.out]
  go_upto_region 15 with fail
  refine wp_region_held_drew (S := fun _ => True) (by kernel_rfl) (trivial) (fun hHeld => ?_)
  refine wpAnyH_take (i := 0) (oi := { dst := some 69, op := Op.move (Operand.tmp 0), type := 23, pos := "slices.go:178", after := #[], guard := none }) (v := ?_) rfl (by kernel_rfl) (by kernel_rfl) (by kernel_rfl) (fun _ _ _ h => h) (Or.inl ⟨by rfl, ?_⟩) hHeld ?_
  rotate_left 1
  · intro u hSu
    go_simp
    first | done | with_reducible rfl
  (try simp only [Act.put, List.setIfInBounds_toArray, List.set_cons_zero, List.set_cons_succ])
  refine wpAnyH_take (i := 1) (oi := { dst := some 70, op := Op.move (Operand.tmp 1), type := 3, pos := "slices.go:178", after := #[], guard := none }) (v := ?_) rfl (by kernel_rfl) (by kernel_rfl) (by kernel_rfl) (fun _ _ _ h => h) (Or.inl ⟨by rfl, ?_⟩) hHeld ?_
  rotate_left 1
  · intro u hSu
    go_simp
    first | done | with_reducible rfl
  (try simp only [Act.put, List.setIfInBounds_toArray, List.set_cons_zero, List.set_cons_succ])
  refine wpAnyH_take (i := 2) (oi := { dst := some 71, op := Op.move (Operand.tmp 7), type := 3, pos := "slices.go:178", after := #[], guard := none }) (v := ?_) rfl (by kernel_rfl) (by kernel_rfl) (by kernel_rfl) (fun _ _ _ h => h) (Or.inl ⟨by rfl, ?_⟩) hHeld ?_
  rotate_left 1
  · intro u hSu
    go_simp
    first | done | with_reducible rfl
  (try simp only [Act.put, List.setIfInBounds_toArray, List.set_cons_zero, List.set_cons_succ])
  refine wpAnyH_take (i := 3) (oi := { dst := some 72, op := Op.binOp BinOp.add 3 (Operand.tmp 70) (Operand.tmp 71) 3, type := 3, pos := "slices.go:178", after := #[{ on := 1, ground := Ground.data }, { on := 2, ground := Ground.data }], guard := none }) (v := ?_) rfl (by kernel_rfl) (by kernel_rfl) (by kernel_rfl) (fun _ _ _ h => h) (Or.inl ⟨by rfl, ?_⟩) hHeld ?_
  rotate_left 1
  · intro u hSu
    go_simp
    first | done | with_reducible rfl
  (try simp only [Act.put, List.setIfInBounds_toArray, List.set_cons_zero, List.set_cons_succ])
  refine wpAnyH_take (i := 4) (oi := { dst := some 73, op := Op.slice 23 (Operand.tmp 69) (some (Operand.tmp 72)) none none, type := 23, pos := "slices.go:178", after := #[{ on := 0, ground := Ground.data }, { on := 3, ground := Ground.data }], guard := none }) (v := ?_) rfl (by kernel_rfl) (by kernel_rfl) (by kernel_rfl) (fun _ _ _ h => h) (Or.inl ⟨by rfl, ?_⟩) hHeld ?_
  rotate_left 1
  · intro u hSu
    go_simp
    first | done | with_reducible rfl
  (try simp only [Act.put, List.setIfInBounds_toArray, List.set_cons_zero, List.set_cons_succ])
  refine wpAnyH_take (i := 5) (oi := { dst := some 74, op := Op.move (Operand.tmp 0), type := 23, pos := "slices.go:178", after := #[], guard := none }) (v := ?_) rfl (by kernel_rfl) (by kernel_rfl) (by kernel_rfl) (fun _ _ _ h => h) (Or.inl ⟨by rfl, ?_⟩) hHeld ?_
  rotate_left 1
  · intro u hSu
    go_simp
    first | done | with_reducible rfl
  (try simp only [Act.put, List.setIfInBounds_toArray, List.set_cons_zero, List.set_cons_succ])
  refine wpAnyH_take (i := 6) (oi := { dst := some 75, op := Op.move (Operand.tmp 1), type := 3, pos := "slices.go:178", after := #[], guard := none }) (v := ?_) rfl (by kernel_rfl) (by kernel_rfl) (by kernel_rfl) (fun _ _ _ h => h) (Or.inl ⟨by rfl, ?_⟩) hHeld ?_
  rotate_left 1
  · intro u hSu
    go_simp
    first | done | with_reducible rfl
  (try simp only [Act.put, List.setIfInBounds_toArray, List.set_cons_zero, List.set_cons_succ])
  refine wpAnyH_take (i := 7) (oi := { dst := some 76, op := Op.slice 23 (Operand.tmp 74) (some (Operand.tmp 75)) none none, type := 23, pos := "slices.go:178", after := #[{ on := 5, ground := Ground.data }, { on := 6, ground := Ground.data }], guard := none }) (v := ?_) rfl (by kernel_rfl) (by kernel_rfl) (by kernel_rfl) (fun _ _ _ h => h) (Or.inl ⟨by rfl, ?_⟩) hHeld ?_
  rotate_left 1
  · intro u hSu
    go_simp
    first | done | with_reducible rfl
  (try simp only [Act.put, List.setIfInBounds_toArray, List.set_cons_zero, List.set_cons_succ])
  refine wpAnyH_ready (rs := [8]) (by kernel_rfl) (by simp) ?_
  refine AllReadyH.cons (o := { dst := some 77, op := Op.call { callee := Callee.builtin Builtin.copy, args := #[Operand.tmp 73, Operand.tmp 76], argTypes := #[23, 23] }, type := 3, pos := "slices.go:178", after := #[{ on := 4, ground := Ground.data }, { on := 7, ground := Ground.data }], guard := none }) rfl (fun Kz hK => ?_) AllReadyH.nil
  refine step_copy_run rfl _ _ _ _ rfl _ _ rfl rfl (H15.out _ _ _) ?_
  refine hK.out _ _ (trivial) (fun hH2 => ?_)
  clear hK Kz hHeld
  have hHeld := hH2
  clear hH2
  (try simp only [Act.put, List.setIfInBounds_toArray, List.set_cons_zero, List.set_cons_succ])
  refine wpAnyH_done (by kernel_rfl) ?_ _
  clear hHeld
  go_wp2_with (refine wpList_copy_run rfl _ _ 23 23 rfl _ _ rfl rfl (H16.out _ _) ?_)
  go_wp2_with fail
  go_ret
  exact HG.out
set_option maxRecDepth 100000 in
/-- Insert, wherever. -/
theorem dinsert_any (L : List Ad) (x : Ad) (base gx cx i : Nat) (v : Value) (w : World) (h : w.ownsRow base 38 5 v L.length (L.flatMap adL)) (hx : w.heap[gx]? = some (.cells #[.int .i64 x.r, .int .i64 x.q, .bool x.cp, .slice x.pL x.L.length x.cL, .slice x.pC x.C.length x.cC] 38 (0, 0))) (hm : L.length ≤ 1000) (hb : base ≤ w.heap.size) (hne : v.ownBlock ≠ some gx) (hi : i ≤ L.length) :
    Calls Try.prog 89 #[v, .int .i64 (i : Int), .slice (some ⟨gx, 0, none⟩) 1 cx] w fun e w' => InsPA (L.take i ++ x :: L.drop i) base v w e w' := by
  rcases Nat.lt_or_ge i L.length with h1 | h1
  · obtain ⟨g, cap, rfl, -, -⟩ := h.form (by omega)
    rcases Nat.lt_or_ge cap (L.length + 1) with h2 | h2
    · exact dinsB_any L x base gx cx g cap i w h hx hm hb h1 h2
    · exact dinsC_any L x base gx cx g cap i w h hx hm (fun e => hne (by rw [e]; rfl)) h1 h2
  · obtain rfl : i = L.length := by omega
    obtain ⟨p, c, rfl, -, -⟩ := own_shape h
    rw [List.take_length, List.drop_length]
    exact dinsA_any L x base gx cx p c w h hx hm hb
set_option maxRecDepth 100000 in
/-- An advert is stored into a row. -/
theorem set_flat (L : List Ad) (A : Ad) (i : Nat) (hi : i < L.length) : setAt (L.flatMap adL) (i * 5) (adL A) = (L.set i A).flatMap adL := by
  have hl : (L.flatMap adL).length = L.length * 5 := flat_len adL 5 adL_len L
  have h5 : (adL A).length = 5 := rfl
  refine alist_eq ?_ (fun j hj => ?_)
  · rw [setAt_len, flat_len adL 5 adL_len, flat_len adL 5 adL_len, List.length_set]
  · rw [setAt_len, hl] at hj
    rw [setAt_get _ _ _ _ (by rw [h5, hl]; omega), h5]
    have hm : j % 5 < 5 := Nat.mod_lt _ (by decide)
    have hd : j = j / 5 * 5 + j % 5 := by omega
    have hjl : j / 5 < L.length := by omega
    by_cases h : i = j / 5
    · rw [if_pos (by omega)]
      have h1 : (L.set i A)[j / 5]? = some A := by rw [h, List.getElem?_set_self (by omega)]
      rw [hd, flat_at adL 5 adL_len _ _ _ _ h1 hm, ← hd]
      congr 1
      omega
    · rw [if_neg (by omega)]
      have h1 : (L.set i A)[j / 5]? = some L[j / 5] := by rw [List.getElem?_set_ne h]; exact List.getElem?_eq_getElem hjl
      rw [hd, flat_at adL 5 adL_len _ _ _ _ h1 hm, flat_at adL 5 adL_len _ _ _ _ (List.getElem?_eq_getElem hjl) hm]
set_option maxRecDepth 100000 in
theorem own_set5 {w : World} {base g n cap i : Nat} {L : List Ad} (A : Ad) (h : w.ownsRow base 38 5 (.slice (some ⟨g, 0, none⟩) n cap) n (L.flatMap adL)) (hi : i < L.length) :
    (((((w.setCell ⟨g, i * 5, none⟩ (.int .i64 A.r)).setCell ⟨g, i * 5 + 1, none⟩ (.int .i64 A.q)).setCell ⟨g, i * 5 + 2, none⟩ (.bool A.cp)).setCell ⟨g, i * 5 + 3, none⟩ (.slice A.pL A.L.length A.cL)).setCell ⟨g, i * 5 + 4, none⟩ (.slice A.pC A.C.length A.cC)).ownsRow base 38 5 (.slice (some ⟨g, 0, none⟩) n cap) n ((L.set i A).flatMap adL) ∧
    w.grownBy (((((w.setCell ⟨g, i * 5, none⟩ (.int .i64 A.r)).setCell ⟨g, i * 5 + 1, none⟩ (.int .i64 A.q)).setCell ⟨g, i * 5 + 2, none⟩ (.bool A.cp)).setCell ⟨g, i * 5 + 3, none⟩ (.slice A.pL A.L.length A.cL)).setCell ⟨g, i * 5 + 4, none⟩ (.slice A.pC A.C.length A.cC)) (some g) := by
  have h1 := own_setCells (adL A) (i * 5) w _ h
  rw [set_flat L A i hi] at h1
  exact h1
end Go.Proofs.Ytnpkihioklpnmaa

/- What View says: look-ups, linked routers, the routers that are reached, the topology. The mathematics. -/
namespace Go.Proofs.Ytnpkihioklpnmaa
open Go.RowKit Bs
def isR (r : Int) (A : Ad) : Bool := decide (A.r = r)
def fndA (l : List Ad) (r : Int) : Option Ad := l.find? (isR r)
def isN (r : Int) (x : T3) : Bool := decide (x.a = r)
def rcA (A : Ad) (r : Int) : Option T3 := A.L.find? (isN r)
def rcV (A : Ad) (r : Int) : T3 := (rcA A r).getD ⟨0, 0, 0⟩
/-- The advert that a link leads to, if it leads back. -/
def lk1 (l : List Ad) (A : Ad) (x : T3) : List Ad := match fndA l x.a with
  | some B => if (rcA B A.r).isSome = true then [B] else []
  | none => []
/-- The adverts of the routers that are linked with A's. -/
def lnk (l : List Ad) (A : Ad) : List Ad := A.L.flatMap (lk1 l A)
set_option maxRecDepth 100000 in
theorem fndA_some {l : List Ad} {r : Int} {B : Ad} (h : fndA l r = some B) : B ∈ l ∧ B.r = r := by
  have h2 : isR r B = true := List.find?_some h
  exact ⟨List.mem_of_find?_eq_some h, of_decide_eq_true h2⟩
set_option maxRecDepth 100000 in
theorem lnk_mem {l : List Ad} {A B : Ad} (h : B ∈ lnk l A) : B ∈ l := by
  unfold lnk at h
  obtain ⟨x, _, hx⟩ := List.mem_flatMap.1 h
  unfold lk1 at hx
  cases hf : fndA l x.a with
  | none => rw [hf] at hx; cases hx
  | some C =>
    rw [hf] at hx
    simp only at hx
    split at hx
    · rw [List.mem_singleton] at hx; subst hx; exact (fndA_some hf).1
    · cases hx
set_option maxRecDepth 100000 in
theorem lnk_len (l : List Ad) (A : Ad) : (lnk l A).length ≤ A.L.length := by
  unfold lnk
  generalize A.L = M
  induction M with
  | nil => simp
  | cons x M ih =>
    rw [List.flatMap_cons, List.length_append, List.length_cons]
    have : (lk1 l A x).length ≤ 1 := by
      unfold lk1
      cases fndA l x.a with
      | none => simp
      | some C => simp only; split <;> simp
    omega
set_option maxRecDepth 100000 in
theorem lnk_snoc {l : List Ad} {A : Ad} {k : Nat} {x : T3} (h : A.L[k]? = some x) : (A.L.take (k + 1)).flatMap (lk1 l A) = (A.L.take k).flatMap (lk1 l A) ++ lk1 l A x := by
  rw [List.take_add_one, h, List.flatMap_append]
  simp
def inS (S : List Int) (r : Int) : Bool := S.any (fun x => decide (x = r))
set_option maxRecDepth 100000 in
theorem inS_app (S T : List Int) (r : Int) : inS (S ++ T) r = (inS S r || inS T r) := by unfold inS; rw [List.any_append]
set_option maxRecDepth 100000 in
theorem inS_one (x r : Int) : inS [x] r = decide (x = r) := by unfold inS; simp
/-- One linked router is met: what has been reached, and what has still to be looked at. -/
def addA (st : List Int × List Ad) (B : Ad) : List Int × List Ad := if inS st.1 B.r = true then st else (st.1 ++ [B.r], st.2 ++ [B])
/-- How many adverts' routers have not been reached. -/
def unv (l : List Ad) (S : List Int) : Nat := (l.filter (fun A => !inS S A.r)).length
def bfs (l : List Ad) : Nat → List Int → List Ad → List Int
  | 0, S, _ => S
  | _ + 1, S, [] => S
  | n + 1, S, A :: W => bfs l n ((lnk l A).foldl addA (S, W)).1 ((lnk l A).foldl addA (S, W)).2
set_option maxRecDepth 100000 in
theorem bfs_nil (l : List Ad) (n : Nat) (S : List Int) : bfs l n S [] = S := by cases n <;> rfl
set_option maxRecDepth 100000 in
theorem unv_add {l : List Ad} (hp : l.Pairwise (fun A B => A.r < B.r)) {S : List Int} {B : Ad} (hB : B ∈ l) (h : inS S B.r = false) : unv l (S ++ [B.r]) + 1 = unv l S := by
  unfold unv
  induction l with
  | nil => cases hB
  | cons A t ih =>
    obtain ⟨h1, h2⟩ := List.pairwise_cons.1 hp
    rw [List.filter_cons, List.filter_cons, inS_app, inS_one]
    rcases List.mem_cons.1 hB with e | hB
    · subst e
      have hne : t.filter (fun A => !inS (S ++ [B.r]) A.r) = t.filter (fun A => !inS S A.r) := by
        refine List.filter_congr fun A hA => ?_
        have := h1 A hA
        rw [inS_app, inS_one, decide_eq_false (by omega), Bool.or_false]
      rw [hne, h]
      simp
    · have := h1 B hB
      rw [decide_eq_false (show ¬ B.r = A.r by omega), Bool.or_false]
      have ih := ih h2 hB
      cases inS S A.r
      · simp only [Bool.not_false, if_true, List.length_cons]; omega
      · simp only [Bool.not_true]; exact ih
set_option maxRecDepth 100000 in
theorem add_keep {l : List Ad} (hp : l.Pairwise (fun A B => A.r < B.r)) : ∀ (M : List Ad), (∀ B ∈ M, B ∈ l) → ∀ st : List Int × List Ad, unv l (M.foldl addA st).1 + (M.foldl addA st).2.length = unv l st.1 + st.2.length
  | [], _, st => rfl
  | B :: M, hM, st => by
    rw [List.foldl_cons, add_keep hp M (fun C hC => hM C (List.mem_cons_of_mem _ hC))]
    unfold addA
    split
    · rfl
    · rename_i h
      have := unv_add hp (S := st.1) (hM B List.mem_cons_self) (by simpa using h)
      simp only [List.length_append, List.length_singleton]
      omega
/-- The routers that are reached from one. -/
def reS (l : List Ad) (r : Int) : List Int := match fndA l r with
  | none => []
  | some A => bfs l (unv l [r] + 1) [r] [A]
set_option maxRecDepth 100000 in
theorem bfs_step {l : List Ad} (hp : l.Pairwise (fun A B => A.r < B.r)) {S : List Int} {A : Ad} {W : List Ad} : bfs l (unv l S + (A :: W).length) S (A :: W) = bfs l (unv l ((lnk l A).foldl addA (S, W)).1 + ((lnk l A).foldl addA (S, W)).2.length) ((lnk l A).foldl addA (S, W)).1 ((lnk l A).foldl addA (S, W)).2 := by
  rw [add_keep hp (lnk l A) (fun B hB => lnk_mem hB) (S, W)]
  show bfs l (unv l S + W.length + 1) S (A :: W) = _
  rw [bfs]
set_option maxRecDepth 100000 in
/-- What is to be looked at comes from the database. -/
theorem add_from {l : List Ad} : ∀ (M : List Ad), (∀ B ∈ M, B ∈ l) → ∀ st : List Int × List Ad, (∀ B ∈ st.2, B ∈ l) → ∀ B ∈ (M.foldl addA st).2, B ∈ l
  | [], _, st, h, B, hB => h B hB
  | C :: M, hM, st, h, B, hB => by
    rw [List.foldl_cons] at hB
    refine add_from M (fun D hD => hM D (List.mem_cons_of_mem _ hD)) (addA st C) (fun D hD => ?_) B hB
    unfold addA at hD
    split at hD
    · exact h D hD
    · rcases List.mem_append.1 hD with hD | hD
      · exact h D hD
      · rw [List.mem_singleton] at hD; subst hD; exact hM D List.mem_cons_self
/-- The link between two linked routers. -/
def btw (A B : Ad) : Lk := ⟨A.r, B.r, (rcV A B.r).b, (rcV B A.r).b, min (rcV A B.r).c (rcV B A.r).c⟩
def ltA (A B : Ad) : Bool := decide (A.r < B.r)
/-- The links of one router to greater ones. -/
def vL1 (l : List Ad) (A : Ad) : List Lk := ((lnk l A).filter (ltA A)).map (btw A)
def inV (S : List Int) (A : Ad) : Bool := inS S A.r
def toR (A : Ad) : Rt := ⟨A.r, A.cp⟩
def vwR (l : List Ad) (S : List Int) : List Rt := (l.filter (inV S)).map toR
def vwL (l : List Ad) (S : List Int) : List Lk := (l.filter (inV S)).flatMap (vL1 l)
/-- The view. -/
def viewV (l : List Ad) (r : Int) : List Rt × List Lk :=
  if okD l = true then (if chk (vwR l (reS l r)) (vwL l (reS l r)) = 0 then (vwR l (reS l r), vwL l (reS l r)) else ([], [])) else ([], [])
end Go.Proofs.Ytnpkihioklpnmaa

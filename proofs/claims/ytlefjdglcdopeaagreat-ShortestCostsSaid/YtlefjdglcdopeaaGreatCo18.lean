/- Parts of the proof, packed: ToArnM, ToLookR, ToArnd, ToRcp, ShTrM, ShReM, SzDis, ShRAt. -/
import Derived.Test.YtlefjdglcdopeaaGreatCo17
import Derived.Test.YtlefjdglcdopeaaGreatCo7
import Derived.Test.YtlefjdglcdopeaaGreatCo5
import Derived.Test.YtlefjdglcdopeaaGreatCo8
import Derived.Deep.AppendLies
import Derived.BigQuiet
import Derived.Test.YtlefjdglcdopeaaGreatCo13
import Derived.Test.YtlefjdglcdopeaaGreatCo11
import Derived.Test.YtlefjdglcdopeaaGreatCo16
import Derived.Test.YtlefjdglcdopeaaGreatCo3
import Derived.Deep.OwnRows
/- The reference's Around: the mathematics. -/
namespace Go.Proofs.YtlefjdglcdopeaaGreat
open Go.RowKit Bs
set_option maxRecDepth 100000 in
theorem insU_cons (a : Int) (t : List Int) (n : Int) : insU (a :: t) n = if a < n then a :: insU t n else if a = n then a :: t else n :: a :: t := by
  unfold insU
  by_cases h : a < n
  · rw [if_pos h]
    rw [List.takeWhile_cons, decide_eq_true h]
    simp only [if_true, List.length_cons, List.drop_succ_cons, List.cons_append]
    split <;> rfl
  · rw [if_neg h]
    rw [List.takeWhile_cons, decide_eq_false h]
    simp
set_option maxRecDepth 100000 in
theorem insU_spec (n : Int) : ∀ l : List Int, l.Pairwise (· < ·) → (insU l n).Pairwise (· < ·) ∧ ∀ x, x ∈ insU l n ↔ x = n ∨ x ∈ l
  | [], _ => by
    have : insU [] n = [n] := by simp [insU]
    rw [this]
    simp
  | a :: t, h => by
    obtain ⟨h1, h2⟩ := List.pairwise_cons.1 h
    obtain ⟨i1, i2⟩ := insU_spec n t h2
    rw [insU_cons]
    by_cases ha : a < n
    · rw [if_pos ha]
      refine ⟨List.pairwise_cons.2 ⟨fun y hy => ?_, i1⟩, fun x => ?_⟩
      · rcases (i2 y).1 hy with rfl | hy
        · exact ha
        · exact h1 y hy
      · rw [List.mem_cons, i2, List.mem_cons]
        constructor
        · rintro (h | h | h)
          · exact .inr (.inl h)
          · exact .inl h
          · exact .inr (.inr h)
        · rintro (h | h | h)
          · exact .inr (.inl h)
          · exact .inl h
          · exact .inr (.inr h)
    · rw [if_neg ha]
      by_cases e : a = n
      · rw [if_pos e]
        subst e
        exact ⟨h, fun x => by simp⟩
      · rw [if_neg e]
        refine ⟨List.pairwise_cons.2 ⟨fun y hy => ?_, h⟩, fun x => by simp⟩
        rcases List.mem_cons.1 hy with rfl | hy
        · omega
        · have := h1 y hy
          omega
def insO (O : List Int) : List Int := O.foldl insU []
set_option maxRecDepth 100000 in
theorem insO_take {O : List Int} {k : Nat} {x : Int} (h : O[k]? = some x) : insO (O.take (k + 1)) = insU (insO (O.take k)) x := by
  unfold insO
  rw [List.take_add_one, h, List.foldl_append]
  rfl
set_option maxRecDepth 100000 in
theorem foldl_insU (O : List Int) : ∀ l : List Int, l.Pairwise (· < ·) → (O.foldl insU l).Pairwise (· < ·) ∧ ∀ x, x ∈ O.foldl insU l ↔ x ∈ O ∨ x ∈ l := by
  induction O with
  | nil => intro l h; exact ⟨h, fun x => by simp⟩
  | cons a O ih =>
    intro l h
    obtain ⟨h1, h2⟩ := insU_spec a l h
    obtain ⟨i1, i2⟩ := ih _ h1
    refine ⟨i1, fun x => ?_⟩
    rw [List.foldl_cons, i2, h2, List.mem_cons]
    constructor
    · rintro (h | h | h)
      · exact .inl (.inr h)
      · exact .inl (.inl h)
      · exact .inr h
    · rintro ((h | h) | h)
      · exact .inr (.inl h)
      · exact .inl h
      · exact .inr (.inr h)
set_option maxRecDepth 100000 in
theorem insU_len (l : List Int) (n : Int) : (insU l n).length ≤ l.length + 1 := by
  induction l with
  | nil => simp [insU]
  | cons a t ih =>
    rw [insU_cons]
    split
    · simp; omega
    · split <;> simp
set_option maxRecDepth 100000 in
theorem insO_len (O : List Int) (k : Nat) : (insO (O.take k)).length ≤ k := by
  have : ∀ (O l : List Int), (O.foldl insU l).length ≤ O.length + l.length := by
    intro O
    induction O with
    | nil => intro l; simp
    | cons a O ih =>
      intro l
      have h1 := ih (insU l a)
      have h2 := insU_len l a
      rw [List.foldl_cons, List.length_cons]
      omega
  have h1 := this (O.take k) []
  rw [List.length_take] at h1
  unfold insO
  simp at h1
  omega
/-- While Around goes on: of the routers found i are gone through. -/
structure BF (L : List Lk) (r : Int) (O : List Int) (i : Nat) : Prop where
  nd : O.Nodup
  me : r ∈ O
  rc : ∀ x ∈ O, Rch L r x
  cl : ∀ j x, j < i → O[j]? = some x → ∀ y ∈ nbL L x, y ∈ O
set_option maxRecDepth 100000 in
theorem BF.start (L : List Lk) (r : Int) : BF L r [r] 0 := ⟨by simp, by simp, fun x hx => by rw [List.mem_singleton] at hx; subst hx; exact Rch.refl L _, fun j x h => by omega⟩
set_option maxRecDepth 100000 in
theorem BF.add {L : List Lk} {r x y : Int} {O : List Int} {i : Nat} (h : BF L r O i) (hi : i ≤ O.length) (hx : x ∈ O) (hy : y ∈ nbL L x) (hn : hasI O y = false) : BF L r (O ++ [y]) i := by
  refine ⟨nodup_snoc h.nd (hasI_not.1 hn), List.mem_append_left _ h.me, fun z hz => ?_, fun j z hj hz u hu => ?_⟩
  · rcases List.mem_append.1 hz with hz | hz
    · exact h.rc z hz
    · rw [List.mem_singleton] at hz
      subst hz
      exact Rch.step (h.rc x hx) hy
  · rw [List.getElem?_append_left (by omega)] at hz
    exact List.mem_append_left _ (h.cl j z hj hz u hu)
set_option maxRecDepth 100000 in
theorem BF.next {L : List Lk} {r x : Int} {O : List Int} {i : Nat} (h : BF L r O i) (hx : O[i]? = some x) (hy : ∀ y ∈ nbL L x, y ∈ O) : BF L r O (i + 1) :=
  ⟨h.nd, h.me, h.rc, fun j z hj hz u hu => by
    by_cases e : j < i
    · exact h.cl j z e hz u hu
    · obtain rfl : j = i := by omega
      rw [hx] at hz
      obtain rfl := Option.some.inj hz
      exact hy u hu⟩
set_option maxRecDepth 100000 in
theorem BF.len {R : List Rt} {L : List Lk} {r : Int} {O : List Int} {i : Nat} (hv : okT R L = true) (hr : ∃ x ∈ R, x.id = r) (h : BF L r O i) : O.length ≤ R.length := by
  have hp := pair_of_asc ltR ltR_trans R (okT_all hv).rs
  have hids : (R.map (·.id)).Nodup := by
    unfold List.Nodup
    rw [List.pairwise_map]
    exact hp.imp (fun h => by have := of_decide_eq_true h; omega)
  have hf : ((R.map (·.id)).filter (hasI O)).Nodup := hids.sublist List.filter_sublist
  have : O.Perm ((R.map (·.id)).filter (hasI O)) := (List.perm_ext_iff_of_nodup h.nd hf).2 (fun x => by
    rw [List.mem_filter, hasI_mem]
    constructor
    · intro hx
      obtain ⟨m, hm, e⟩ := reach_id hv hr (h.rc x hx)
      exact ⟨List.mem_map.2 ⟨m, hm, e⟩, hx⟩
    · exact fun hx => hx.2)
  rw [this.length_eq]
  exact Nat.le_trans (List.length_filter_le _ _) (by rw [List.length_map]; exact Nat.le_refl _)
set_option maxRecDepth 100000 in
theorem BF.done {R : List Rt} {L : List Lk} {r : Int} {O : List Int} (hv : okT R L = true) (hr : ∃ x ∈ R, x.id = r) (h : BF L r O O.length) : insO O = cls L r := by
  obtain ⟨x, hx, rfl⟩ := hr
  obtain ⟨n, en, hn⟩ := rt_nat hv hx
  obtain ⟨c1, c2⟩ := cls_spec (okT_near100 hv) hn
  rw [← en] at c1 c2
  obtain ⟨f1, f2⟩ := foldl_insU O [] List.Pairwise.nil
  refine eq_of_asc f1 c1 (fun y => ?_)
  show y ∈ O.foldl insU [] ↔ _
  rw [f2, c2]
  constructor
  · rintro (hy | hy)
    · exact h.rc y hy
    · cases hy
  · intro hy
    refine .inl (hy.into h.me (fun u hu v hv => ?_))
    obtain ⟨j, hj⟩ := List.mem_iff_getElem?.1 hu
    exact h.cl j u (List.getElem?_eq_some_iff.1 hj).1 hj v hv
end Go.Proofs.YtlefjdglcdopeaaGreat

/- The reference's Has, Capable, Price, Cost, Near, Neighbours. -/
namespace Go.Proofs.YtlefjdglcdopeaaGreat
open Go.RowKit Bs
set_option maxRecDepth 100000 in
theorem find_hit {α : Type} {p : α → Bool} : ∀ {l : List α} {k : Nat} {x : α}, (l.take k).any p = false → l[k]? = some x → p x = true → l.find? p = some x
  | [], k, x, _, h, _ => by cases h
  | a :: t, 0, x, _, h, hp => by
    obtain rfl : a = x := by simpa using h
    rw [List.find?_cons, hp]
  | a :: t, k + 1, x, hn, h, hp => by
    rw [List.take_succ_cons, List.any_cons, Bool.or_eq_false_iff] at hn
    rw [List.find?_cons, hn.1]
    exact find_hit hn.2 (by simpa using h) hp
set_option maxRecDepth 100000 in
theorem some_hit {α β : Type} {f : α → Option β} {l : List α} {k : Nat} {x : α} {y : β} (hn : (l.take k).findSome? f = none) (h : l[k]? = some x) (hy : f x = some y) : l.findSome? f = some y := by
  have hlt := (List.getElem?_eq_some_iff.1 h).1
  have e : l = l.take k ++ (x :: l.drop (k + 1)) := by
    have h2 := (List.getElem?_eq_some_iff.1 h).2
    rw [← h2, List.getElem_cons_drop, List.take_append_drop]
  rw [e, List.findSome?_append, hn, List.findSome?_cons, hy]
  rfl
set_option maxRecDepth 100000 in
theorem some_take {α β : Type} {f : α → Option β} {l : List α} {k : Nat} {x : α} (hn : (l.take k).findSome? f = none) (h : l[k]? = some x) (hy : f x = none) : (l.take (k + 1)).findSome? f = none := by
  rw [List.take_add_one, h, List.findSome?_append, hn]
  simp [hy]
set_option maxRecDepth 100000 in
set_option maxHeartbeats 1600000 in
theorem rhasV_any (T : Tg) (x : Int) (q : Nat → Prop) (w : World) (hT : TgOk w q T) :
    Calls Tryz.prog 21 #[.agg #[.slice T.pR T.R.length T.cR, .slice T.pL T.L.length T.cL], .int .i64 x] w fun e w' => e = .returned (.bool (hasV T.R T.L x)) ∧ w.grownBy w' none := by
  obtain ⟨R, L, pR, cR, pL, cL⟩ := T
  have hm1 := Nat.le_trans hT.cr.1 hT.cr.2
  have hm2 := Nat.le_trans hT.cl.1 hT.cl.2
  simp only at hm1 hm2 ⊢
  obtain ⟨k1, k2⟩ := tone_box w #[.slice pR R.length cR, .slice pL L.length cL] 28
  have HB := Lib.hid (And.intro k1 (And.intro k2 (hT.keep k2)))
  clear k1 k2 hT
  obtain ⟨z, hz⟩ : ∃ z, hasV R L x = z := ⟨_, rfl⟩
  rw [hz]
  have HZ := Lib.hid hz
  clear hz
  go_enter Tryz.func21, Tryz.ntmps21
  go_upto_region 1 with fail
  generalize w.alloc _ = wa at *
  obtain ⟨c0, c1⟩ := row_cells HB.out.1
  obtain ⟨X, hX⟩ : ∃ X, chk R L = X := ⟨_, rfl⟩
  have HX := Lib.hid hX
  have HO : Hid (okT R L = (X == 0)) := Lib.hid (by unfold okT; rw [hX])
  clear hX
  by_cases hx : X = 0
  · obtain rfl : hasR R x = z := by have := HZ.out; unfold hasV at this; rw [HO.out, hx] at this; simpa using this
    subst hx
    go_wp2_with fail
    refine (rcheck_any ⟨R, L, pR, cR, pL, cL⟩ _ wa HB.out.2.2).mono ?_
    rintro e w1 ⟨rfl, hg⟩
    simp only
    rw [HX.out]
    have HG := Lib.hid hg
    clear hg c0 c1
    obtain ⟨c0, c1⟩ := row_cells (kept_row HB.out.1 HG.out (by simp))
    go_wp2_with fail
    refine (rhas_any ⟨R, L, pR, cR, pL, cL⟩ x _ w1 (HB.out.2.2.keep HG.out)).mono ?_
    rintro e w2 ⟨rfl, hg⟩
    simp only
    have HG2 := Lib.hid (grown_trans HG.out hg)
    clear hg
    go_wp2_with fail
    go_ret
    exact ⟨rfl, grown_trans HB.out.2.1 HG2.out⟩
  · have hx1 : (X == 0) = false := by simpa using hx
    obtain rfl : false = z := by have := HZ.out; unfold hasV at this; rw [HO.out, hx1] at this; simpa using this
    go_wp2_with fail
    refine (rcheck_any ⟨R, L, pR, cR, pL, cL⟩ _ wa HB.out.2.2).mono ?_
    rintro e w1 ⟨rfl, hg⟩
    simp only
    rw [HX.out]
    have HG := Lib.hid hg
    clear hg c0 c1
    go_wp2_with fail
    go_ret
    exact ⟨rfl, grown_trans HB.out.2.1 HG.out⟩
end Go.Proofs.YtlefjdglcdopeaaGreat

/- The reference's Around. -/
namespace Go.Proofs.YtlefjdglcdopeaaGreat
open Go.RowKit Bs
/-- While the found routers are sorted. -/
def IR (w0 : World) (l : List Int) (v : Value) (wz : World) : Prop := ∃ p c, v = .slice p l.length c ∧ Rd wz (w0.heap.size ≤ ·) (.slice p l.length c) (l.map tv) ∧ (p = none → c = 0) ∧ (l.length ≤ c ∧ c ≤ 9223372036854775807) ∧ w0.grownBy wz none
set_option maxRecDepth 100000 in
theorem IR.nil (w0 : World) : IR w0 [] (.slice none 0 0) w0 := ⟨none, 0, rfl, ⟨none, 0, rfl, fun h => absurd rfl h⟩, fun _ => rfl, ⟨Nat.le_refl _, by show 0 ≤ _; omega⟩, grown_refl _ _⟩
/-- While the neighbours of one router are gone through: what its neighbours' list keeps. -/
structure BI (wr w5 : World) (vn : Value) (M : List Int) (v : Value) (wz : World) : Prop where
  rd : Rd wz (fun b => wr.heap.size ≤ b ∧ b < w5.heap.size) vn (M.map tv)
  ap : ∀ g, v.ownBlock = some g → g < wr.heap.size ∨ w5.heap.size ≤ g
  sz : w5.heap.size ≤ wz.heap.size
set_option maxRecDepth 100000 in
theorem BI.app {wr w5 wz w6 : World} {vn v : Value} {M : List Int} {o : Obj} {g n cap : Nat} (h : BI wr w5 vn M v wz) (hg : (wz.alloc o).grownBy w6 v.ownBlock) (hat : v.ownBlock = some g ∨ g = (wz.alloc o).heap.size) : BI wr w5 vn M (.slice (some ⟨g, 0, none⟩) n cap) w6 := by
  have k0 := World.grownBy_alloc wz o none
  have hs := h.sz
  have hs2 : (wz.alloc o).heap.size = wz.heap.size + 1 := by simp
  refine ⟨(h.rd.grown k0 (by simp)).grown hg (fun b hb e => ?_), fun g' e => ?_, Nat.le_trans hs (Nat.le_trans k0.size hg.size)⟩
  · have := h.ap b e.symm
    omega
  · have eg : g = g' := Option.some.inj e
    subst eg
    rcases hat with e2 | e2
    · exact h.ap g e2
    · omega
end Go.Proofs.YtlefjdglcdopeaaGreat

/- The reference's Components and Connected. -/
namespace Go.Proofs.YtlefjdglcdopeaaGreat
open Go.RowKit Bs
set_option maxRecDepth 100000 in
theorem CC.keep {w w' : World} {q : Nat → Prop} {x : Value} {C : List Int} (h : CC w q x C) (g : w.grownBy w' none) : CC w' q x C := by
  obtain ⟨p, c, e, hr, hc⟩ := h
  exact ⟨p, c, e, hr.grown g (by simp), hc⟩
/-- Rows of lists of numbers, while they grow. -/
structure RC (w0 : World) (Bs : Nat) (Cs : List (List Int)) (va : Value) (vals : List Value) (w : World) : Prop where
  row : w.ownsRow Bs 22 1 va vals.length vals
  len : vals.length = Cs.length
  at_ : ∀ (i : Nat) (C : List Int) (x : Value), Cs[i]? = some C → vals[i]? = some x → CC w (fun b => w0.heap.size ≤ b ∧ va.ownBlock ≠ some b) x C
  gr : w0.grownBy w none
  le : w0.heap.size ≤ Bs ∧ Bs ≤ w.heap.size
set_option maxRecDepth 100000 in
theorem RC.nil {w0 w : World} {Bs : Nat} (g : w0.grownBy w none) (h : w0.heap.size ≤ Bs) (h2 : Bs ≤ w.heap.size) : RC w0 Bs [] (.slice none 0 0) [] w :=
  ⟨World.ownsRow_nil _ _ _ _, rfl, fun i C x h _ => by simp at h, g, h, h2⟩
set_option maxRecDepth 100000 in
theorem RC.keep {w0 w w' : World} {Bs : Nat} {Cs : List (List Int)} {va : Value} {vals : List Value} (h : RC w0 Bs Cs va vals w) (g : w.grownBy w' none) : RC w0 Bs Cs va vals w' :=
  ⟨h.row.kept g (by cases hv : va.ownBlock <;> simp), h.len, fun i C x h1 h2 => by
    obtain ⟨p, c, e, hr, hc⟩ := h.at_ i C x h1 h2
    exact ⟨p, c, e, hr.grown g (by simp), hc⟩, grown_trans h.gr g, h.le.1, Nat.le_trans h.le.2 g.size⟩
set_option maxRecDepth 100000 in
theorem RC.app {w0 w w1 : World} {Bs : Nat} {va v' : Value} {Cs : List (List Int)} {C : List Int} {vals : List Value} {o : Obj} {g n cap : Nat} (h : RC w0 Bs Cs va vals w) (hv : CC w (fun b => w0.heap.size ≤ b ∧ va.ownBlock ≠ some b) v' C)
    (hown : w1.ownsRow Bs 22 1 (.slice (some ⟨g, 0, none⟩) n cap) (vals.length + 1) (vals ++ [v'])) (hg : (w.alloc o).grownBy w1 va.ownBlock) (hat : va.ownBlock = some g ∨ g = (w.alloc o).heap.size) :
    RC w0 Bs (Cs ++ [C]) (.slice (some ⟨g, 0, none⟩) n cap) (vals ++ [v']) w1 := by
  have k0 := World.grownBy_alloc w o none
  have hle := h.le
  have hne : ∀ b, b < Bs → some b ≠ va.ownBlock := fun b hb e => by
    have := (h.row.lt b e.symm).1
    omega
  have hk := h.keep k0
  have hsz : (w.alloc o).heap.size = w.heap.size + 1 := by simp
  have rd : ∀ (x : Value) (D : List Int), CC w (fun b => w0.heap.size ≤ b ∧ va.ownBlock ≠ some b) x D → CC w1 (fun b => w0.heap.size ≤ b ∧ (Value.slice (some ⟨g, 0, none⟩) n cap).ownBlock ≠ some b) x D := by
    rintro x D ⟨p, c, e, hr, hc⟩
    refine ⟨p, c, e, ?_, hc⟩
    refine Rd.mono ((hr.lt.grown k0 (by simp)).grown hg (fun b hb e => hb.1.2 e.symm)) (fun b hb => ⟨hb.1.1, fun e => ?_⟩)
    have eg : g = b := Option.some.inj e
    subst eg
    rcases hat with e2 | e2
    · exact hb.1.2 e2
    · have := hb.2
      omega
  refine ⟨?_, ?_, ?_, grown_any hk.gr hg (fun b hb => hne b (by omega)), hle.1, Nat.le_trans hk.le.2 hg.size⟩
  · rw [List.length_append]
    exact hown
  · rw [List.length_append, List.length_append, h.len]
    rfl
  · intro i D x h1 h2
    have hl := h.len
    by_cases hi : i < Cs.length
    · rw [List.getElem?_append_left hi] at h1
      rw [List.getElem?_append_left (by omega)] at h2
      exact rd x D (h.at_ i D x h1 h2)
    · rw [List.getElem?_append_right (by omega)] at h1 h2
      rw [hl] at h2
      by_cases hi2 : i - Cs.length = 0
      · rw [hi2] at h1 h2
        obtain rfl : C = D := by simpa using h1
        obtain rfl : v' = x := by simpa using h2
        exact rd _ _ hv
      · rw [List.getElem?_eq_none (by simp; omega)] at h1
        cases h1
set_option maxRecDepth 100000 in
theorem RC.ret {w0 w : World} {Bs : Nat} {va : Value} {Cs : List (List Int)} {vals : List Value} (h : RC w0 Bs Cs va vals w) : TCPost Cs w0 (.returned va) w := by
  have hle := h.le
  have hr := rd_of_own h.row
  have at2 : ∀ (i : Nat) (C : List Int) (x : Value), Cs[i]? = some C → vals[i]? = some x → CC w (w0.heap.size ≤ ·) x C := fun i C x h1 h2 => by
    obtain ⟨p, c, e, hr, hc⟩ := h.at_ i C x h1 h2
    exact ⟨p, c, e, hr.mono (fun b hb => hb.1), hc⟩
  have hro := h.row
  have hl := h.len
  rw [hl] at hro
  rcases Joins.ownsRow_forms hro with ⟨e, e0⟩ | ⟨g, cap, e⟩
  · subst e
    have hn : Cs.length = 0 := by omega
    refine ⟨none, 0, vals, by rw [hn], ?_, hl, ⟨by omega, by omega⟩, at2, h.gr⟩
    have h2 := hr.mono (q' := (w0.heap.size ≤ ·)) (fun b hb => by show _ ≤ b; omega)
    rw [hn]
    exact h2
  · subst e
    have := own_cap hro
    unfold maxLen at this
    exact ⟨_, cap, vals, rfl, hr.mono (fun b hb => by show _ ≤ b; omega), hl, ⟨this.1, by omega⟩, at2, h.gr⟩
set_option maxRecDepth 100000 in
theorem rcomps_take {R : List Rt} {L : List Lk} {k : Nat} {m : Rt} (h : R[k]? = some m) : rcomps (R.take (k + 1)) L = rcomps (R.take k) L ++ (if (cls L m.id).head? = some m.id then [cls L m.id] else []) := by
  unfold rcomps
  rw [List.take_add_one, h, List.filter_append, List.map_append]
  congr 1
  by_cases e : (cls L m.id).head? = some m.id <;> simp [e]
set_option maxRecDepth 100000 in
theorem rcomps_len (R : List Rt) (L : List Lk) : (rcomps R L).length ≤ R.length := by
  unfold rcomps
  rw [List.length_map]
  exact List.length_filter_le _ _
set_option maxRecDepth 100000 in
theorem conn_ref (R : List Rt) (L : List Lk) (a b : Int) : conn R L a b = (hasV R L a && (hasV R L b && hasI (cls L a) b)) := by
  cases hv : okT R L
  · unfold conn comps hasV
    rw [hv]
    rfl
  · rw [Bool.eq_iff_iff, conn_iff hv]
    unfold hasV
    rw [hv]
    simp only [Bool.true_and, Bool.and_eq_true]
    have hR : ∀ x, hasR R x = true ↔ ∃ r ∈ R, r.id = x := fun x => by
      unfold hasR
      rw [List.any_eq_true]
      simp
    rw [hR, hR, hasI_mem]
    constructor
    · rintro ⟨⟨r, hr, rfl⟩, h⟩
      obtain ⟨n, en, hn⟩ := rt_nat hv hr
      obtain ⟨-, e2⟩ := cls_spec (okT_near100 hv) hn
      rw [← en] at e2
      exact ⟨⟨r, hr, rfl⟩, reach_id hv ⟨r, hr, rfl⟩ h, (e2 b).2 h⟩
    · rintro ⟨⟨r, hr, rfl⟩, -, h⟩
      obtain ⟨n, en, hn⟩ := rt_nat hv hr
      obtain ⟨-, e2⟩ := cls_spec (okT_near100 hv) hn
      rw [← en] at e2
      exact ⟨⟨r, hr, rfl⟩, (e2 b).1 h⟩
end Go.Proofs.YtlefjdglcdopeaaGreat

/- The law ShortestTriangles: its mathematics; the tape's Any. -/
namespace Go.Proofs.YtlefjdglcdopeaaGreat
open Go.RowKit Go.Maps Bs
set_option maxRecDepth 100000 in
theorem rch_wk {L : List Lk} {x y : Int} : Rch L x y ↔ ∃ n, Wk L x y n := by
  constructor
  · intro h
    refine h (fun v => ∃ n, Wk L x v n) ⟨0, Wk.nil L x⟩ (fun u v ⟨n, hn⟩ hv => ?_)
    rw [← nbD_fst] at hv
    obtain ⟨⟨v', c⟩, hm, rfl⟩ := List.mem_map.1 hv
    exact ⟨n + c, hn.step (nbD_mem.1 hm)⟩
  · rintro ⟨n, hn⟩ P h0 hs
    exact Wk.ind (Q := fun v _ => P v) h0 (fun u m v c _ hu he => hs u v hu (by
      rw [← nbD_fst]
      exact List.mem_map.2 ⟨(v, c), nbD_mem.2 he, rfl⟩)) hn
set_option maxRecDepth 100000 in
theorem conn_dst {R : List Rt} {L : List Lk} {a b : Int} (h : hasV R L a = true) : (dst R L a b).isSome = conn R L a b := by
  obtain ⟨hok, ha⟩ := hasV_iff.1 h
  rw [Bool.eq_iff_iff, conn_iff hok]
  constructor
  · intro hs
    obtain ⟨d, hd⟩ := Option.isSome_iff_exists.1 hs
    exact ⟨List.mem_map.1 ha, rch_wk.2 ⟨d, (dst_some.1 hd).2.1⟩⟩
  · rintro ⟨-, hr⟩
    obtain ⟨n, hn⟩ := rch_wk.1 hr
    obtain ⟨d, hd, -⟩ := exists_D (okT_g hok).pos _ n (Nat.le_refl _) hn
    rw [dst_some.2 ⟨h, hd⟩]
    rfl
set_option maxRecDepth 100000 in
theorem dst_pos {R : List Rt} {L : List Lk} {a b d : Int} (h : dst R L a b = some d) (hab : a ≠ b) : 1 ≤ d := by
  obtain ⟨h1, h2⟩ := dst_some.1 h
  have hp := (okT_g (hasV_iff.1 h1).1).pos
  rcases h2.pred with ⟨e, -⟩ | ⟨u, x, c, hu, he, rfl⟩
  · exact absurd e.symm hab
  · have := hp.edg he
    have := hu.1.ge hp
    omega
set_option maxRecDepth 100000 in
theorem dst_edge {R : List Rt} {L : List Lk} {a b c : Int} (h : hasV R L a = true) (he : edg L a b c) : ∃ d, dst R L a b = some d ∧ d ≤ c := by
  have hp := (okT_g (hasV_iff.1 h).1).pos
  have hw := (Wk.nil L a).step he
  obtain ⟨d, hd, hle⟩ := exists_D hp _ _ (Nat.le_refl _) hw
  exact ⟨d, dst_some.2 ⟨h, hd⟩, by omega⟩
set_option maxRecDepth 100000 in
theorem Wk.trans {L : List Lk} {a b c m n : Int} (h : Wk L a b m) (k : Wk L b c n) : Wk L a c (m + n) :=
  Wk.ind (Q := fun x n => Wk L a x (m + n)) (by rw [Int.add_zero]; exact h) (fun u x v d _ hq he => by rw [← Int.add_assoc]; exact hq.step he) k
set_option maxRecDepth 100000 in
theorem dst_tri {R : List Rt} {L : List Lk} {a b c x y : Int} (h : dst R L a b = some x) (k : dst R L b c = some y) : ∃ d, dst R L a c = some d ∧ d ≤ x + y := by
  obtain ⟨h1, h2⟩ := dst_some.1 h
  obtain ⟨-, k2⟩ := dst_some.1 k
  have hp := (okT_g (hasV_iff.1 h1).1).pos
  obtain ⟨d, hd, hle⟩ := exists_D hp _ _ (Nat.le_refl _) (h2.1.trans k2.1)
  exact ⟨d, dst_some.2 ⟨h1, hd⟩, hle⟩
end Go.Proofs.YtlefjdglcdopeaaGreat

/- The reference's tables of costs and of numbers: the mathematics. -/
namespace Go.Proofs.YtlefjdglcdopeaaGreat
open Go.RowKit Bs
/-- The reference's costs to z after k rounds. -/
def toK (L : List Lk) (z : Int) (k : Nat) : Int → Int := passes (flipL L) k (startF z)
/-- After k rounds and j links. -/
def toJ (L : List Lk) (z : Int) (k j : Nat) : Int → Int := ((flipL L).take j).foldl rlx (toK L z k)
set_option maxRecDepth 100000 in
theorem toJ_zero (L : List Lk) (z : Int) (k : Nat) : toJ L z k 0 = toK L z k := rfl
set_option maxRecDepth 100000 in
theorem toJ_end (L : List Lk) (z : Int) (k : Nat) : toJ L z k L.length = toK L z (k + 1) := by
  unfold toJ
  rw [List.take_of_length_le (by unfold flipL; rw [List.length_map]; exact Nat.le_refl _)]
  rfl
set_option maxRecDepth 100000 in
theorem toJ_step {L : List Lk} {z : Int} {k j : Nat} {l : Lk} (h : L[j]? = some l) : toJ L z k (j + 1) = rlx1 (rlx1 (toJ L z k j) l.b l.a l.ca) l.a l.b l.cb := by
  unfold toJ
  have h1 : (flipL L)[j]? = some ⟨l.a, l.b, l.cb, l.ca, l.cp⟩ := by
    unfold flipL
    rw [List.getElem?_map, h]
    rfl
  rw [List.take_add_one, h1, List.foldl_append]
  rfl
set_option maxRecDepth 100000 in
theorem snd_toJ (L : List Lk) (z : Int) (k j : Nat) : Snd (flipL L) z (toJ L z k j) :=
  (fold_rlx ((flipL L).take j) (toK L z k) (fun _ h => List.mem_of_mem_take h) (snd_passes (flipL L) z k)).1
set_option maxRecDepth 100000 in
theorem Snd.bd {L : List Lk} (hp : Pos L) {z : Int} {D : Int → Int} (h : Snd L z D) (v : Int) : 0 ≤ D v ∧ D v ≤ farN := by
  rcases h v with h1 | h1
  · rw [h1]; decide
  · exact ⟨h1.2.ge hp, by omega⟩
set_option maxRecDepth 100000 in
theorem toJ_bd {R : List Rt} {L : List Lk} (h : okT R L = true) (z : Int) (k j : Nat) (v : Int) : 0 ≤ toJ L z k j v ∧ toJ L z k j v ≤ farN := (snd_toJ L z k j).bd (okT_g h).pos.flip v
/-- A row of numbers, one for each of V. -/
def clV (V : List Int) (D : Int → Int) : List Value := V.map fun v => tv (D v)
set_option maxRecDepth 100000 in
theorem clV_at {V : List Int} {D : Int → Int} {i : Nat} {v : Int} (h : V[i]? = some v) : (clV V D)[i]? = some (tv (D v)) := by
  unfold clV
  rw [List.getElem?_map, h]
  rfl
set_option maxRecDepth 100000 in
theorem clV_len (V : List Int) (D : Int → Int) : (clV V D).length = V.length := by unfold clV; rw [List.length_map]
set_option maxRecDepth 100000 in
theorem nodup_idx : ∀ (V : List Int), V.Nodup → ∀ (i j : Nat) (hi : i < V.length) (hj : j < V.length), V[i] = V[j] → i = j
  | [], _, _, _, hi, _, _ => absurd hi (Nat.not_lt_zero _)
  | a :: t, hn, i, j, hi, hj, e => by
    obtain ⟨h1, h2⟩ := List.nodup_cons.1 hn
    cases i with
    | zero =>
      cases j with
      | zero => rfl
      | succ j =>
        rw [List.getElem_cons_zero, List.getElem_cons_succ] at e
        exact absurd (by rw [e]; exact List.getElem_mem _) h1
    | succ i =>
      cases j with
      | zero =>
        rw [List.getElem_cons_zero, List.getElem_cons_succ] at e
        exact absurd (by rw [← e]; exact List.getElem_mem _) h1
      | succ j =>
        rw [List.getElem_cons_succ, List.getElem_cons_succ] at e
        rw [nodup_idx t h2 i j (by simpa using hi) (by simpa using hj) e]
set_option maxRecDepth 100000 in
theorem nodup_at {V : List Int} (hn : V.Nodup) {i j : Nat} {v : Int} (hi : V[i]? = some v) (hj : V[j]? = some v) : i = j := by
  obtain ⟨h1, e1⟩ := List.getElem?_eq_some_iff.1 hi
  obtain ⟨h2, e2⟩ := List.getElem?_eq_some_iff.1 hj
  exact nodup_idx V hn i j h1 h2 (e1.trans e2.symm)
set_option maxRecDepth 100000 in
theorem clV_set {V : List Int} (hn : V.Nodup) {i : Nat} {v : Int} (h : V[i]? = some v) (D : Int → Int) (x : Int) : (clV V D).set i (tv x) = clV V (updF D v x) := by
  apply List.ext_getElem?
  intro j
  rw [List.getElem?_set]
  by_cases hij : i = j
  · subst hij
    rw [if_pos rfl, clV_at h]
    have h1 : i < (clV V D).length := by rw [clV_len]; exact (List.getElem?_eq_some_iff.1 h).1
    rw [if_pos h1]
    unfold updF
    rw [if_pos rfl]
  · rw [if_neg hij]
    unfold clV
    rw [List.getElem?_map, List.getElem?_map]
    cases hj : V[j]? with
    | none => rfl
    | some u =>
      have hne : u ≠ v := fun e => hij (nodup_at hn h (by rw [hj, e]))
      show some (tv (D u)) = some (tv (updF D v x u))
      rw [show updF D v x u = D u by unfold updF; rw [if_neg hne]]
set_option maxRecDepth 100000 in
theorem updF_self (D : Int → Int) (v : Int) : updF D v (D v) = D := by
  funext u
  unfold updF
  by_cases h : u = v
  · rw [if_pos h, h]
  · rw [if_neg h]
/-- What At gives. -/
def atV (R : List Rt) (D : Int → Int) (r : Int) : Int := if r ∈ ids R then D r else farN
set_option maxRecDepth 100000 in
theorem at_dst {R : List Rt} {L : List Lk} {z : Int} (hz : hasV R L z = true) (r : Int) : atV R (toK L z R.length) r = (dst R L r z).getD farN := by
  obtain ⟨hok, hzi⟩ := hasV_iff.1 hz
  have hg := okT_g hok
  have hlen : (ids R).length = R.length := by unfold ids; rw [List.length_map]
  have key := passes_D hg.pos.flip hg.ends.flip (C := 1000) (fun m hm => by
    obtain ⟨l, hl, rfl⟩ := List.mem_map.1 hm
    exact ⟨(hg.le l hl).2, (hg.le l hl).1⟩) (by decide) (by have := hg.len.1; unfold farN; omega) (s := z)
  rw [hlen] at key
  unfold atV
  by_cases hr : r ∈ ids R
  · rw [if_pos hr]
    cases hd : dst R L r z with
    | some d =>
      exact ((key r d).2 (IsD.flip.2 (dst_some.1 hd).2)).1
    | none =>
      rcases snd_passes (flipL L) z R.length r with h1 | h1
      · exact h1
      · have h2 := (key r _).1 ⟨rfl, h1.1⟩
        rw [dst_some.2 ⟨hasV_iff.2 ⟨hok, hr⟩, IsD.flip.1 h2⟩] at hd
        cases hd
  · rw [if_neg hr]
    cases hd : dst R L r z with
    | some d => exact absurd (dst_both hd).2.1 hr
    | none => rfl
/-- Does the way over u cost x? -/
def okS (R : List Rt) (L : List Lk) (D : Int → Int) (x r u : Int) : Bool := decide (atV R D u < farN) && decide ((priceV L r u).1 + atV R D u = x)
/-- The reference's Steps. -/
def stV (R : List Rt) (L : List Lk) (D : Int → Int) (r : Int) : List Int := if atV R D r = farN ∨ atV R D r = 0 then [] else (nearR R L r).filter (okS R L D (atV R D r) r)
set_option maxRecDepth 100000 in
theorem filter_fst {P : Int × Int → Bool} {Q : Int → Bool} : ∀ (M : List (Int × Int)), (∀ n ∈ M, P n = Q n.1) → (M.filter P).map (·.1) = (M.map (·.1)).filter Q
  | [], _ => rfl
  | n :: t, h => by
    have ih := filter_fst t (fun m hm => h m (by simp [hm]))
    rw [List.map_cons, List.filter_cons, List.filter_cons, ← h n (by simp)]
    by_cases hp : P n = true
    · rw [if_pos hp, if_pos hp, List.map_cons, ih]
    · rw [if_neg hp, if_neg hp, ih]
set_option maxRecDepth 100000 in
theorem stV_nxt {R : List Rt} {L : List Lk} {z : Int} (hz : hasV R L z = true) (r : Int) : stV R L (toK L z R.length) r = nxt R L r z := by
  obtain ⟨hok, hzi⟩ := hasV_iff.1 hz
  have hg := okT_g hok
  have hf0 : ∀ v x, dst R L v z = some x → 0 ≤ x := fun v x h => (dst_bd h).1.1
  unfold stV
  rw [at_dst hz r]
  cases hd : dst R L r z with
  | none =>
    rw [if_pos (.inl rfl)]
    exact (next_none hg.pos (f := fun x => dst R L x z) hf0 hd).symm
  | some d =>
    have hdb := (dst_bd hd).1
    simp only [Option.getD_some]
    by_cases h0 : d = 0
    · rw [if_pos (.inr h0)]
      rw [h0] at hd
      exact (next_end hg.pos (f := fun x => dst R L x z) hf0 hd).symm
    · rw [if_neg (by rintro (h | h); · unfold farN at h; omega
                     · exact h0 h)]
      unfold nxt nextV
      rw [filter_fst (Q := okS R L (toK L z R.length) d r), nbD_fst, near_eq (okT_all hok)]
      rintro ⟨u, c⟩ hm
      have he := nbD_mem.1 hm
      show (match dst R L u z with
        | some x => decide (c + x = (dst R L r z).getD 0)
        | none => false) = okS R L (toK L z R.length) d r u
      rw [show (dst R L r z).getD 0 = d by rw [hd]; rfl]
      unfold okS
      rw [at_dst hz u, price_edg hok he]
      cases hu : dst R L u z with
      | none =>
        simp only [Option.getD_none]
        rw [show decide (farN < farN) = false from rfl]
        rfl
      | some y =>
        have hy := (dst_bd hu).1
        simp only [Option.getD_some]
        rw [show decide (y < farN) = true from decide_eq_true (by unfold farN; omega)]
        rfl
/-! Numbers of paths. -/
set_option maxRecDepth 100000 in
theorem rkN_lt {R : List Rt} {L : List Lk} {z : Int} (hz : hasV R L z = true) (r : Int) : rkN R L z r < (ids R).length := by
  obtain ⟨hok, hzi⟩ := hasV_iff.1 hz
  by_cases hr : r ∈ ids R
  · have := rkN_self (L := L) (z := z) hok hr
    omega
  · have h0 : rkN R L z r = 0 := by
      unfold rkN
      rw [List.filter_eq_nil_iff.2]
      · rfl
      · intro v _ hv
        obtain ⟨x, d, -, h2, -⟩ := nearB_iff.1 hv
        exact hr (dst_both h2).2.1
    have := List.length_pos_of_mem hzi
    omega
set_option maxRecDepth 100000 in
theorem itC_cnt {R : List Rt} {L : List Lk} {z : Int} (hz : hasV R L z = true) (r : Int) : itC (fun r => nxt R L r z) z R.length r = cnt R L z r := by
  have hlen : (ids R).length = R.length := by unfold ids; rw [List.length_map]
  refine cnt_uniq (m := rkN R L z) (next := fun r => nxt R L r z) (z := z) (fun r u hu => rkN_step hu) (fun r => ?_) (fun r => cnt_rule R L z r) r
  exact itC_fix (m := rkN R L z) (fun r u hu => rkN_step hu) (fun r => by rw [← hlen]; exact rkN_lt hz r) r
set_option maxRecDepth 100000 in
theorem cnt_pV {R : List Rt} {L : List Lk} {a z : Int} (hz : hasV R L z = true) : cnt R L z a = pV R L a z := by
  unfold pV
  cases hd : dst R L a z with
  | some d => rfl
  | none =>
    have hne : a ≠ z := fun e => by rw [e, dst_self hz] at hd; cases hd
    have hn : nxt R L a z = [] := next_none (okT_g (hasV_iff.1 hz).1).pos (f := fun x => dst R L x z) (fun v x h => (dst_bd h).1.1) hd
    rw [if_neg (by simp), cnt_rule]
    unfold cntS
    rw [if_neg hne]
    simp only
    rw [hn]
    rfl
set_option maxRecDepth 100000 in
theorem pV_no {R : List Rt} {L : List Lk} {a z : Int} (h : hasV R L a = false ∨ hasV R L z = false) : pV R L a z = 0 := by
  unfold pV
  cases hd : dst R L a z with
  | none => rfl
  | some d =>
    obtain ⟨h1, h2, h3⟩ := dst_both hd
    rcases h with h | h
    · rw [hasV_iff.2 ⟨h1, h2⟩] at h; cases h
    · rw [hasV_iff.2 ⟨h1, h3⟩] at h; cases h
set_option maxRecDepth 100000 in
theorem nxt_no {R : List Rt} {L : List Lk} {a z : Int} (h : hasV R L a = false ∨ hasV R L z = false) : nxt R L a z = [] := by
  cases hn : nxt R L a z with
  | nil => rfl
  | cons u t =>
    obtain ⟨d, x, c, hd, -⟩ := nxt_step (R := R) (L := L) (r := a) (z := z) (u := u) (by rw [hn]; simp)
    obtain ⟨h1, h2, h3⟩ := dst_both hd
    rcases h with h | h
    · rw [hasV_iff.2 ⟨h1, h2⟩] at h; cases h
    · rw [hasV_iff.2 ⟨h1, h3⟩] at h; cases h
set_option maxRecDepth 100000 in
theorem rtV_no {R : List Rt} {L : List Lk} {a z : Int} (h : hasV R L a = false ∨ hasV R L z = false) : rtV R L z a = [] := rtV_stop (nxt_no h)
/-! Uses and Avoids. -/
/-- The reference's Uses. -/
noncomputable def ruV (R : List Rt) (L : List Lk) (a b h k : Int) : Bool := (costV R L h k).2 && ((dst R L a b).isSome && ((dst R L a h).isSome && ((dst R L k b).isSome && decide ((dst R L a h).getD 0 + (costV R L h k).1 + (dst R L k b).getD 0 = (dst R L a b).getD 0))))
set_option maxRecDepth 100000 in
theorem ru_us (R : List Rt) (L : List Lk) (a b h k : Int) : ruV R L a b h k = usV R L a b h k := by
  rw [Bool.eq_iff_iff]
  unfold ruV usV psV costV
  simp only [Bool.and_eq_true, decide_eq_true_eq]
  constructor
  · rintro ⟨h1, h2, h3, h4, h5⟩
    cases hok : okT R L with
    | false => rw [hok] at h1; simp at h1
    | true =>
      rw [hok] at h1 h5
      simp only [if_true] at h1 h5
      obtain ⟨d, hd⟩ := Option.isSome_iff_exists.1 h2
      obtain ⟨x, hx⟩ := Option.isSome_iff_exists.1 h3
      obtain ⟨y, hy⟩ := Option.isSome_iff_exists.1 h4
      rw [hd, hx, hy] at h5
      simp only [Option.getD_some] at h5
      have he := price_ed2 hok (u := h) (v := k) (c := (priceV L h k).1) (Prod.ext rfl h1)
      have hh := (dst_both hx).2.2
      obtain ⟨e, hde, hle⟩ := dst_edge (hasV_iff.2 ⟨hok, hh⟩) he
      obtain ⟨f, hf, hfle⟩ := dst_tri hde hy
      obtain ⟨g, hg, hgle⟩ := dst_tri hx hf
      rw [hd] at hg
      obtain rfl := Option.some.inj hg
      rw [hx, hf, hd]
      simp only [Option.getD_some, decide_eq_true_eq]
      refine ⟨by omega, ?_⟩
      rw [hasI_mq, nxt_mem]
      exact ⟨_, y, he, hy, by rw [hf]; simp only [Option.getD_some]; omega⟩
  · rintro ⟨h1, h2⟩
    rw [hasI_mq, nxt_mem] at h2
    obtain ⟨c, y, he, hy, hcy⟩ := h2
    cases hx : dst R L a h with
    | none => rw [hx] at h1; cases h1
    | some x =>
      cases hf : dst R L h b with
      | none => rw [hx, hf] at h1; cases h1
      | some f =>
        rw [hx, hf] at h1
        rw [hf] at hcy
        simp only [Option.getD_some, decide_eq_true_eq] at h1 hcy
        have hok := (dst_both hx).1
        obtain ⟨g, hg, hgle⟩ := dst_tri hx hf
        rw [hg] at h1 ⊢
        simp only [Option.getD_some] at h1 ⊢
        rw [hok, hy, price_edg hok he]
        simp only [Option.isSome_some, Option.getD_some, if_true, true_and]
        omega
/-- The reference's Avoids. -/
noncomputable def raV (R : List Rt) (L : List Lk) (a b r : Int) : Bool := (dst R L a b).isSome && (!(dst R L a r).isSome || (!(dst R L r b).isSome || !decide ((dst R L a r).getD 0 + (dst R L r b).getD 0 = (dst R L a b).getD 0)))
set_option maxRecDepth 100000 in
theorem ra_av (R : List Rt) (L : List Lk) (a b r : Int) : raV R L a b r = avV R L a b r := by
  unfold raV avV psV
  cases hx : dst R L a r with
  | none => simp
  | some x =>
    cases hy : dst R L r b with
    | none => simp
    | some y => simp
end Go.Proofs.YtlefjdglcdopeaaGreat

/- shortest.Distances. -/
namespace Go.Proofs.YtlefjdglcdopeaaGreat
open Go.RowKit Go.Maps Bs
/-- The distances from a. -/
noncomputable def disF (f : Int → Option Int) (l : List Int) : List (Int × Int) := l.map fun x => (x, (f x).getD 0)
noncomputable def disL (R : List Rt) (L : List Lk) (a : Int) : List (Int × Int) := disF (dst R L a) ((ids R).filter fun x => (dst R L a x).isSome)
set_option maxRecDepth 100000 in
theorem asc_ids {R : List Rt} {L : List Lk} {a : Int} {ts : List Int} (h : AscK (dst R L a) ts) : ts = (ids R).filter fun x => (dst R L a x).isSome := by
  cases hz : hasV R L a with
  | false =>
    have h1 : ts = [] := by
      cases ts with
      | nil => rfl
      | cons x t =>
        have := (h.mem x).1 (by simp)
        rw [dst_no hz x] at this
        cases this
    rw [h1, List.filter_eq_nil_iff.2]
    intro x _ hx
    rw [dst_no hz x] at hx
    cases hx
  | true =>
    refine eq_of_asc h.asc ((ids_pair (hasV_iff.1 hz).1).sublist List.filter_sublist) (fun x => ?_)
    rw [h.mem, List.mem_filter]
    constructor
    · intro hx
      obtain ⟨d, hd⟩ := Option.isSome_iff_exists.1 hx
      exact ⟨(dst_both hd).2.2, hx⟩
    · exact fun hx => hx.2
set_option maxRecDepth 100000 in
theorem disF_snoc {f : Int → Option Int} {l : List Int} {k : Nat} {x : Int} (h : l[k]? = some x) : disF f (l.take (k + 1)) = disF f (l.take k) ++ [(x, (f x).getD 0)] := by
  unfold disF
  rw [List.take_add_one, h, List.map_append]
  rfl
set_option maxRecDepth 100000 in
set_option maxHeartbeats 6400000 in
theorem tdis_any (T : Tg) (a : Int) (q : Nat → Prop) (w : World) (hT : TgOk w q T) (h1 : T.R.length ≤ 1000) (h2 : T.L.length ≤ 1000) :
    Calls Tryz.prog 7 #[.agg #[.slice T.pR T.R.length T.cR, .slice T.pL T.L.length T.cL], .int .i64 a] w fun e w' => TRetD (disL T.R T.L a) w e w' := by
  obtain ⟨i0, hi, hz0, hz1, hz2⟩ := info_parts info_dst
  obtain ⟨R, L, pR, cR, pL, cL⟩ := T
  simp only at h1 h2 ⊢
  obtain ⟨k1, k2⟩ := tone_box w #[.slice pR R.length cR, .slice pL L.length cL] 28
  have HB := Lib.hid (And.intro k1 (And.intro k2 (hT.keep k2)))
  clear k1 k2 hT
  obtain ⟨c0, c1⟩ := row_cells HB.out.1
  obtain ⟨X, hX⟩ : ∃ X, disL R L a = X := ⟨_, rfl⟩
  have HX := Lib.hid hX
  rw [hX]
  clear hX
  go_enter Tryz.func7, Tryz.ntmps7
  go_wp2_with fail
  refine (tcg_any ⟨R, L, pR, cR, pL, cL⟩ a _ _ HB.out.2.2 h1 h2).mono ?_
  rintro e w1 ⟨v, rfl, hv, hg⟩
  (try simp only at hv)
  obtain ⟨mb, rfl⟩ : ∃ mb, v = .map mb := by
    rcases hv with ⟨-, h, -⟩ | ⟨-, b, n, h, -⟩ <;> exact ⟨_, h⟩
  have HW1 := Lib.hid (grown_trans HB.out.2.1 hg)
  have HV1 := Lib.hid hv
  clear hv hg c0 c1 HB
  go_wp2_with fail
  refine (tkeys_any mb w1).mono ?_
  rintro e w4 ⟨rfl, hw4⟩
  have hb4 := heap_alloc_new w1 (.cells #[.map mb] 51)
  have hg4 := World.grownBy_alloc w1 (.cells #[.map mb] 51) none
  rw [← hw4] at hb4 hg4
  have hz4 : w1.heap.size < w4.heap.size := by rw [hw4]; simp
  have HW4 := Lib.hid (And.intro hb4 (And.intro hg4 hz4))
  clear hw4 hb4 hg4 hz4
  go_wp2_with fail
  refine (tkz_any (dst R L a) (hasV R L a) (.map mb) _ w1.heap.size w4 (by rw [cell_of_row _ _ _ _ _ _ HW4.out.1]; rfl) HW4.out.2.2 (HV1.out.keep HW4.out.2.1)).mono ?_
  rintro e w5 ⟨vs, ts, rfl, hS, hrow, hg5⟩
  obtain ⟨ps, cs, rfl, hcs1, hcs2⟩ := own_shape hrow
  have hts := asc_ids hS
  have hlen : ts.length ≤ 1000 := by rw [hts]; exact Nat.le_trans (List.length_filter_le _ _) (by unfold ids; rw [List.length_map]; exact h1)
  have HTS : Hid (X = disF (dst R L a) ts ∧ ∀ x ∈ ts, (dst R L a x).isSome = true) := Lib.hid ⟨by rw [← HX.out, hts]; rfl, fun x hx => (hS.mem x).1 hx⟩
  have HR5 : Hid (Rd w5 (fun _ => True) (.slice ps ts.length cs) (ts.map tv)) := Lib.hid ((rd_of_own hrow).mono (fun _ _ => trivial))
  have HV5 := Lib.hid ((HV1.out.keep HW4.out.2.1).keep hg5)
  have HW5 := Lib.hid (grown_trans (grown_trans HW1.out HW4.out.2.1) hg5)
  have HDB : Hid (∀ x d, dst R L a x = some d → (0 ≤ d ∧ d ≤ 24000) ∧ 1 ≤ x ∧ x ≤ 99) := Lib.hid (fun x d h => ⟨(dst_bd h).1, (dst_bd h).2.2⟩)
  obtain ⟨f, hf⟩ : ∃ f, dst R L a = f := ⟨_, rfl⟩
  rw [hf] at HTS HV5 HDB
  have N0 : Hid (ND w5 (.slice none 0 0) (disF f (ts.take 0)) w5) := Lib.hid ⟨World.ownsRow_nil _ _ _ _, grown_refl _ _⟩
  clear hS hrow hg5 hts HV1 HW1 HW4 hf
  go_wp2_with fail
  go_loopw [6, 16] (fun vo a wr => ∃ (k : Nat) (va : Value), va = vo ∧ k ≤ ts.length ∧ a = .int .i64 (k : Int) ∧ Hid (ND w5 va (disF f (ts.take k)) wr)) (fun _ a _ => ts.length - (RowKit.intOf a).toNat)
  case atStart => exact ⟨0, _, rfl, Nat.zero_le _, rfl, N0⟩
  case round =>
    obtain ⟨w6, rfl⟩ : ∃ w6, w6 = wr := ⟨_, rfl⟩
    obtain ⟨k, va, rfl, hk, rfl, NN⟩ := hrel
    clear N0
    by_cases hlt : k < ts.length
    · obtain ⟨-, b, off, rfl, -, hc⟩ := rdi_at (HR5.out.keep NN.out.gr) (by omega)
      obtain ⟨x, hx⟩ : ∃ x, ts[k]? = some x := ⟨_, List.getElem?_eq_getElem hlt⟩
      have d0 := hc k x hx
      obtain ⟨d, hd⟩ := Option.isSome_iff_exists.1 (HTS.out.2 x (List.mem_of_getElem? hx))
      have hdb := HDB.out x d hd
      have q1 := ((HV5.out.keep NN.out.gr).look (x := x) (by unfold I64; omega)).1
      rw [hd] at q1
      simp only [Option.getD_some] at q1
      have HS : Hid (disF f (ts.take (k + 1)) = disF f (ts.take k) ++ [(x, d)]) := Lib.hid (by have := disF_snoc (f := f) hx; rw [hd] at this; exact this)
      obtain ⟨M, hM⟩ : ∃ M, disF f (ts.take k) = M := ⟨_, rfl⟩
      have hMl : M.length ≤ 1000 := by rw [← hM]; unfold disF; rw [List.length_map, List.length_take]; omega
      rw [hM] at NN HS
      have hown := NN.out.own
      have hsz := NN.out.gr.size
      clear hc hx hd hM
      go_wp2_with (at_builtin; refine hold_on ?_)
      refine Lib.hid ?_
      refine wpList_append_lies _ rfl _ _ 31 rfl w5.heap.size 34 i0 (.agg #[.int .i64 0, .int .i64 0]) 2 16 Tryz.underlying31 hi hz0 hz1 hz2 rfl (by decide) _ _ _ rfl (hown.alloc _) ⟨w6.heap.size, 0, none⟩ 1 1 [.int .i64 x, .int .i64 d] rfl rfl ?c1 ?c2 (by decide) ?c3 ?c4 ?c5 _ rfl ?_
      try (case c1 => exact cells2 _ _ _ _)
      case c2 => (intro u hu; simp at hu; rcases hu with rfl | rfl <;> rfl)
      case c3 => first | omega | (unfold maxLen; omega)
      case c4 => omega
      case c5 => first | omega | (simp; omega)
      intro gq capq w8 hown8 hg8 hat8 hlt8
      obtain ⟨vq, hvq⟩ : ∃ vq, Value.slice (some ⟨gq, 0, none⟩) (M.length + 1) capq = vq := ⟨_, rfl⟩
      rw [hvq] at hown8 ⊢
      obtain ⟨n1, -⟩ := NN.out.more (x := (x, d)) (grown_refl _ _) hown8 hg8
      have N1 : Hid (ND w5 vq (disF f (ts.take (k + 1))) w8) := Lib.hid (by rw [HS.out]; exact n1)
      clear hvq hat8 hlt8 hg8 hown n1 hown8
      go_wp2_with fail
      exact ⟨⟨k + 1, _, rfl, by omega, congrArg _ (by omega), N1⟩, by simp only [RowKit.intOf]; omega⟩
    · obtain rfl : k = ts.length := by omega
      have hN := NN.out
      rw [List.take_length, ← HTS.out.1] at hN
      have H9 : Hid (w6.ownsRow w.heap.size 34 2 va X.length (X.flatMap dsC) ∧ w.grownBy w6 none) := Lib.hid ⟨hN.own.mono HW5.out.size, grown_trans HW5.out hN.gr⟩
      clear hN NN
      go_wp2_with fail
      go_ret
      exact ⟨_, rfl, H9.out⟩
end Go.Proofs.YtlefjdglcdopeaaGreat

/- The reference's place and At; a row of costs of the call's own. -/
namespace Go.Proofs.YtlefjdglcdopeaaGreat
open Go.RowKit Bs
set_option maxRecDepth 100000 in
theorem ids_len (R : List Rt) : (ids R).length = R.length := by unfold ids; rw [List.length_map]
set_option maxRecDepth 100000 in
theorem ids_at {R : List Rt} {k : Nat} {y : Rt} (h : R[k]? = some y) : (ids R)[k]? = some y.id := by unfold ids; rw [List.getElem?_map, h]; rfl
set_option maxRecDepth 100000 in
theorem ids_nodup {R : List Rt} {L : List Lk} (h : okT R L = true) : (ids R).Nodup := nodup_of_lt (ids_pair h)
set_option maxRecDepth 100000 in
set_option maxHeartbeats 1600000 in
theorem rplace_any (T : Tg) (x : Int) (i : Nat) (q : Nat → Prop) (w : World) (hT : TgOk w q T) (hi : (ids T.R)[i]? = some x) (hn : (ids T.R).Nodup) :
    Calls Tryz.prog 41 #[.agg #[.slice T.pR T.R.length T.cR, .slice T.pL T.L.length T.cL], .int .i64 x] w fun e w' => e = .returned (.int .i64 (i : Int)) ∧ w.grownBy w' none := by
  have C0 := Lib.hid (CK.start hT)
  have hmR := Nat.le_trans hT.cr.1 hT.cr.2
  clear hT
  obtain ⟨R, L, pR, cR, pL, cL⟩ := T
  simp only at hmR C0 hi hn ⊢
  have HI := Lib.hid (And.intro hi hn)
  have hil : i < R.length := by have := (List.getElem?_eq_some_iff.1 hi).1; rwa [ids_len] at this
  clear hi hn
  go_enter Tryz.func41, Tryz.ntmps41
  go_upto_region 1 with fail
  generalize w.alloc _ = wa at *
  go_wp2_with fail
  go_loopw [5] (fun a wr => ∃ k : Nat, k ≤ i ∧ a = .int .i64 (k : Int) ∧ Hid (CK w ⟨R, L, pR, cR, pL, cL⟩ wr)) (fun a _ => R.length - (RowKit.intOf a).toNat)
  case atStart => exact ⟨0, Nat.zero_le _, rfl, C0⟩
  case round =>
    obtain ⟨k, hk, rfl, C⟩ := hrel
    clear C0
    obtain ⟨c0, c1⟩ := row_cells C.out.box
    have hlt : k < R.length := by omega
    obtain ⟨b, off, hp⟩ := ck_pr C.out (show 0 < R.length by omega)
    change pR = _ at hp
    subst hp
    obtain ⟨y, hy⟩ : ∃ y, R[k]? = some y := ⟨_, List.getElem?_eq_getElem hlt⟩
    obtain ⟨a0, a1⟩ := ck_rt C.out hy
    have hyi := ids_at hy
    by_cases e : k = i
    · subst e
      have e1 : y.id = x := by have := HI.out.1; rw [hyi] at this; exact Option.some.inj this
      have e' : (y.id == x) = true := by simpa using e1
      clear hy hyi e1
      go_wp2_with fail
      go_ret
      exact ⟨rfl, C.out.gr⟩
    · have e' : (y.id == x) = false := by
        rw [beq_eq_false_iff_ne]
        intro e1
        exact e (nodup_at HI.out.2 (by rw [hyi, e1]) HI.out.1)
      clear hy hyi
      go_wp2_with fail
      exact ⟨⟨k + 1, by omega, congrArg _ (by omega), C⟩, by simp only [RowKit.intOf]; omega⟩
set_option maxRecDepth 100000 in
set_option maxHeartbeats 1600000 in
theorem rat_any (T : Tg) (D : Int → Int) (x : Int) (A : List Int) (pd : Option Addr) (cd : Nat) (q q2 : Nat → Prop) (w : World) (hT : TgOk w q T) (hA : A = (ids T.R).map D) (hD : Rd w q2 (.slice pd A.length cd) (A.map tv)) :
    Calls Tryz.prog 22 #[.agg #[.slice T.pR T.R.length T.cR, .slice T.pL T.L.length T.cL], .slice pd A.length cd, .int .i64 x] w fun e w' => e = .returned (.int .i64 (atV T.R D x)) ∧ w.grownBy w' none := by
  have C0 := Lib.hid (CK.start hT)
  have HD := Lib.hid hD
  have hmR := Nat.le_trans hT.cr.1 hT.cr.2
  clear hT hD
  obtain ⟨R, L, pR, cR, pL, cL⟩ := T
  simp only at hmR C0 hA ⊢
  have hAl : A.length = R.length := by rw [hA, List.length_map, ids_len]
  have HA := Lib.hid hA
  clear hA
  go_enter Tryz.func22, Tryz.ntmps22
  go_upto_region 1 with fail
  generalize w.alloc _ = wa at *
  go_wp2_with fail
  go_loopw [7] (fun a wr => ∃ k : Nat, k ≤ R.length ∧ a = .int .i64 (k : Int) ∧ Hid (CK w ⟨R, L, pR, cR, pL, cL⟩ wr) ∧ Hid ((R.take k).any (fun r => decide (r.id = x)) = false)) (fun a _ => R.length - (RowKit.intOf a).toNat)
  case atStart => exact ⟨0, Nat.zero_le _, rfl, C0, Lib.hid rfl⟩
  case round =>
    obtain ⟨k, hk, rfl, C, HN⟩ := hrel
    clear C0
    obtain ⟨c0, c1⟩ := row_cells C.out.box
    by_cases hlt : k < R.length
    · obtain ⟨b, off, hp⟩ := ck_pr C.out (show 0 < R.length by omega)
      change pR = _ at hp
      subst hp
      obtain ⟨y, hy⟩ : ∃ y, R[k]? = some y := ⟨_, List.getElem?_eq_getElem hlt⟩
      obtain ⟨a0, a1⟩ := ck_rt C.out hy
      have HY := Lib.hid hy
      clear hy
      by_cases e : y.id = x
      · have e' : (y.id == x) = true := by simpa using e
        have HE := Lib.hid e
        obtain ⟨-, bd, od, rfl, -, hc⟩ := rdi_at (HD.out.keep C.out.gr) (by omega)
        have d0 := hc k (D y.id) (by rw [HA.out, List.getElem?_map, ids_at HY.out]; rfl)
        clear e hc
        go_wp2_with fail
        go_ret
        refine ⟨?_, C.out.gr⟩
        have h1 : x ∈ ids R := ids_has.2 (any_at HY.out (decide_eq_true HE.out))
        unfold atV
        rw [if_pos h1, ← HE.out]
        rfl
      · have e' : (y.id == x) = false := by simpa using e
        have HE := Lib.hid e
        clear e
        go_wp2_with fail
        exact ⟨⟨k + 1, by omega, congrArg _ (by omega), C, Lib.hid (any_take HN.out HY.out (decide_eq_false HE.out))⟩, by simp only [RowKit.intOf]; omega⟩
    · obtain rfl : k = R.length := by omega
      go_wp2_with fail
      go_ret
      have h1 : hasR R x = false := any_end HN.out (Nat.le_refl _)
      unfold atV
      rw [if_neg (fun h => by rw [ids_has.1 h] at h1; cases h1)]
      exact ⟨rfl, C.out.gr⟩
set_option maxRecDepth 100000 in
/-- A row of zeros. -/
theorem made_int (N : Nat) : madeCells #[Value.int .i64 0] N = (List.replicate N (tv 0)).toArray := by
  unfold madeCells
  apply Array.ext'
  rw [Array.toList_map, Array.toList_range]
  apply List.ext_getElem?
  intro i
  rw [List.getElem?_map, List.getElem?_replicate]
  by_cases h : i < N
  · rw [List.getElem?_range h, if_pos h]
    simp [tv, Nat.mod_one]
  · rw [List.getElem?_eq_none (by simpa using h), if_neg h]; rfl
set_option maxRecDepth 100000 in
theorem clV_zero (V : List Int) : clV V (fun _ => 0) = List.replicate V.length (tv 0) := by
  unfold clV
  rw [List.map_const']
set_option maxRecDepth 100000 in
/-- make of ints, as a law for the walk. -/
theorem wpList_make_ints (w : World) {ops : Array Oper} {rest : List Oper} {o : Oper} {a : Act} {Q : Exit → Act → World → Prop} (hg : o.guard = none) (l c : Operand) (hop : o.op = Op.makeSlice 22 l c) (M : Nat)
    (hl : a.eval l = .int .i64 (M : Int)) (hc : a.eval c = .int .i64 (M : Int)) (hM : M ≤ 100000)
    (hK : TRow (w.alloc (.cells (Array.replicate M (tv 0)) 3)) w.heap.size 3 (List.replicate M (tv 0)) → w.grownBy (w.alloc (.cells (Array.replicate M (tv 0)) 3)) none → wpList Tryz.prog ops Q rest (a.put o.dst (.slice (some ⟨w.heap.size, 0, none⟩) M M)) (w.alloc (.cells (Array.replicate M (tv 0)) 3))) : wpList Tryz.prog ops Q (o :: rest) a w := by
  obtain ⟨i0, hi, hz0, hz1, hz2⟩ := info_parts info_int
  refine wpList_make_row w hg l c 22 hop 3 i0 (.int .i64 0) Tryz.underlying22 hi hz0 hz1 rfl .i64 .i64 M hl hc (by rw [hz2]; omega) (by omega) ?_
  rw [made_int, List.toArray_replicate]
  refine hK ?_ (World.grownBy_alloc w _ _)
  unfold TRow
  rw [List.toArray_replicate]
  exact heap_alloc_new w _
/-- What memory holds while costs are relaxed. -/
structure TM (w : World) (T : Tg) (G gd : Nat) (D : Int → Int) (wr : World) : Prop where
  gb : wr.heap[G]? = some (.cells #[.slice T.pR T.R.length T.cR, .slice T.pL T.L.length T.cL] 28 (0, 0))
  t : TgOk wr (· < gd) T
  d : TRow wr gd 3 (clV (ids T.R) D)
  gr : w.grownBy wr none
  lt : G < gd ∧ w.heap.size ≤ G
set_option maxRecDepth 100000 in
theorem TM.keep {w wr w' : World} {T : Tg} {G gd : Nat} {D : Int → Int} (h : TM w T G gd D wr) (g : wr.grownBy w' none) : TM w T G gd D w' :=
  ⟨kept_row h.gb g (by simp), h.t.keep g, h.d.kept g (by simp), grown_trans h.gr g, h.lt⟩
set_option maxRecDepth 100000 in
theorem TM.put {w wr : World} {T : Tg} {G gd : Nat} {D : Int → Int} (h : TM w T G gd D wr) (hn : (ids T.R).Nodup) {i : Nat} {v : Int} (hi : (ids T.R)[i]? = some v) (x : Int) : TM w T G gd (updF D v x) (wr.setCell ⟨gd, i, none⟩ (tv x)) := by
  have g := grown_setCell wr ⟨gd, i, none⟩ (tv x)
  have hlt := h.lt
  refine ⟨kept_row h.gb g (fun e => by have := Option.some.inj e; simp only at this; omega), h.t.grown g (fun b hb e => by have := Option.some.inj e; simp only at this; omega), ?_, grown_new h.gr g (by show w.heap.size ≤ gd; omega), hlt⟩
  have := h.d.set i (tv x)
  rwa [clV_set hn hi] at this
/-- The row while it is filled. -/
def iniF (V : List Int) (z : Int) (i : Nat) : Int → Int := fun u => if u ∈ V.take i then startF z u else 0
set_option maxRecDepth 100000 in
theorem iniF_step {V : List Int} {z v : Int} {i : Nat} (h : V[i]? = some v) : updF (iniF V z i) v (startF z v) = iniF V z (i + 1) := by
  funext u
  unfold updF iniF
  rw [List.take_add_one, h]
  by_cases hu : u = v
  · rw [if_pos hu, hu, if_pos (by simp)]
  · rw [if_neg hu]
    by_cases hm : u ∈ V.take i
    · rw [if_pos hm, if_pos (by simp [hm])]
    · rw [if_neg hm, if_neg (by simp [hm, hu])]
set_option maxRecDepth 100000 in
theorem clV_congr {V : List Int} {D E : Int → Int} (h : ∀ v ∈ V, D v = E v) : clV V D = clV V E := by
  unfold clV
  exact List.map_congr_left (fun v hv => by rw [h v hv])
set_option maxRecDepth 100000 in
theorem iniF_end (V : List Int) (z : Int) : clV V (iniF V z V.length) = clV V (startF z) :=
  clV_congr (fun v hv => by unfold iniF; rw [List.take_length, if_pos hv])
set_option maxRecDepth 100000 in
theorem updF_twice (D : Int → Int) (v x y : Int) : updF (updF D v x) v y = updF D v y := by
  funext u
  unfold updF
  by_cases h : u = v
  · rw [if_pos h, if_pos h]
  · rw [if_neg h, if_neg h, if_neg h]
end Go.Proofs.YtlefjdglcdopeaaGreat

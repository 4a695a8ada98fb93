/- Parts of the proof, packed: ToArnM, ToLookR, ToArnd. -/
import Derived.Test.YtahafijpcmphaaaGreatQn12
import Derived.Test.YtahafijpcmphaaaGreatQn5
import Derived.Test.YtahafijpcmphaaaGreatQn4
import Derived.Test.YtahafijpcmphaaaGreatQn6
import Derived.Deep.AppendLies
/- The reference's Around: the mathematics. -/
namespace Go.Proofs.YtahafijpcmphaaaGreat
open Go.RowKit Bs
set_option maxRecDepth 100000 in
theorem insU_cons (a : Int) (t : List Int) (n : Int) : insU (a :: t) n = if a < n then a :: insU t n else if a = n then a :: t else n :: a :: t := by
  unfold insU
  by_cases h : a < n
  · rw [if_pos h]
    rw [List.takeWhile_cons, decide_eq_true h]
    simp only [if_true, List.length_cons, List.drop_succ_cons, List.cons_append]
    split <;> rfl
  · rw [if_neg h]
    rw [List.takeWhile_cons, decide_eq_false h]
    simp
set_option maxRecDepth 100000 in
theorem insU_spec (n : Int) : ∀ l : List Int, l.Pairwise (· < ·) → (insU l n).Pairwise (· < ·) ∧ ∀ x, x ∈ insU l n ↔ x = n ∨ x ∈ l
  | [], _ => by
    have : insU [] n = [n] := by simp [insU]
    rw [this]
    simp
  | a :: t, h => by
    obtain ⟨h1, h2⟩ := List.pairwise_cons.1 h
    obtain ⟨i1, i2⟩ := insU_spec n t h2
    rw [insU_cons]
    by_cases ha : a < n
    · rw [if_pos ha]
      refine ⟨List.pairwise_cons.2 ⟨fun y hy => ?_, i1⟩, fun x => ?_⟩
      · rcases (i2 y).1 hy with rfl | hy
        · exact ha
        · exact h1 y hy
      · rw [List.mem_cons, i2, List.mem_cons]
        constructor
        · rintro (h | h | h)
          · exact .inr (.inl h)
          · exact .inl h
          · exact .inr (.inr h)
        · rintro (h | h | h)
          · exact .inr (.inl h)
          · exact .inl h
          · exact .inr (.inr h)
    · rw [if_neg ha]
      by_cases e : a = n
      · rw [if_pos e]
        subst e
        exact ⟨h, fun x => by simp⟩
      · rw [if_neg e]
        refine ⟨List.pairwise_cons.2 ⟨fun y hy => ?_, h⟩, fun x => by simp⟩
        rcases List.mem_cons.1 hy with rfl | hy
        · omega
        · have := h1 y hy
          omega
def insO (O : List Int) : List Int := O.foldl insU []
set_option maxRecDepth 100000 in
theorem insO_take {O : List Int} {k : Nat} {x : Int} (h : O[k]? = some x) : insO (O.take (k + 1)) = insU (insO (O.take k)) x := by
  unfold insO
  rw [List.take_add_one, h, List.foldl_append]
  rfl
set_option maxRecDepth 100000 in
theorem foldl_insU (O : List Int) : ∀ l : List Int, l.Pairwise (· < ·) → (O.foldl insU l).Pairwise (· < ·) ∧ ∀ x, x ∈ O.foldl insU l ↔ x ∈ O ∨ x ∈ l := by
  induction O with
  | nil => intro l h; exact ⟨h, fun x => by simp⟩
  | cons a O ih =>
    intro l h
    obtain ⟨h1, h2⟩ := insU_spec a l h
    obtain ⟨i1, i2⟩ := ih _ h1
    refine ⟨i1, fun x => ?_⟩
    rw [List.foldl_cons, i2, h2, List.mem_cons]
    constructor
    · rintro (h | h | h)
      · exact .inl (.inr h)
      · exact .inl (.inl h)
      · exact .inr h
    · rintro ((h | h) | h)
      · exact .inr (.inl h)
      · exact .inl h
      · exact .inr (.inr h)
set_option maxRecDepth 100000 in
theorem insU_len (l : List Int) (n : Int) : (insU l n).length ≤ l.length + 1 := by
  induction l with
  | nil => simp [insU]
  | cons a t ih =>
    rw [insU_cons]
    split
    · simp; omega
    · split <;> simp
set_option maxRecDepth 100000 in
theorem insO_len (O : List Int) (k : Nat) : (insO (O.take k)).length ≤ k := by
  have : ∀ (O l : List Int), (O.foldl insU l).length ≤ O.length + l.length := by
    intro O
    induction O with
    | nil => intro l; simp
    | cons a O ih =>
      intro l
      have h1 := ih (insU l a)
      have h2 := insU_len l a
      rw [List.foldl_cons, List.length_cons]
      omega
  have h1 := this (O.take k) []
  rw [List.length_take] at h1
  unfold insO
  simp at h1
  omega
/-- While Around goes on: of the routers found i are gone through. -/
structure BF (L : List Lk) (r : Int) (O : List Int) (i : Nat) : Prop where
  nd : O.Nodup
  me : r ∈ O
  rc : ∀ x ∈ O, Rch L r x
  cl : ∀ j x, j < i → O[j]? = some x → ∀ y ∈ nbL L x, y ∈ O
set_option maxRecDepth 100000 in
theorem BF.start (L : List Lk) (r : Int) : BF L r [r] 0 := ⟨by simp, by simp, fun x hx => by rw [List.mem_singleton] at hx; subst hx; exact Rch.refl L _, fun j x h => by omega⟩
set_option maxRecDepth 100000 in
theorem BF.add {L : List Lk} {r x y : Int} {O : List Int} {i : Nat} (h : BF L r O i) (hi : i ≤ O.length) (hx : x ∈ O) (hy : y ∈ nbL L x) (hn : hasI O y = false) : BF L r (O ++ [y]) i := by
  refine ⟨nodup_snoc h.nd (hasI_not.1 hn), List.mem_append_left _ h.me, fun z hz => ?_, fun j z hj hz u hu => ?_⟩
  · rcases List.mem_append.1 hz with hz | hz
    · exact h.rc z hz
    · rw [List.mem_singleton] at hz
      subst hz
      exact Rch.step (h.rc x hx) hy
  · rw [List.getElem?_append_left (by omega)] at hz
    exact List.mem_append_left _ (h.cl j z hj hz u hu)
set_option maxRecDepth 100000 in
theorem BF.next {L : List Lk} {r x : Int} {O : List Int} {i : Nat} (h : BF L r O i) (hx : O[i]? = some x) (hy : ∀ y ∈ nbL L x, y ∈ O) : BF L r O (i + 1) :=
  ⟨h.nd, h.me, h.rc, fun j z hj hz u hu => by
    by_cases e : j < i
    · exact h.cl j z e hz u hu
    · obtain rfl : j = i := by omega
      rw [hx] at hz
      obtain rfl := Option.some.inj hz
      exact hy u hu⟩
set_option maxRecDepth 100000 in
theorem BF.len {R : List Rt} {L : List Lk} {r : Int} {O : List Int} {i : Nat} (hv : okT R L = true) (hr : ∃ x ∈ R, x.id = r) (h : BF L r O i) : O.length ≤ R.length := by
  have hp := pair_of_asc ltR ltR_trans R (okT_all hv).rs
  have hids : (R.map (·.id)).Nodup := by
    unfold List.Nodup
    rw [List.pairwise_map]
    exact hp.imp (fun h => by have := of_decide_eq_true h; omega)
  have hf : ((R.map (·.id)).filter (hasI O)).Nodup := hids.sublist List.filter_sublist
  have : O.Perm ((R.map (·.id)).filter (hasI O)) := (List.perm_ext_iff_of_nodup h.nd hf).2 (fun x => by
    rw [List.mem_filter, hasI_mem]
    constructor
    · intro hx
      obtain ⟨m, hm, e⟩ := reach_id hv hr (h.rc x hx)
      exact ⟨List.mem_map.2 ⟨m, hm, e⟩, hx⟩
    · exact fun hx => hx.2)
  rw [this.length_eq]
  exact Nat.le_trans (List.length_filter_le _ _) (by rw [List.length_map]; exact Nat.le_refl _)
set_option maxRecDepth 100000 in
theorem BF.done {R : List Rt} {L : List Lk} {r : Int} {O : List Int} (hv : okT R L = true) (hr : ∃ x ∈ R, x.id = r) (h : BF L r O O.length) : insO O = cls L r := by
  obtain ⟨x, hx, rfl⟩ := hr
  obtain ⟨n, en, hn⟩ := rt_nat hv hx
  obtain ⟨c1, c2⟩ := cls_spec (okT_near100 hv) hn
  rw [← en] at c1 c2
  obtain ⟨f1, f2⟩ := foldl_insU O [] List.Pairwise.nil
  refine eq_of_asc f1 c1 (fun y => ?_)
  show y ∈ O.foldl insU [] ↔ _
  rw [f2, c2]
  constructor
  · rintro (hy | hy)
    · exact h.rc y hy
    · cases hy
  · intro hy
    refine .inl (hy.into h.me (fun u hu v hv => ?_))
    obtain ⟨j, hj⟩ := List.mem_iff_getElem?.1 hu
    exact h.cl j u (List.getElem?_eq_some_iff.1 hj).1 hj v hv
end Go.Proofs.YtahafijpcmphaaaGreat

/- The reference's Has, Capable, Price, Cost, Near, Neighbours. -/
namespace Go.Proofs.YtahafijpcmphaaaGreat
open Go.RowKit Bs
set_option maxRecDepth 100000 in
theorem some_hit {α β : Type} {f : α → Option β} {l : List α} {k : Nat} {x : α} {y : β} (hn : (l.take k).findSome? f = none) (h : l[k]? = some x) (hy : f x = some y) : l.findSome? f = some y := by
  have hlt := (List.getElem?_eq_some_iff.1 h).1
  have e : l = l.take k ++ (x :: l.drop (k + 1)) := by
    have h2 := (List.getElem?_eq_some_iff.1 h).2
    rw [← h2, List.getElem_cons_drop, List.take_append_drop]
  rw [e, List.findSome?_append, hn, List.findSome?_cons, hy]
  rfl
set_option maxRecDepth 100000 in
theorem some_take {α β : Type} {f : α → Option β} {l : List α} {k : Nat} {x : α} (hn : (l.take k).findSome? f = none) (h : l[k]? = some x) (hy : f x = none) : (l.take (k + 1)).findSome? f = none := by
  rw [List.take_add_one, h, List.findSome?_append, hn]
  simp [hy]
set_option maxRecDepth 100000 in
set_option maxHeartbeats 1600000 in
theorem rhasV_any (T : Tg) (x : Int) (q : Nat → Prop) (w : World) (hT : TgOk w q T) :
    Calls Tryz.prog 77 #[.agg #[.slice T.pR T.R.length T.cR, .slice T.pL T.L.length T.cL], .int .i64 x] w fun e w' => e = .returned (.bool (hasV T.R T.L x)) ∧ w.grownBy w' none := by
  obtain ⟨R, L, pR, cR, pL, cL⟩ := T
  have hm1 := Nat.le_trans hT.cr.1 hT.cr.2
  have hm2 := Nat.le_trans hT.cl.1 hT.cl.2
  simp only at hm1 hm2 ⊢
  obtain ⟨k1, k2⟩ := tone_box w #[.slice pR R.length cR, .slice pL L.length cL] 45
  have HB := Lib.hid (And.intro k1 (And.intro k2 (hT.keep k2)))
  clear k1 k2 hT
  obtain ⟨z, hz⟩ : ∃ z, hasV R L x = z := ⟨_, rfl⟩
  rw [hz]
  have HZ := Lib.hid hz
  clear hz
  go_enter Tryz.func77, Tryz.ntmps77
  go_upto_region 1 with fail
  generalize w.alloc _ = wa at *
  obtain ⟨c0, c1⟩ := row_cells HB.out.1
  obtain ⟨X, hX⟩ : ∃ X, chk R L = X := ⟨_, rfl⟩
  have HX := Lib.hid hX
  have HO : Hid (okT R L = (X == 0)) := Lib.hid (by unfold okT; rw [hX])
  clear hX
  by_cases hx : X = 0
  · obtain rfl : hasR R x = z := by have := HZ.out; unfold hasV at this; rw [HO.out, hx] at this; simpa using this
    subst hx
    go_wp2_with fail
    refine (rcheck_any ⟨R, L, pR, cR, pL, cL⟩ _ wa HB.out.2.2).mono ?_
    rintro e w1 ⟨rfl, hg⟩
    simp only
    rw [HX.out]
    have HG := Lib.hid hg
    clear hg c0 c1
    obtain ⟨c0, c1⟩ := row_cells (kept_row HB.out.1 HG.out (by simp))
    go_wp2_with fail
    refine (rhas_any ⟨R, L, pR, cR, pL, cL⟩ x _ w1 (HB.out.2.2.keep HG.out)).mono ?_
    rintro e w2 ⟨rfl, hg⟩
    simp only
    have HG2 := Lib.hid (grown_trans HG.out hg)
    clear hg
    go_wp2_with fail
    go_ret
    exact ⟨rfl, grown_trans HB.out.2.1 HG2.out⟩
  · have hx1 : (X == 0) = false := by simpa using hx
    obtain rfl : false = z := by have := HZ.out; unfold hasV at this; rw [HO.out, hx1] at this; simpa using this
    go_wp2_with fail
    refine (rcheck_any ⟨R, L, pR, cR, pL, cL⟩ _ wa HB.out.2.2).mono ?_
    rintro e w1 ⟨rfl, hg⟩
    simp only
    rw [HX.out]
    have HG := Lib.hid hg
    clear hg c0 c1
    go_wp2_with fail
    go_ret
    exact ⟨rfl, grown_trans HB.out.2.1 HG.out⟩
set_option maxRecDepth 100000 in
set_option maxHeartbeats 1600000 in
theorem rprice_any (T : Tg) (x y : Int) (q : Nat → Prop) (w : World) (hT : TgOk w q T) :
    Calls Tryz.prog 111 #[.agg #[.slice T.pR T.R.length T.cR, .slice T.pL T.L.length T.cL], .int .i64 x, .int .i64 y] w fun e w' => e = .returned (.tuple #[.int .i64 (priceV T.L x y).1, .bool (priceV T.L x y).2]) ∧ w.grownBy w' none := by
  obtain ⟨R, L, pR, cR, pL, cL⟩ := T
  have hm1 := Nat.le_trans hT.cr.1 hT.cr.2
  have hm2 := Nat.le_trans hT.cl.1 hT.cl.2
  simp only at hm1 hm2 ⊢
  obtain ⟨k1, k2⟩ := tone_box w #[.slice pR R.length cR, .slice pL L.length cL] 45
  have HB := Lib.hid (And.intro k1 (And.intro k2 (hT.keep k2)))
  clear k1 k2 hT
  obtain ⟨z, hz⟩ : ∃ z, priceV L x y = z := ⟨_, rfl⟩
  rw [hz]
  have HZ := Lib.hid hz
  clear hz
  go_enter Tryz.func111, Tryz.ntmps111
  go_upto_region 1 with fail
  generalize w.alloc _ = wa at *
  obtain ⟨c0, c1⟩ := row_cells HB.out.1
  go_wp2_with fail
  go_loopw [8] (fun a wr => ∃ k : Nat, k ≤ L.length ∧ a = .int .i64 (k : Int) ∧ Hid ((L.take k).findSome? (priceB x y) = none) ∧ Hid (wa.grownBy wr none)) (fun a _ => L.length - (RowKit.intOf a).toNat)
  case atStart => exact ⟨0, Nat.zero_le _, rfl, Lib.hid rfl, Lib.hid (grown_refl _ _)⟩
  case round =>
    obtain ⟨k, hk, rfl, HN, G⟩ := hrel
    clear c0 c1
    obtain ⟨c0, c1⟩ := row_cells (kept_row HB.out.1 G.out (by simp))
    by_cases hlt : k < L.length
    · obtain ⟨-, b, off, rfl, -, hc⟩ := rdl_cells (L := L) (HB.out.2.2.keep G.out).l (by omega)
      obtain ⟨m, hm⟩ : ∃ m, L[k]? = some m := ⟨_, List.getElem?_eq_getElem hlt⟩
      obtain ⟨a0, a1, a2, a3, a4⟩ := hc k m hm
      have HM := Lib.hid hm
      have i0 : (0 : Int) ≤ (k : Int) := by omega
      have i1 : (k : Int) < (L.length : Int) := by omega
      have gal := World.grownBy_alloc wr (.cells #[.int .i64 m.a, .int .i64 m.b, .int .i64 m.ca, .int .i64 m.cb, .int .i64 m.cp] 94) none
      have HL := Lib.hid (And.intro (heap_alloc_new wr (.cells #[.int .i64 m.a, .int .i64 m.b, .int .i64 m.ca, .int .i64 m.cb, .int .i64 m.cp] 94)) (grown_trans G.out gal))
      clear hc hm gal
      go_upto_region 5 with fail
      clear a0 a1 a2 a3 a4 c0 c1
      generalize wr.alloc _ = wy at *
      obtain ⟨d0, d1, d2, d3, d4⟩ := lk_facts HL.out.1
      by_cases k1 : m.a = x ∧ m.b = y
      · obtain rfl : (m.ca, true) = z := by
          rw [← HZ.out]; unfold priceV
          rw [some_hit HN.out HM.out (show priceB x y m = some m.ca by unfold priceB; rw [if_pos k1])]
        have e1 : (m.a == x) = true := by simpa using k1.1
        have e2 : (m.b == y) = true := by simpa using k1.2
        clear k1
        go_wp2_with fail
        go_ret2
        exact ⟨rfl, grown_trans HB.out.2.1 HL.out.2⟩
      · by_cases k2 : m.b = x ∧ m.a = y
        · obtain rfl : (m.cb, true) = z := by
            rw [← HZ.out]; unfold priceV
            rw [some_hit HN.out HM.out (show priceB x y m = some m.cb by unfold priceB; rw [if_neg k1, if_pos k2])]
          have e3 : (m.b == x) = true := by simpa using k2.1
          have e4 : (m.a == y) = true := by simpa using k2.2
          have e12 : ((m.a == x) && (m.b == y)) = false := by
            cases h1 : (m.a == x) <;> cases h2 : (m.b == y) <;> simp at h1 h2 ⊢
            exact k1 ⟨h1, h2⟩
          cases h1 : (m.a == x)
          · clear k1 k2 e12
            go_wp2_with fail
            go_ret2
            exact ⟨rfl, grown_trans HB.out.2.1 HL.out.2⟩
          · have h2 : (m.b == y) = false := by rw [h1] at e12; simpa using e12
            clear k1 k2 e12
            go_wp2_with fail
            go_ret2
            exact ⟨rfl, grown_trans HB.out.2.1 HL.out.2⟩
        · have HN2 : Hid ((L.take (k + 1)).findSome? (priceB x y) = none) := Lib.hid (some_take HN.out HM.out (by unfold priceB; rw [if_neg k1, if_neg k2]))
          have G2 := Lib.hid HL.out.2
          have e12 : ((m.a == x) && (m.b == y)) = false := by
            cases h1 : (m.a == x) <;> cases h2 : (m.b == y) <;> simp at h1 h2 ⊢
            exact k1 ⟨h1, h2⟩
          have e34 : ((m.b == x) && (m.a == y)) = false := by
            cases h1 : (m.b == x) <;> cases h2 : (m.a == y) <;> simp at h1 h2 ⊢
            exact k2 ⟨h1, h2⟩
          clear k1 k2
          cases h1 : (m.a == x) <;> cases h3 : (m.b == x)
          · clear e12 e34
            go_wp2_with fail
            exact ⟨⟨k + 1, by omega, congrArg _ (by omega), HN2, G2⟩, by simp only [RowKit.intOf]; omega⟩
          · have h4 : (m.a == y) = false := by rw [h3] at e34; simpa using e34
            clear e12 e34
            go_wp2_with fail
            exact ⟨⟨k + 1, by omega, congrArg _ (by omega), HN2, G2⟩, by simp only [RowKit.intOf]; omega⟩
          · have h2 : (m.b == y) = false := by rw [h1] at e12; simpa using e12
            clear e12 e34
            go_wp2_with fail
            exact ⟨⟨k + 1, by omega, congrArg _ (by omega), HN2, G2⟩, by simp only [RowKit.intOf]; omega⟩
          · have h2 : (m.b == y) = false := by rw [h1] at e12; simpa using e12
            have h4 : (m.a == y) = false := by rw [h3] at e34; simpa using e34
            clear e12 e34
            go_wp2_with fail
            exact ⟨⟨k + 1, by omega, congrArg _ (by omega), HN2, G2⟩, by simp only [RowKit.intOf]; omega⟩
    · obtain rfl : k = L.length := by omega
      obtain rfl : (0, false) = z := by
        rw [← HZ.out]; unfold priceV
        have := HN.out
        rw [List.take_length] at this
        rw [this]
      go_wp2_with fail
      go_ret2
      exact ⟨rfl, grown_trans HB.out.2.1 G.out⟩
set_option maxRecDepth 100000 in
set_option maxHeartbeats 1600000 in
theorem rnear_any (T : Tg) (x : Int) (q : Nat → Prop) (w : World) (hT : TgOk w q T) (h1 : T.R.length ≤ 1000) :
    Calls Tryz.prog 110 #[.agg #[.slice T.pR T.R.length T.cR, .slice T.pL T.L.length T.cL], .int .i64 x] w fun e w' => TRet (nearR T.R T.L x) w e w' := by
  obtain ⟨R, L, pR, cR, pL, cL⟩ := T
  have hm1 := Nat.le_trans hT.cr.1 hT.cr.2
  have hm2 := Nat.le_trans hT.cl.1 hT.cl.2
  simp only at hm1 hm2 h1 ⊢
  obtain ⟨k1, k2⟩ := tone_box w #[.slice pR R.length cR, .slice pL L.length cL] 45
  have HB := Lib.hid (And.intro k1 (And.intro k2 (hT.keep k2)))
  clear k1 k2 hT
  go_enter Tryz.func110, Tryz.ntmps110
  go_upto_region 1 with fail
  generalize w.alloc _ = wa at *
  obtain ⟨c0, c1⟩ := row_cells HB.out.1
  obtain ⟨ii, hii, hi0, hi1, hi2⟩ := info_parts info_int
  have N0 : Hid (NK wa (.slice none 0 0) (nearR (R.take 0) L x) wa) := Lib.hid ⟨World.ownsRow_nil _ _ _ _, grown_refl _ _⟩
  go_wp2_with fail
  go_loopw [5, 6] (fun v a wr => ∃ k : Nat, k ≤ R.length ∧ a = .int .i64 (k : Int) ∧ Hid (NK wa v (nearR (R.take k) L x) wr)) (fun _ a _ => R.length - (RowKit.intOf a).toNat)
  case atStart => exact ⟨0, Nat.zero_le _, rfl, N0⟩
  case round =>
  obtain ⟨k, hk, rfl, N⟩ := hrel
  clear N0 c0 c1
  have HBR := Lib.hid (kept_row HB.out.1 N.out.gr (by simp))
  have HT := Lib.hid (HB.out.2.2.keep N.out.gr)
  by_cases hlt : k < R.length
  · obtain ⟨-, b, off, rfl, -, -⟩ := rdr_cells (R := R) HT.out.r (by omega)
    obtain ⟨m, hm⟩ : ∃ m, R[k]? = some m := ⟨_, List.getElem?_eq_getElem hlt⟩
    have HC : ∀ u, Hid (wr.grownBy u none) → u.cell? ⟨b, off + k * 2, none⟩ = some (.int .i64 m.id) ∧ u.cell? ⟨b, off + k * 2 + 1, none⟩ = some (.bool m.cap) := fun u hu => by
      obtain ⟨-, b', off', e, -, hc⟩ := rdr_cells (R := R) (HT.out.keep hu.out).r (by omega)
      injection e with e
      injection e with e4 e5
      subst e4
      subst e5
      exact hc k m hm
    have HCH := Lib.hid HC
    have i0 : (0 : Int) ≤ (k : Int) := by omega
    have i1 : (k : Int) < (R.length : Int) := by omega
    have hln : (nearR (R.take k) L x).length ≤ 1000 := by
      unfold nearR
      rw [List.length_map]
      exact Nat.le_trans (List.length_filter_le _ _) (Nat.le_trans (List.length_take_le _ _) (by omega))
    have HL0 : Hid (nearR (R.take (k + 1)) L x = nearR (R.take k) L x ++ (if (priceV L x m.id).2 then [m.id] else [])) := Lib.hid (by
      unfold nearR
      rw [filter_snoc hm, List.map_append]
      cases (priceV L x m.id).2 <;> rfl)
    obtain ⟨M, hM⟩ : ∃ M, nearR (R.take k) L x = M := ⟨_, rfl⟩
    rw [hM] at HL0 N hln
    have HL := HL0
    obtain ⟨c0, c1⟩ := row_cells HBR.out
    clear HC hm hM HL0
    go_upto_region 5 with fail
    clear c0 c1
    cases hp : (priceV L x m.id).2
    · have HP := Lib.hid hp
      clear hp
      refine wp_region_held_drew (S := fun w' => Hid (wr.grownBy w' none)) (by kernel_rfl) (Lib.hid (grown_drew (grown_refl _ _))) (fun hHeld => ?_)
      refine wpAnyH_take (i := 0) (oi := { dst := some 17, op := Op.load 45 (Operand.tmp 2), type := 45, pos := "ref.go:114", after := #[], guard := none }) (v := ?_) rfl (by kernel_rfl) (by kernel_rfl) (by kernel_rfl) (fun _ _ _ h => h) (Or.inl ⟨by rfl, ?_⟩) hHeld ?_
      rotate_left 1
      · intro u hSu
        obtain ⟨q0, q1⟩ := row_cells (kept_row HBR.out hSu.out (by simp))
        obtain ⟨q2, q3⟩ := HCH.out _ hSu
        go_simp
        first | done | with_reducible rfl
      (try simp only [Act.put, List.setIfInBounds_toArray, List.set_cons_zero, List.set_cons_succ])
      refine wpAnyH_take (i := 1) (oi := { dst := some 18, op := Op.move (Operand.tmp 1), type := 3, pos := "ref.go:114", after := #[], guard := none }) (v := ?_) rfl (by kernel_rfl) (by kernel_rfl) (by kernel_rfl) (fun _ _ _ h => h) (Or.inl ⟨by rfl, ?_⟩) hHeld ?_
      rotate_left 1
      · intro u hSu
        obtain ⟨q0, q1⟩ := row_cells (kept_row HBR.out hSu.out (by simp))
        obtain ⟨q2, q3⟩ := HCH.out _ hSu
        go_simp
        first | done | with_reducible rfl
      (try simp only [Act.put, List.setIfInBounds_toArray, List.set_cons_zero, List.set_cons_succ])
      refine wpAnyH_take (i := 2) (oi := { dst := some 19, op := Op.fieldAddr 45 (Operand.tmp 2) 0, type := 0, pos := "ref.go:114", after := #[], guard := none }) (v := ?_) rfl (by kernel_rfl) (by kernel_rfl) (by kernel_rfl) (fun _ _ _ h => h) (Or.inl ⟨by rfl, ?_⟩) hHeld ?_
      rotate_left 1
      · intro u hSu
        obtain ⟨q0, q1⟩ := row_cells (kept_row HBR.out hSu.out (by simp))
        obtain ⟨q2, q3⟩ := HCH.out _ hSu
        go_simp
        first | done | with_reducible rfl
      (try simp only [Act.put, List.setIfInBounds_toArray, List.set_cons_zero, List.set_cons_succ])
      refine wpAnyH_take (i := 3) (oi := { dst := some 20, op := Op.load 42 (Operand.tmp 19), type := 42, pos := "ref.go:114", after := #[{ on := 2, ground := Ground.data }], guard := none }) (v := ?_) rfl (by kernel_rfl) (by kernel_rfl) (by kernel_rfl) (fun _ _ _ h => h) (Or.inl ⟨by rfl, ?_⟩) hHeld ?_
      rotate_left 1
      · intro u hSu
        obtain ⟨q0, q1⟩ := row_cells (kept_row HBR.out hSu.out (by simp))
        obtain ⟨q2, q3⟩ := HCH.out _ hSu
        go_simp
        first | done | with_reducible rfl
      (try simp only [Act.put, List.setIfInBounds_toArray, List.set_cons_zero, List.set_cons_succ])
      refine wpAnyH_take (i := 4) (oi := { dst := some 21, op := Op.move (Operand.tmp 6), type := 3, pos := "ref.go:114", after := #[], guard := none }) (v := ?_) rfl (by kernel_rfl) (by kernel_rfl) (by kernel_rfl) (fun _ _ _ h => h) (Or.inl ⟨by rfl, ?_⟩) hHeld ?_
      rotate_left 1
      · intro u hSu
        obtain ⟨q0, q1⟩ := row_cells (kept_row HBR.out hSu.out (by simp))
        obtain ⟨q2, q3⟩ := HCH.out _ hSu
        go_simp
        first | done | with_reducible rfl
      (try simp only [Act.put, List.setIfInBounds_toArray, List.set_cons_zero, List.set_cons_succ])
      refine wpAnyH_take (i := 5) (oi := { dst := some 22, op := Op.indexAddr 42 (Operand.tmp 20) (Operand.tmp 21), type := 0, pos := "ref.go:114", after := #[{ on := 3, ground := Ground.data }, { on := 4, ground := Ground.data }], guard := none }) (v := ?_) rfl (by kernel_rfl) (by kernel_rfl) (by kernel_rfl) (fun _ _ _ h => h) (Or.inl ⟨by rfl, ?_⟩) hHeld ?_
      rotate_left 1
      · intro u hSu
        obtain ⟨q0, q1⟩ := row_cells (kept_row HBR.out hSu.out (by simp))
        obtain ⟨q2, q3⟩ := HCH.out _ hSu
        go_simp
        first | done | with_reducible rfl
      (try simp only [Act.put, List.setIfInBounds_toArray, List.set_cons_zero, List.set_cons_succ])
      refine wpAnyH_take (i := 6) (oi := { dst := some 23, op := Op.fieldAddr 92 (Operand.tmp 22) 0, type := 0, pos := "ref.go:114", after := #[{ on := 5, ground := Ground.data }], guard := none }) (v := ?_) rfl (by kernel_rfl) (by kernel_rfl) (by kernel_rfl) (fun _ _ _ h => h) (Or.inl ⟨by rfl, ?_⟩) hHeld ?_
      rotate_left 1
      · intro u hSu
        obtain ⟨q0, q1⟩ := row_cells (kept_row HBR.out hSu.out (by simp))
        obtain ⟨q2, q3⟩ := HCH.out _ hSu
        go_simp
        first | done | with_reducible rfl
      (try simp only [Act.put, List.setIfInBounds_toArray, List.set_cons_zero, List.set_cons_succ])
      refine wpAnyH_take (i := 7) (oi := { dst := some 24, op := Op.load 3 (Operand.tmp 23), type := 3, pos := "ref.go:114", after := #[{ on := 6, ground := Ground.data }], guard := none }) (v := ?_) rfl (by kernel_rfl) (by kernel_rfl) (by kernel_rfl) (fun _ _ _ h => h) (Or.inl ⟨by rfl, ?_⟩) hHeld ?_
      rotate_left 1
      · intro u hSu
        obtain ⟨q0, q1⟩ := row_cells (kept_row HBR.out hSu.out (by simp))
        obtain ⟨q2, q3⟩ := HCH.out _ hSu
        go_simp
        first | done | with_reducible rfl
      (try simp only [Act.put, List.setIfInBounds_toArray, List.set_cons_zero, List.set_cons_succ])
      refine wpAnyH_ready (rs := [8]) (by kernel_rfl) (by simp) ?_
      refine AllReadyH.cons (o := { dst := some 25, op := Op.call { callee := Callee.value (Operand.func 111), args := #[Operand.tmp 17, Operand.tmp 18, Operand.tmp 24], argTypes := #[45, 3, 3] }, type := 75, pos := "ref.go:114", after := #[{ on := 0, ground := Ground.data }, { on := 1, ground := Ground.data }, { on := 7, ground := Ground.data }], guard := none }) rfl (fun Kz hK => ?_) AllReadyH.nil
      go_simp
      go_at_call 111
      refine (rprice_any ⟨R, L, some ⟨b, off, none⟩, cR, pL, cL⟩ x m.id _ _ (HT.out.keep hHeld.out)).mono ?_
      rintro e w5 ⟨rfl, hg⟩
      simp only
      rw [HP.out]
      refine hK.out _ _ (Lib.hid (grown_trans hHeld.out hg)) (fun hH2 => ?_)
      clear hK Kz hHeld
      have hHeld := hH2
      clear hH2
      (try simp only [Act.put, List.setIfInBounds_toArray, List.set_cons_zero, List.set_cons_succ])
      refine wpAnyH_take (i := 9) (oi := { dst := some 16, op := Op.move (Operand.tmp 25), type := 75, pos := "ref.go:114", after := #[{ on := 8, ground := Ground.data }], guard := none }) (v := ?_) rfl (by kernel_rfl) (by kernel_rfl) (by kernel_rfl) (fun _ _ _ h => h) (Or.inl ⟨by rfl, ?_⟩) hHeld ?_
      rotate_left 1
      · intro u hSu
        obtain ⟨q0, q1⟩ := row_cells (kept_row HBR.out hSu.out (by simp))
        obtain ⟨q2, q3⟩ := HCH.out _ hSu
        go_simp
        first | done | with_reducible rfl
      (try simp only [Act.put, List.setIfInBounds_toArray, List.set_cons_zero, List.set_cons_succ])
      refine wpAnyH_take (i := 10) (oi := { dst := some 26, op := Op.extract (Operand.tmp 16) 0, type := 3, pos := "ref.go:114", after := #[{ on := 9, ground := Ground.data }], guard := none }) (v := ?_) rfl (by kernel_rfl) (by kernel_rfl) (by kernel_rfl) (fun _ _ _ h => h) (Or.inl ⟨by rfl, ?_⟩) hHeld ?_
      rotate_left 1
      · intro u hSu
        obtain ⟨q0, q1⟩ := row_cells (kept_row HBR.out hSu.out (by simp))
        obtain ⟨q2, q3⟩ := HCH.out _ hSu
        go_simp
        first | done | with_reducible rfl
      (try simp only [Act.put, List.setIfInBounds_toArray, List.set_cons_zero, List.set_cons_succ])
      refine wpAnyH_take (i := 11) (oi := { dst := some 27, op := Op.extract (Operand.tmp 16) 1, type := 4, pos := "ref.go:114", after := #[{ on := 9, ground := Ground.data }, { on := 12, ground := Ground.gcOnly Departure.lateStores }], guard := none }) (v := ?_) rfl (by kernel_rfl) (by kernel_rfl) (by kernel_rfl) (fun _ _ _ h => h) (Or.inl ⟨by rfl, ?_⟩) hHeld ?_
      rotate_left 1
      · intro u hSu
        obtain ⟨q0, q1⟩ := row_cells (kept_row HBR.out hSu.out (by simp))
        obtain ⟨q2, q3⟩ := HCH.out _ hSu
        go_simp
        first | done | with_reducible rfl
      (try simp only [Act.put, List.setIfInBounds_toArray, List.set_cons_zero, List.set_cons_succ])
      refine wpAnyH_take (i := 12) (oi := { dst := some 7, op := Op.assign (Operand.tmp 26), type := 3, pos := "ref.go:114", after := #[{ on := 10, ground := Ground.data }, { on := 8, ground := Ground.chain }, { on := 0, ground := Ground.phase }, { on := 1, ground := Ground.phase }, { on := 2, ground := Ground.phase }, { on := 3, ground := Ground.phase }, { on := 4, ground := Ground.phase }, { on := 5, ground := Ground.phase }, { on := 6, ground := Ground.phase }, { on := 7, ground := Ground.phase }, { on := 8, ground := Ground.phase }, { on := 9, ground := Ground.phase }, { on := 10, ground := Ground.phase }, { on := 11, ground := Ground.textOnly Departure.lateStores }], guard := none }) (v := ?_) rfl (by kernel_rfl) (by kernel_rfl) (by kernel_rfl) (fun _ _ _ h => h) (Or.inl ⟨by rfl, ?_⟩) hHeld ?_
      rotate_left 1
      · intro u hSu
        obtain ⟨q0, q1⟩ := row_cells (kept_row HBR.out hSu.out (by simp))
        obtain ⟨q2, q3⟩ := HCH.out _ hSu
        go_simp
        first | done | with_reducible rfl
      (try simp only [Act.put, List.setIfInBounds_toArray, List.set_cons_zero, List.set_cons_succ])
      refine wpAnyH_take (i := 13) (oi := { dst := some 8, op := Op.assign (Operand.tmp 27), type := 4, pos := "ref.go:114", after := #[{ on := 11, ground := Ground.data }, { on := 12, ground := Ground.chain }, { on := 0, ground := Ground.phase }, { on := 1, ground := Ground.phase }, { on := 2, ground := Ground.phase }, { on := 3, ground := Ground.phase }, { on := 4, ground := Ground.phase }, { on := 5, ground := Ground.phase }, { on := 6, ground := Ground.phase }, { on := 7, ground := Ground.phase }, { on := 8, ground := Ground.phase }, { on := 9, ground := Ground.phase }, { on := 10, ground := Ground.phase }, { on := 11, ground := Ground.phase }, { on := 12, ground := Ground.phase }], guard := none }) (v := ?_) rfl (by kernel_rfl) (by kernel_rfl) (by kernel_rfl) (fun _ _ _ h => h) (Or.inl ⟨by rfl, ?_⟩) hHeld ?_
      rotate_left 1
      · intro u hSu
        obtain ⟨q0, q1⟩ := row_cells (kept_row HBR.out hSu.out (by simp))
        obtain ⟨q2, q3⟩ := HCH.out _ hSu
        go_simp
        first | done | with_reducible rfl
      (try simp only [Act.put, List.setIfInBounds_toArray, List.set_cons_zero, List.set_cons_succ])
      refine wpAnyH_done (by kernel_rfl) ?_ _
      have H9 := Lib.hid (N.out.keep hHeld.out)
      clear hHeld
      have HN2 : Hid (NK wa _ (nearR (R.take (k + 1)) L x) w5) := Lib.hid (by rw [HL.out, HP.out]; show NK wa _ (M ++ []) w5; rw [List.append_nil]; exact H9.out)
      go_wp2_with fail
      exact ⟨⟨k + 1, by omega, congrArg _ (by omega), HN2⟩, by simp only [RowKit.intOf]; omega⟩
    · have HP := Lib.hid hp
      clear hp
      refine wp_region_held_drew (S := fun w' => Hid (wr.grownBy w' none)) (by kernel_rfl) (Lib.hid (grown_drew (grown_refl _ _))) (fun hHeld => ?_)
      refine wpAnyH_take (i := 0) (oi := { dst := some 17, op := Op.load 45 (Operand.tmp 2), type := 45, pos := "ref.go:114", after := #[], guard := none }) (v := ?_) rfl (by kernel_rfl) (by kernel_rfl) (by kernel_rfl) (fun _ _ _ h => h) (Or.inl ⟨by rfl, ?_⟩) hHeld ?_
      rotate_left 1
      · intro u hSu
        obtain ⟨q0, q1⟩ := row_cells (kept_row HBR.out hSu.out (by simp))
        obtain ⟨q2, q3⟩ := HCH.out _ hSu
        go_simp
        first | done | with_reducible rfl
      (try simp only [Act.put, List.setIfInBounds_toArray, List.set_cons_zero, List.set_cons_succ])
      refine wpAnyH_take (i := 1) (oi := { dst := some 18, op := Op.move (Operand.tmp 1), type := 3, pos := "ref.go:114", after := #[], guard := none }) (v := ?_) rfl (by kernel_rfl) (by kernel_rfl) (by kernel_rfl) (fun _ _ _ h => h) (Or.inl ⟨by rfl, ?_⟩) hHeld ?_
      rotate_left 1
      · intro u hSu
        obtain ⟨q0, q1⟩ := row_cells (kept_row HBR.out hSu.out (by simp))
        obtain ⟨q2, q3⟩ := HCH.out _ hSu
        go_simp
        first | done | with_reducible rfl
      (try simp only [Act.put, List.setIfInBounds_toArray, List.set_cons_zero, List.set_cons_succ])
      refine wpAnyH_take (i := 2) (oi := { dst := some 19, op := Op.fieldAddr 45 (Operand.tmp 2) 0, type := 0, pos := "ref.go:114", after := #[], guard := none }) (v := ?_) rfl (by kernel_rfl) (by kernel_rfl) (by kernel_rfl) (fun _ _ _ h => h) (Or.inl ⟨by rfl, ?_⟩) hHeld ?_
      rotate_left 1
      · intro u hSu
        obtain ⟨q0, q1⟩ := row_cells (kept_row HBR.out hSu.out (by simp))
        obtain ⟨q2, q3⟩ := HCH.out _ hSu
        go_simp
        first | done | with_reducible rfl
      (try simp only [Act.put, List.setIfInBounds_toArray, List.set_cons_zero, List.set_cons_succ])
      refine wpAnyH_take (i := 3) (oi := { dst := some 20, op := Op.load 42 (Operand.tmp 19), type := 42, pos := "ref.go:114", after := #[{ on := 2, ground := Ground.data }], guard := none }) (v := ?_) rfl (by kernel_rfl) (by kernel_rfl) (by kernel_rfl) (fun _ _ _ h => h) (Or.inl ⟨by rfl, ?_⟩) hHeld ?_
      rotate_left 1
      · intro u hSu
        obtain ⟨q0, q1⟩ := row_cells (kept_row HBR.out hSu.out (by simp))
        obtain ⟨q2, q3⟩ := HCH.out _ hSu
        go_simp
        first | done | with_reducible rfl
      (try simp only [Act.put, List.setIfInBounds_toArray, List.set_cons_zero, List.set_cons_succ])
      refine wpAnyH_take (i := 4) (oi := { dst := some 21, op := Op.move (Operand.tmp 6), type := 3, pos := "ref.go:114", after := #[], guard := none }) (v := ?_) rfl (by kernel_rfl) (by kernel_rfl) (by kernel_rfl) (fun _ _ _ h => h) (Or.inl ⟨by rfl, ?_⟩) hHeld ?_
      rotate_left 1
      · intro u hSu
        obtain ⟨q0, q1⟩ := row_cells (kept_row HBR.out hSu.out (by simp))
        obtain ⟨q2, q3⟩ := HCH.out _ hSu
        go_simp
        first | done | with_reducible rfl
      (try simp only [Act.put, List.setIfInBounds_toArray, List.set_cons_zero, List.set_cons_succ])
      refine wpAnyH_take (i := 5) (oi := { dst := some 22, op := Op.indexAddr 42 (Operand.tmp 20) (Operand.tmp 21), type := 0, pos := "ref.go:114", after := #[{ on := 3, ground := Ground.data }, { on := 4, ground := Ground.data }], guard := none }) (v := ?_) rfl (by kernel_rfl) (by kernel_rfl) (by kernel_rfl) (fun _ _ _ h => h) (Or.inl ⟨by rfl, ?_⟩) hHeld ?_
      rotate_left 1
      · intro u hSu
        obtain ⟨q0, q1⟩ := row_cells (kept_row HBR.out hSu.out (by simp))
        obtain ⟨q2, q3⟩ := HCH.out _ hSu
        go_simp
        first | done | with_reducible rfl
      (try simp only [Act.put, List.setIfInBounds_toArray, List.set_cons_zero, List.set_cons_succ])
      refine wpAnyH_take (i := 6) (oi := { dst := some 23, op := Op.fieldAddr 92 (Operand.tmp 22) 0, type := 0, pos := "ref.go:114", after := #[{ on := 5, ground := Ground.data }], guard := none }) (v := ?_) rfl (by kernel_rfl) (by kernel_rfl) (by kernel_rfl) (fun _ _ _ h => h) (Or.inl ⟨by rfl, ?_⟩) hHeld ?_
      rotate_left 1
      · intro u hSu
        obtain ⟨q0, q1⟩ := row_cells (kept_row HBR.out hSu.out (by simp))
        obtain ⟨q2, q3⟩ := HCH.out _ hSu
        go_simp
        first | done | with_reducible rfl
      (try simp only [Act.put, List.setIfInBounds_toArray, List.set_cons_zero, List.set_cons_succ])
      refine wpAnyH_take (i := 7) (oi := { dst := some 24, op := Op.load 3 (Operand.tmp 23), type := 3, pos := "ref.go:114", after := #[{ on := 6, ground := Ground.data }], guard := none }) (v := ?_) rfl (by kernel_rfl) (by kernel_rfl) (by kernel_rfl) (fun _ _ _ h => h) (Or.inl ⟨by rfl, ?_⟩) hHeld ?_
      rotate_left 1
      · intro u hSu
        obtain ⟨q0, q1⟩ := row_cells (kept_row HBR.out hSu.out (by simp))
        obtain ⟨q2, q3⟩ := HCH.out _ hSu
        go_simp
        first | done | with_reducible rfl
      (try simp only [Act.put, List.setIfInBounds_toArray, List.set_cons_zero, List.set_cons_succ])
      refine wpAnyH_ready (rs := [8]) (by kernel_rfl) (by simp) ?_
      refine AllReadyH.cons (o := { dst := some 25, op := Op.call { callee := Callee.value (Operand.func 111), args := #[Operand.tmp 17, Operand.tmp 18, Operand.tmp 24], argTypes := #[45, 3, 3] }, type := 75, pos := "ref.go:114", after := #[{ on := 0, ground := Ground.data }, { on := 1, ground := Ground.data }, { on := 7, ground := Ground.data }], guard := none }) rfl (fun Kz hK => ?_) AllReadyH.nil
      go_simp
      go_at_call 111
      refine (rprice_any ⟨R, L, some ⟨b, off, none⟩, cR, pL, cL⟩ x m.id _ _ (HT.out.keep hHeld.out)).mono ?_
      rintro e w5 ⟨rfl, hg⟩
      simp only
      rw [HP.out]
      refine hK.out _ _ (Lib.hid (grown_trans hHeld.out hg)) (fun hH2 => ?_)
      clear hK Kz hHeld
      have hHeld := hH2
      clear hH2
      (try simp only [Act.put, List.setIfInBounds_toArray, List.set_cons_zero, List.set_cons_succ])
      refine wpAnyH_take (i := 9) (oi := { dst := some 16, op := Op.move (Operand.tmp 25), type := 75, pos := "ref.go:114", after := #[{ on := 8, ground := Ground.data }], guard := none }) (v := ?_) rfl (by kernel_rfl) (by kernel_rfl) (by kernel_rfl) (fun _ _ _ h => h) (Or.inl ⟨by rfl, ?_⟩) hHeld ?_
      rotate_left 1
      · intro u hSu
        obtain ⟨q0, q1⟩ := row_cells (kept_row HBR.out hSu.out (by simp))
        obtain ⟨q2, q3⟩ := HCH.out _ hSu
        go_simp
        first | done | with_reducible rfl
      (try simp only [Act.put, List.setIfInBounds_toArray, List.set_cons_zero, List.set_cons_succ])
      refine wpAnyH_take (i := 10) (oi := { dst := some 26, op := Op.extract (Operand.tmp 16) 0, type := 3, pos := "ref.go:114", after := #[{ on := 9, ground := Ground.data }], guard := none }) (v := ?_) rfl (by kernel_rfl) (by kernel_rfl) (by kernel_rfl) (fun _ _ _ h => h) (Or.inl ⟨by rfl, ?_⟩) hHeld ?_
      rotate_left 1
      · intro u hSu
        obtain ⟨q0, q1⟩ := row_cells (kept_row HBR.out hSu.out (by simp))
        obtain ⟨q2, q3⟩ := HCH.out _ hSu
        go_simp
        first | done | with_reducible rfl
      (try simp only [Act.put, List.setIfInBounds_toArray, List.set_cons_zero, List.set_cons_succ])
      refine wpAnyH_take (i := 11) (oi := { dst := some 27, op := Op.extract (Operand.tmp 16) 1, type := 4, pos := "ref.go:114", after := #[{ on := 9, ground := Ground.data }, { on := 12, ground := Ground.gcOnly Departure.lateStores }], guard := none }) (v := ?_) rfl (by kernel_rfl) (by kernel_rfl) (by kernel_rfl) (fun _ _ _ h => h) (Or.inl ⟨by rfl, ?_⟩) hHeld ?_
      rotate_left 1
      · intro u hSu
        obtain ⟨q0, q1⟩ := row_cells (kept_row HBR.out hSu.out (by simp))
        obtain ⟨q2, q3⟩ := HCH.out _ hSu
        go_simp
        first | done | with_reducible rfl
      (try simp only [Act.put, List.setIfInBounds_toArray, List.set_cons_zero, List.set_cons_succ])
      refine wpAnyH_take (i := 12) (oi := { dst := some 7, op := Op.assign (Operand.tmp 26), type := 3, pos := "ref.go:114", after := #[{ on := 10, ground := Ground.data }, { on := 8, ground := Ground.chain }, { on := 0, ground := Ground.phase }, { on := 1, ground := Ground.phase }, { on := 2, ground := Ground.phase }, { on := 3, ground := Ground.phase }, { on := 4, ground := Ground.phase }, { on := 5, ground := Ground.phase }, { on := 6, ground := Ground.phase }, { on := 7, ground := Ground.phase }, { on := 8, ground := Ground.phase }, { on := 9, ground := Ground.phase }, { on := 10, ground := Ground.phase }, { on := 11, ground := Ground.textOnly Departure.lateStores }], guard := none }) (v := ?_) rfl (by kernel_rfl) (by kernel_rfl) (by kernel_rfl) (fun _ _ _ h => h) (Or.inl ⟨by rfl, ?_⟩) hHeld ?_
      rotate_left 1
      · intro u hSu
        obtain ⟨q0, q1⟩ := row_cells (kept_row HBR.out hSu.out (by simp))
        obtain ⟨q2, q3⟩ := HCH.out _ hSu
        go_simp
        first | done | with_reducible rfl
      (try simp only [Act.put, List.setIfInBounds_toArray, List.set_cons_zero, List.set_cons_succ])
      refine wpAnyH_take (i := 13) (oi := { dst := some 8, op := Op.assign (Operand.tmp 27), type := 4, pos := "ref.go:114", after := #[{ on := 11, ground := Ground.data }, { on := 12, ground := Ground.chain }, { on := 0, ground := Ground.phase }, { on := 1, ground := Ground.phase }, { on := 2, ground := Ground.phase }, { on := 3, ground := Ground.phase }, { on := 4, ground := Ground.phase }, { on := 5, ground := Ground.phase }, { on := 6, ground := Ground.phase }, { on := 7, ground := Ground.phase }, { on := 8, ground := Ground.phase }, { on := 9, ground := Ground.phase }, { on := 10, ground := Ground.phase }, { on := 11, ground := Ground.phase }, { on := 12, ground := Ground.phase }], guard := none }) (v := ?_) rfl (by kernel_rfl) (by kernel_rfl) (by kernel_rfl) (fun _ _ _ h => h) (Or.inl ⟨by rfl, ?_⟩) hHeld ?_
      rotate_left 1
      · intro u hSu
        obtain ⟨q0, q1⟩ := row_cells (kept_row HBR.out hSu.out (by simp))
        obtain ⟨q2, q3⟩ := HCH.out _ hSu
        go_simp
        first | done | with_reducible rfl
      (try simp only [Act.put, List.setIfInBounds_toArray, List.set_cons_zero, List.set_cons_succ])
      refine wpAnyH_done (by kernel_rfl) ?_ _
      have H9 := Lib.hid (N.out.keep hHeld.out)
      obtain ⟨c2, c3⟩ := row_cells (kept_row HBR.out hHeld.out (by simp))
      obtain ⟨a2, a3⟩ := HCH.out _ hHeld
      have hsz := H9.out.gr.size
      have hown := H9.out.own
      clear hHeld
      go_wp2_with (at_builtin; refine hold_on ?_)
      refine Lib.hid ?_
      refine wpList_append_own _ rfl _ _ 22 rfl wa.heap.size 3 ii (.int .i64 0) 1 8 Tryz.underlying22 hii hi0 hi1 hi2 rfl (by decide) _ _ _ rfl (hown.alloc _) ⟨w5.heap.size, 0, none⟩ 1 1 [.int .i64 m.id] rfl rfl (cell_one _ _ _) (by intro u hu; simp at hu; subst hu; rfl) (by unfold maxLen; omega) (by omega) (by simp; omega) ?_
      intro v' w6 hown' hg _
      have hn := (H9.out.more (grown_refl _ none) hown' hg).1
      have HN2 : Hid (NK wa v' (nearR (R.take (k + 1)) L x) w6) := Lib.hid (by rw [HL.out, HP.out]; exact hn)
      clear hown' hg hn hown H9 c2 c3 a2 a3
      go_wp2_with fail
      exact ⟨⟨k + 1, by omega, congrArg _ (by omega), HN2⟩, by simp only [RowKit.intOf]; omega⟩
  · obtain rfl : k = R.length := by omega
    rw [List.take_length] at N
    obtain ⟨p, c, rfl, hR, hlen, hp, hg⟩ := N.out.ret
    have HR := Lib.hid (And.intro hR (And.intro hlen (And.intro hp hg)))
    obtain ⟨c0, c1⟩ := row_cells HBR.out
    clear hR hlen hp hg N
    go_wp2_with fail
    go_ret
    exact ⟨p, c, rfl, HR.out.1.mono (fun b hb => Nat.le_trans HB.out.2.1.size hb), HR.out.2.1, HR.out.2.2.1, grown_trans HB.out.2.1 HR.out.2.2.2⟩
end Go.Proofs.YtahafijpcmphaaaGreat

/- The reference's Around. -/
namespace Go.Proofs.YtahafijpcmphaaaGreat
open Go.RowKit Bs
/-- While the found routers are sorted. -/
def IR (w0 : World) (l : List Int) (v : Value) (wz : World) : Prop := ∃ p c, v = .slice p l.length c ∧ Rd wz (w0.heap.size ≤ ·) (.slice p l.length c) (l.map tv) ∧ (p = none → c = 0) ∧ (l.length ≤ c ∧ c ≤ 9223372036854775807) ∧ w0.grownBy wz none
set_option maxRecDepth 100000 in
theorem IR.nil (w0 : World) : IR w0 [] (.slice none 0 0) w0 := ⟨none, 0, rfl, ⟨none, 0, rfl, fun h => absurd rfl h⟩, fun _ => rfl, ⟨Nat.le_refl _, by show 0 ≤ _; omega⟩, grown_refl _ _⟩
/-- While the neighbours of one router are gone through: what its neighbours' list keeps. -/
structure BIa (wr w5 : World) (vn : Value) (M : List Int) (v : Value) (wz : World) : Prop where
  rd : Rd wz (fun b => wr.heap.size ≤ b ∧ b < w5.heap.size) vn (M.map tv)
  ap : ∀ g, v.ownBlock = some g → g < wr.heap.size ∨ w5.heap.size ≤ g
  sz : w5.heap.size ≤ wz.heap.size
set_option maxRecDepth 100000 in
theorem BIa.app {wr w5 wz w6 : World} {vn v : Value} {M : List Int} {o : Obj} {g n cap : Nat} (h : BIa wr w5 vn M v wz) (hg : (wz.alloc o).grownBy w6 v.ownBlock) (hat : v.ownBlock = some g ∨ g = (wz.alloc o).heap.size) : BIa wr w5 vn M (.slice (some ⟨g, 0, none⟩) n cap) w6 := by
  have k0 := World.grownBy_alloc wz o none
  have hs := h.sz
  have hs2 : (wz.alloc o).heap.size = wz.heap.size + 1 := by simp
  refine ⟨(h.rd.grown k0 (by simp)).grown hg (fun b hb e => ?_), fun g' e => ?_, Nat.le_trans hs (Nat.le_trans k0.size hg.size)⟩
  · have := h.ap b e.symm
    omega
  · have eg : g = g' := Option.some.inj e
    subst eg
    rcases hat with e2 | e2
    · exact h.ap g e2
    · omega
set_option maxRecDepth 100000 in
set_option maxHeartbeats 3200000 in
theorem rarnd_any (T : Tg) (r : Int) (q : Nat → Prop) (w : World) (hT : TgOk w q T) (hv : okT T.R T.L = true) (hr : ∃ x ∈ T.R, x.id = r) :
    Calls Tryz.prog 91 #[.agg #[.slice T.pR T.R.length T.cR, .slice T.pL T.L.length T.cL], .int .i64 r] w fun e w' => TRet (cls T.L r) w e w' := by
  obtain ⟨R, L, pR, cR, pL, cL⟩ := T
  simp only at hv hr ⊢
  obtain ⟨h24, h60⟩ := okT_len hv
  obtain ⟨k1, k2⟩ := tone_box w #[.slice pR R.length cR, .slice pL L.length cL] 45
  have HB := Lib.hid (And.intro k1 (And.intro k2 (hT.keep k2)))
  have HV := Lib.hid (And.intro hv hr)
  clear k1 k2 hT hv hr
  go_enter Tryz.func91, Tryz.ntmps91
  obtain ⟨ii, hii, hi0, hi1, hi2⟩ := info_parts info_int
  go_upto_region 1 with fail
  generalize w.alloc _ = wa at *
  have N0 : Hid (NK wa (.slice (some ⟨wa.heap.size, 0, none⟩) 1 1) [r] (wa.alloc (.cells #[.int .i64 r] 3))) := Lib.hid ⟨World.ownsRow_lit wa #[.int .i64 r] 1 (Nat.le_refl _) (by decide) rfl, World.grownBy_alloc _ _ _⟩
  go_upto_region 2 with fail
  generalize wa.alloc _ = w1 at *
  go_wp2_with fail
  go_loopw [5, 6] (fun v a wr => ∃ (i : Nat) (O : List Int), i ≤ O.length ∧ a = .int .i64 (i : Int) ∧ Hid (NK wa v O wr) ∧ Hid (BF L r O i)) (fun _ a _ => R.length - (RowKit.intOf a).toNat)
  case atStart => exact ⟨0, [r], Nat.zero_le _, rfl, N0, Lib.hid (BF.start L r)⟩
  case round =>
  obtain ⟨w4, rfl⟩ : ∃ w4, w4 = wr := ⟨_, rfl⟩
  obtain ⟨i, O, hi, rfl, N, B⟩ := hrel
  clear N0
  have hOl : O.length ≤ R.length := B.out.len HV.out.1 HV.out.2
  have HBR := Lib.hid (kept_row HB.out.1 N.out.gr (by simp))
  have HT := Lib.hid (HB.out.2.2.keep N.out.gr)
  obtain ⟨pv, cv, rfl, hv1, hv2⟩ := own_shape N.out.own
  by_cases hlt : i < O.length
  · have hrd := rd_of_own N.out.own
    obtain ⟨-, b, off, rfl, -, -⟩ := rdi_at hrd (by omega)
    obtain ⟨x, hx⟩ : ∃ x, O[i]? = some x := ⟨_, List.getElem?_eq_getElem hlt⟩
    have HC : Hid (∀ u, Hid (w4.grownBy u none) → u.cell? ⟨b, off + i, none⟩ = some (.int .i64 x)) := Lib.hid (fun u hu => by
      obtain ⟨-, b', off', e, -, hc⟩ := rdi_at (hrd.grown hu.out (by simp)) (by omega)
      injection e with e
      injection e with e4 e5
      subst e4
      subst e5
      exact hc i x hx)
    have i0 : (0 : Int) ≤ (i : Int) := by omega
    have i1 : (i : Int) < (O.length : Int) := by omega
    obtain ⟨M, hM⟩ : ∃ M, nbL L x = M := ⟨_, rfl⟩
    have hNM : nearR R L x = M := by rw [← near_eq (okT_all HV.out.1), hM]
    have HX := Lib.hid (And.intro hx (And.intro hM hNM))
    have hb0 : b < w4.heap.size := (N.out.own.lt b (by rfl)).2
    have HBO : Hid (∀ g, (Value.slice (some ⟨b, off, none⟩) O.length cv).ownBlock = some g → g < w4.heap.size) := Lib.hid (fun g e => (N.out.own.lt g e).2)
    clear hx hM hNM hrd hb0
    go_upto_region 5 with fail
    refine wp_region_held_drew (S := fun w' => Hid (w4.grownBy w' none)) (by kernel_rfl) (Lib.hid (grown_drew (grown_refl _ _))) (fun hHeld => ?_)
    refine wpAnyH_take (i := 0) (oi := { dst := some 19, op := Op.load 45 (Operand.tmp 2), type := 45, pos := "ref.go:214", after := #[], guard := none }) (v := ?_) rfl (by kernel_rfl) (by kernel_rfl) (by kernel_rfl) (fun _ _ _ h => h) (Or.inl ⟨by rfl, ?_⟩) hHeld ?_
    rotate_left 1
    · intro u hSu
      obtain ⟨q0, q1⟩ := row_cells (kept_row HBR.out hSu.out (by simp))
      have q2 := HC.out _ hSu
      go_simp
      first | done | with_reducible rfl
    (try simp only [Act.put, List.setIfInBounds_toArray, List.set_cons_zero, List.set_cons_succ])
    refine wpAnyH_take (i := 1) (oi := { dst := some 20, op := Op.move (Operand.tmp 5), type := 22, pos := "ref.go:214", after := #[], guard := none }) (v := ?_) rfl (by kernel_rfl) (by kernel_rfl) (by kernel_rfl) (fun _ _ _ h => h) (Or.inl ⟨by rfl, ?_⟩) hHeld ?_
    rotate_left 1
    · intro u hSu
      obtain ⟨q0, q1⟩ := row_cells (kept_row HBR.out hSu.out (by simp))
      have q2 := HC.out _ hSu
      go_simp
      first | done | with_reducible rfl
    (try simp only [Act.put, List.setIfInBounds_toArray, List.set_cons_zero, List.set_cons_succ])
    refine wpAnyH_take (i := 2) (oi := { dst := some 21, op := Op.move (Operand.tmp 6), type := 3, pos := "ref.go:214", after := #[], guard := none }) (v := ?_) rfl (by kernel_rfl) (by kernel_rfl) (by kernel_rfl) (fun _ _ _ h => h) (Or.inl ⟨by rfl, ?_⟩) hHeld ?_
    rotate_left 1
    · intro u hSu
      obtain ⟨q0, q1⟩ := row_cells (kept_row HBR.out hSu.out (by simp))
      have q2 := HC.out _ hSu
      go_simp
      first | done | with_reducible rfl
    (try simp only [Act.put, List.setIfInBounds_toArray, List.set_cons_zero, List.set_cons_succ])
    refine wpAnyH_take (i := 3) (oi := { dst := some 22, op := Op.indexAddr 22 (Operand.tmp 20) (Operand.tmp 21), type := 0, pos := "ref.go:214", after := #[{ on := 1, ground := Ground.data }, { on := 2, ground := Ground.data }], guard := none }) (v := ?_) rfl (by kernel_rfl) (by kernel_rfl) (by kernel_rfl) (fun _ _ _ h => h) (Or.inl ⟨by rfl, ?_⟩) hHeld ?_
    rotate_left 1
    · intro u hSu
      obtain ⟨q0, q1⟩ := row_cells (kept_row HBR.out hSu.out (by simp))
      have q2 := HC.out _ hSu
      go_simp
      first | done | with_reducible rfl
    (try simp only [Act.put, List.setIfInBounds_toArray, List.set_cons_zero, List.set_cons_succ])
    refine wpAnyH_take (i := 4) (oi := { dst := some 23, op := Op.load 3 (Operand.tmp 22), type := 3, pos := "ref.go:214", after := #[{ on := 3, ground := Ground.data }], guard := none }) (v := ?_) rfl (by kernel_rfl) (by kernel_rfl) (by kernel_rfl) (fun _ _ _ h => h) (Or.inl ⟨by rfl, ?_⟩) hHeld ?_
    rotate_left 1
    · intro u hSu
      obtain ⟨q0, q1⟩ := row_cells (kept_row HBR.out hSu.out (by simp))
      have q2 := HC.out _ hSu
      go_simp
      first | done | with_reducible rfl
    (try simp only [Act.put, List.setIfInBounds_toArray, List.set_cons_zero, List.set_cons_succ])
    refine wpAnyH_ready (rs := [5]) (by kernel_rfl) (by simp) ?_
    refine AllReadyH.cons (o := { dst := some 24, op := Op.call { callee := Callee.value (Operand.func 110), args := #[Operand.tmp 19, Operand.tmp 23], argTypes := #[45, 3] }, type := 22, pos := "ref.go:214", after := #[{ on := 0, ground := Ground.data }, { on := 4, ground := Ground.data }], guard := none }) rfl (fun Kz hK => ?_) AllReadyH.nil
    go_simp
    go_at_call 110
    refine (rnear_any ⟨R, L, pR, cR, pL, cL⟩ x _ _ (HT.out.keep hHeld.out) (show R.length ≤ 1000 by omega)).mono ?_
    rintro e w5 ⟨pn, cn, rfl, hRN0, hcn0, -, hg5⟩
    simp only at hRN0 hcn0 ⊢
    rw [HX.out.2.2] at hRN0 hcn0
    rw [HX.out.2.2]
    have hRN := And.intro (Rd.mono hRN0.lt (q' := fun b => w4.heap.size ≤ b ∧ b < w5.heap.size) (fun b hb => ⟨Nat.le_trans hHeld.out.size hb.1, hb.2⟩)) hcn0
    clear hRN0 hcn0
    refine hK.out _ _ (Lib.hid (grown_trans hHeld.out hg5)) (fun hH2 => ?_)
    clear hK Kz hHeld
    have hHeld := hH2
    clear hH2
    (try simp only [Act.put, List.setIfInBounds_toArray, List.set_cons_zero, List.set_cons_succ])
    refine wpAnyH_take (i := 6) (oi := { dst := some 7, op := Op.assign (Operand.tmp 24), type := 22, pos := "ref.go:214", after := #[{ on := 5, ground := Ground.data }, { on := 5, ground := Ground.chain }, { on := 0, ground := Ground.phase }, { on := 1, ground := Ground.phase }, { on := 2, ground := Ground.phase }, { on := 3, ground := Ground.phase }, { on := 4, ground := Ground.phase }, { on := 5, ground := Ground.phase }], guard := none }) (v := ?_) rfl (by kernel_rfl) (by kernel_rfl) (by kernel_rfl) (fun _ _ _ h => h) (Or.inl ⟨by rfl, ?_⟩) hHeld ?_
    rotate_left 1
    · intro u hSu
      obtain ⟨q0, q1⟩ := row_cells (kept_row HBR.out hSu.out (by simp))
      have q2 := HC.out _ hSu
      go_simp
      first | done | with_reducible rfl
    (try simp only [Act.put, List.setIfInBounds_toArray, List.set_cons_zero, List.set_cons_succ])
    refine wpAnyH_done (by kernel_rfl) ?_ _
    have HR5 := Lib.hid hRN
    clear hRN
    have N5 := Lib.hid (N.out.keep hHeld.out)
    have hMl : M.length ≤ 24 := by rw [← HX.out.2.2]; unfold nearR; rw [List.length_map]; exact Nat.le_trans (List.length_filter_le _ _) h24
    have HI0 : Hid (BIa w4 w5 (.slice pn M.length cn) M (.slice (some ⟨b, off, none⟩) O.length cv) w5) := Lib.hid ⟨HR5.out.1, fun g e => .inl (HBO.out g e), Nat.le_refl _⟩
    have hcn1 := HR5.out.2
    clear hHeld HBR HT HC HBO HR5 N i0 i1
    go_wp2_with fail
    go_loopw [5, 8] (fun v a wr => ∃ (k : Nat) (O' : List Int), k ≤ M.length ∧ i < O'.length ∧ a = .int .i64 (k : Int) ∧ Hid (NK wa v O' wr) ∧ Hid (BF L r O' i) ∧ Hid (O'[i]? = some x ∧ ∀ y ∈ M.take k, y ∈ O') ∧ Hid (BIa w4 w5 (.slice pn M.length cn) M v wr)) (fun _ a _ => M.length - (RowKit.intOf a).toNat)
    case atStart => exact ⟨0, O, Nat.zero_le _, hlt, rfl, N5, B, Lib.hid ⟨HX.out.1, fun y h => by cases h⟩, HI0⟩
    case round =>
    obtain ⟨k, O', hk, hiO, rfl, N', B', HO, HI⟩ := hrel
    clear N5 B HI0
    have hOl' : O'.length ≤ R.length := B'.out.len HV.out.1 HV.out.2
    have hrow := N'.out.own
    have hwz := N'.out.gr.size
    obtain ⟨pv', cv', rfl, hv1', hv2'⟩ := own_shape hrow
    by_cases hkt : k < M.length
    · obtain ⟨-, b2, off2, rfl, -, hc2⟩ := rdi_at HI.out.rd (by omega)
      obtain ⟨y, hy⟩ : ∃ y, M[k]? = some y := ⟨_, List.getElem?_eq_getElem hkt⟩
      have a0 := hc2 k y hy
      have HY := Lib.hid hy
      have k0 : (0 : Int) ≤ (k : Int) := by omega
      have k1 : (k : Int) < (M.length : Int) := by omega
      clear hc2 hy
      cases hh : hasI O' y
      · have HH := Lib.hid hh
        go_wp2_with fail
        refine (rhas4_any O' y pv' cv' _ wr (rd_of_own N'.out.own) (by omega)).mono ?_
        rw [hh]
        rintro e w' ⟨rfl, rfl⟩
        go_wp2_with (at_builtin; refine wpList_append_lies _ rfl _ _ 22 rfl wa.heap.size 3 ii (.int .i64 0) 1 8 Tryz.underlying22 hii hi0 hi1 hi2 rfl (by decide) _ _ _ rfl (hrow.alloc _) ⟨wr.heap.size, 0, none⟩ 1 1 [.int .i64 y] rfl rfl ?c1 ?c2 (by decide) ?c3 ?c4 ?c5 _ rfl ?_)
        try (case c1 => exact cell_one _ _ _)
        case c2 => first | rfl | (intro u hu; simp at hu; subst hu; rfl)
        case c3 => first | omega | (unfold maxLen; omega)
        case c4 => omega
        case c5 => first | omega | (simp; omega)
        intro g6 cap6 w6 hown6 hg6 hat6 hlt6
        have N6 := Lib.hid (N'.out.more (grown_refl _ _) hown6 hg6).1
        have I6 := Lib.hid (HI.out.app (n := O'.length + 1) (cap := cap6) hg6 (hat6.imp id fun e => by rw [e]; try simp))
        have B6 := Lib.hid (B'.out.add (by omega) (List.mem_of_getElem? HO.out.1) (y := y) (by rw [HX.out.2.1]; exact List.mem_of_getElem? HY.out) HH.out)
        have HO6 : Hid ((O' ++ [y])[i]? = some x ∧ ∀ z ∈ M.take (k + 1), z ∈ O' ++ [y]) := Lib.hid ⟨by rw [List.getElem?_append_left hiO]; exact HO.out.1, fun z hz => by
          rw [List.take_add_one, HY.out] at hz
          rcases List.mem_append.1 hz with hz | hz
          · exact List.mem_append_left _ (HO.out.2 z hz)
          · exact List.mem_append_right _ (by simpa using hz)⟩
        clear hown6 hg6 hat6 hlt6 hrow hh a0 N' B' HO HI
        go_wp2_with fail
        refine ⟨⟨k + 1, O' ++ [y], by omega, by rw [List.length_append]; omega, congrArg _ (by omega), ?_, B6, HO6, ?_⟩, by simp only [RowKit.intOf]; omega⟩
        · exact N6
        · exact I6
      · have HO6 : Hid (O'[i]? = some x ∧ ∀ z ∈ M.take (k + 1), z ∈ O') := Lib.hid ⟨HO.out.1, fun z hz => by
          rw [List.take_add_one, HY.out] at hz
          rcases List.mem_append.1 hz with hz | hz
          · exact HO.out.2 z hz
          · have : z = y := by simpa using hz
            subst this
            exact hasI_mem.1 hh⟩
        go_wp2_with fail
        refine (rhas4_any O' y pv' cv' _ wr (rd_of_own N'.out.own) (by omega)).mono ?_
        rw [hh]
        rintro e w' ⟨rfl, rfl⟩
        clear hh
        go_wp2_with fail
        exact ⟨⟨k + 1, O', by omega, hiO, congrArg _ (by omega), N', B', HO6, HI⟩, by simp only [RowKit.intOf]; omega⟩
    · obtain rfl : k = M.length := by omega
      have B2 : Hid (BF L r O' (i + 1)) := Lib.hid (B'.out.next HO.out.1 (fun y hy => HO.out.2 y (by rw [List.take_length, ← HX.out.2.1]; exact hy)))
      clear hrow
      go_wp2_with fail
      exact ⟨⟨i + 1, O', by omega, congrArg _ (by omega), N', B2⟩, by simp only [RowKit.intOf]; omega⟩
  · obtain rfl : i = O.length := by omega
    have HD : Hid (insO O = cls L r) := Lib.hid (B.out.done HV.out.1 HV.out.2)
    have I0 : Hid (IR w4 (insO (O.take 0)) (.slice none 0 0) w4) := Lib.hid (IR.nil w4)
    go_wp2_with fail
    go_loopw [9, 10] (fun v a wr => ∃ k : Nat, k ≤ O.length ∧ a = .int .i64 (k : Int) ∧ Hid (IR w4 (insO (O.take k)) v wr)) (fun _ a _ => O.length - (RowKit.intOf a).toNat)
    case atStart => exact ⟨0, Nat.zero_le _, rfl, I0⟩
    case round =>
    obtain ⟨k, hk, rfl, I⟩ := hrel
    clear I0
    by_cases hkt : k < O.length
    · have hg := I.out
      obtain ⟨p, c, rfl, hR, hpn, hc12, hgw⟩ := hg
      have HR := Lib.hid (And.intro hR (And.intro hpn hgw))
      obtain ⟨-, b, off, rfl, -, hc2⟩ := rdi_at ((rd_of_own N.out.own).grown hgw (by simp)) (by omega)
      obtain ⟨y, hy⟩ : ∃ y, O[k]? = some y := ⟨_, List.getElem?_eq_getElem hkt⟩
      have a0 := hc2 k y hy
      have hil := insO_len O k
      have HT2 := Lib.hid (insO_take hy)
      have k0 : (0 : Int) ≤ (k : Int) := by omega
      have k1 : (k : Int) < (O.length : Int) := by omega
      obtain ⟨l, hl⟩ : ∃ l, insO (O.take k) = l := ⟨_, rfl⟩
      rw [hl] at HR hil HT2 hc12 ⊢
      clear hc2 hy hR hpn hgw I hl
      go_wp2_with fail
      refine (rins_any l y p c _ wr HR.out.1 HR.out.2.1 hc12.1 hc12.2 (by omega)).mono ?_
      rintro e w7 ⟨p7, c7, rfl, hR7, hp7, hc7, hg7⟩
      have I7 : Hid (IR w4 (insU l y) (.slice p7 (insU l y).length c7) w7) := Lib.hid ⟨p7, c7, rfl, hR7.mono (fun b hb => by rcases hb with hb | hb; exact hb; exact Nat.le_trans HR.out.2.2.size hb), hp7, hc7, grown_trans HR.out.2.2 hg7⟩
      clear hR7 hp7 hc7 hg7
      go_wp2_with fail
      refine ⟨⟨k + 1, by omega, congrArg _ (by omega), ?_⟩, by simp only [RowKit.intOf]; omega⟩
      rw [HT2.out]
      exact I7
    · obtain rfl : k = O.length := by omega
      rw [List.take_length, HD.out] at I
      have hg := I.out
      obtain ⟨p, c, rfl, hR, hpn, hc12, hgw⟩ := hg
      have HR := Lib.hid (And.intro hR (And.intro hpn (And.intro hc12 hgw)))
      have hcl : (cls L r).length ≤ c := hc12.1
      obtain ⟨l, hl⟩ : ∃ l, cls L r = l := ⟨_, rfl⟩
      have HL := Lib.hid hl
      rw [hl] at HR ⊢
      clear hR hpn hc12 hgw I hl hcl HD
      go_wp2_with fail
      go_ret
      rw [HL.out]
      have g1 := grown_trans HB.out.2.1 N.out.gr
      exact ⟨p, c, rfl, HR.out.1.mono (fun b hb => Nat.le_trans g1.size hb), HR.out.2.2.1, HR.out.2.1, grown_trans g1 HR.out.2.2.2⟩
end Go.Proofs.YtahafijpcmphaaaGreat

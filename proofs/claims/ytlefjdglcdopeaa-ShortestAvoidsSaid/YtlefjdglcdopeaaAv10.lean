/- Parts of the proof, packed: ShNxt, ToApM, ShCto, ShPass. -/
import Derived.Test.YtlefjdglcdopeaaAv9
import Derived.Test.YtlefjdglcdopeaaAv7
import Derived.Test.YtlefjdglcdopeaaAv6
import Derived.BigQuiet
/- shortest.nextTo. -/
namespace Go.Proofs.Ytlefjdglcdopeaa
open Go.RowKit Go.Maps Bs
/-- Of the neighbours of r those with which least walks go on. -/
def nxP (f : Int → Option Int) (r : Int) (n : Int × Int) : Bool := match f n.1 with
    | some x => decide (n.2 + x = (f r).getD 0)
    | none => false
def nxM (f : Int → Option Int) (r : Int) (M : List (Int × Int)) : List Int := (M.filter (nxP f r)).map (·.1)
set_option maxRecDepth 100000 in
theorem nxM_next (L : List Lk) (f : Int → Option Int) (r : Int) : nextV L f r = nxM f r (nbD L r) := rfl
set_option maxRecDepth 100000 in
theorem nxM_snoc {f : Int → Option Int} {r : Int} {M : List (Int × Int)} {k : Nat} {y : Int × Int} (h : M[k]? = some y) : nxM f r (M.take (k + 1)) = nxM f r (M.take k) ++ (if nxP f r y = true then [y.1] else []) := by
  unfold nxM
  rw [List.take_add_one, h, List.filter_append, List.map_append]
  congr 1
  by_cases hp : nxP f r y = true
  · rw [if_pos hp]
    simp [hp]
  · rw [if_neg hp]
    simp [hp]
set_option maxRecDepth 100000 in
theorem nxM_len (f : Int → Option Int) (r : Int) (M : List (Int × Int)) : (nxM f r M).length ≤ M.length := by
  unfold nxM
  rw [List.length_map]
  exact List.length_filter_le _ _
set_option maxRecDepth 100000 in
theorem NK.base {w w1 wr : World} {v : Value} {l : List Int} (h : NK w1 v l wr) (g : w.grownBy w1 none) : NK w v l wr := ⟨h.own.mono g.size, grown_trans g h.gr⟩
set_option maxRecDepth 100000 in
theorem dst_rng {R : List Rt} {L : List Lk} {z : Int} (h : hasV R L z = true) {r : Int} {n : Int × Int} (hn : n ∈ nbD L r) : (1 ≤ n.2 ∧ n.2 ≤ 1000) ∧ 1 ≤ n.1 ∧ n.1 ≤ 99 := by
  have := (okT_g (hasV_iff.1 h).1).edg (nbD_mem.1 (show (n.1, n.2) ∈ nbD L r from hn))
  exact ⟨this.1, this.2.2⟩
set_option maxRecDepth 100000 in
set_option maxHeartbeats 6400000 in
theorem tnxW_any (T : Tg) (r z : Int) (v : Value) (q q2 : Nat → Prop) (w : World) (hT : TgOk w q T) (h2 : T.L.length ≤ 1000) (hr : okT T.R T.L = true → I64 r) (hV : CV w q2 v (fun x => dst T.R T.L x z) (hasV T.R T.L z)) :
    Calls Try.prog 42 #[.agg #[.slice T.pR T.R.length T.cR, .slice T.pL T.L.length T.cL], .int .i64 r, v] w fun e w' => TRet (nextV T.L (fun x => dst T.R T.L x z) r) w e w' := by
  obtain ⟨i0, hi, hz0, hz1, hz2⟩ := info_parts info_int
  obtain ⟨R, L, pR, cR, pL, cL⟩ := T
  simp only at h2 hr hV ⊢
  obtain ⟨k1, k2⟩ := tone_box w #[.slice pR R.length cR, .slice pL L.length cL] 28
  have HB := Lib.hid (And.intro k1 (And.intro k2 (hT.keep k2)))
  have HV := Lib.hid (hV.keep k2)
  have HI := Lib.hid hr
  clear k1 k2 hT hr hV
  obtain ⟨c0, c1⟩ := row_cells HB.out.1
  obtain ⟨f, hf⟩ : ∃ f : Int → Option Int, (fun x => dst R L x z) = f := ⟨_, rfl⟩
  have HF : Hid (∀ x d, f x = some d → 0 ≤ d ∧ d ≤ 24000) := Lib.hid (fun x d h => by rw [← hf] at h; exact (dst_bd h).1)
  rw [hf] at HV ⊢
  clear hf
  obtain ⟨X, hX⟩ : ∃ X, nextV L f r = X := ⟨_, rfl⟩
  have HX := Lib.hid hX
  rw [hX]
  clear hX
  go_enter Try.func42, Try.ntmps42
  go_wp2_with fail
  refine (tnearby_any L r pL cL _ _ HB.out.2.2.l h2).mono ?_
  rintro e w7 ⟨vn, rfl, hown7, hg7⟩
  obtain ⟨pn, cn, rfl, hcn1, hcn2⟩ := own_shape hown7
  have hml := nbD_len r L
  have HW7 := Lib.hid (grown_trans HB.out.2.1 hg7)
  have HV7 := Lib.hid (HV.out.keep hg7)
  obtain ⟨M, hM⟩ : ∃ M, nbD L r = M := ⟨_, rfl⟩
  have HMM := Lib.hid hM
  rw [hM] at hown7 hcn1 hml ⊢
  have HN := Lib.hid (rdf_of_own2 hown7)
  have hm2 : M.length ≤ 2000 := by omega
  have N0 : Hid (NK w7 (.slice none 0 0) (nxM f r (M.take 0)) w7) := Lib.hid ⟨World.ownsRow_nil _ _ _ _, grown_refl _ _⟩
  clear hM hown7 hg7 hml c0 c1 HV
  go_wp2_with fail
  go_loopw [7, 17] (fun vo a wr => ∃ (k : Nat) (va : Value), va = vo ∧ k ≤ M.length ∧ a = .int .i64 (k : Int) ∧ Hid (NK w7 va (nxM f r (M.take k)) wr)) (fun _ a _ => M.length - (RowKit.intOf a).toNat)
  case atStart => exact ⟨0, _, rfl, Nat.zero_le _, rfl, N0⟩
  case round =>
    obtain ⟨k, va, rfl, hk, rfl, NN⟩ := hrel
    clear N0
    by_cases hlt : k < M.length
    · obtain ⟨-, b, off, rfl, hq, hc⟩ := dsn_cells (HN.out.keep NN.out.gr) (by omega)
      obtain ⟨y, hy⟩ : ∃ y, M[k]? = some y := ⟨_, List.getElem?_eq_getElem hlt⟩
      obtain ⟨a0, a1⟩ := hc k y hy
      have HS := Lib.hid (nxM_snoc (f := f) (r := r) hy)
      have hlen := nxM_len f r (M.take k)
      have hltk : (M.take k).length ≤ k := List.length_take_le _ _
      have gal := World.grownBy_alloc wr (.cells #[.int .i64 y.1, .int .i64 y.2] 80) none
      have hbx := heap_alloc_new wr (.cells #[.int .i64 y.1, .int .i64 y.2] 80)
      have HG := Lib.hid gal
      have HBX := Lib.hid hbx
      have HYM := Lib.hid (List.mem_of_getElem? hy)
      clear hc hy gal hbx
      go_upto_region 5 with fail
      clear a0 a1
      generalize wr.alloc _ = wy at *
      have NY := Lib.hid (NN.out.keep HG.out)
      have HVY := Lib.hid ((HV7.out.keep NN.out.gr).keep HG.out)
      obtain ⟨d0, d1⟩ := row_cells HBX.out
      obtain ⟨A, hA⟩ : ∃ A, nxM f r (M.take k) = A := ⟨_, rfl⟩
      rw [hA] at NY HS hlen
      have hAl : A.length ≤ 2000 := by omega
      clear hA hlen hltk
      -- the neighbour has no cost
      cases hf : f y.1 with
      | none =>
        have q1 : (Instr.lookup 69 v (.int .i64 y.1) true).run Try.prog wy = .ok (.tuple #[.int .i64 0, .bool false]) wy := by
          rcases HVY.out with ⟨-, rfl, -⟩ | ⟨h3, -⟩
          · exact (look_none wy y.1).2
          · have h4 := dst_rng h3 (r := r) (n := y) (by rw [HMM.out]; exact HYM.out)
            have h5 := (HVY.out.look (x := y.1) (by unfold I64; omega)).2
            rw [hf] at h5
            exact h5
        have hp : nxP f r y = false := by unfold nxP; rw [hf]
        rw [hp] at HS
        have HS2 : Hid (nxM f r (M.take (k + 1)) = A) := Lib.hid (by rw [HS.out]; simp)
        clear hp hf
        go_wp2_with fail
        exact ⟨⟨k + 1, _, rfl, by omega, congrArg _ (by omega), by rw [HS2.out]; exact NY⟩, by simp only [RowKit.intOf]; omega⟩
      | some x =>
        have h3 : hasV R L z = true := by
          rcases HVY.out with ⟨-, -, h⟩ | ⟨h3, -⟩
          · rw [h] at hf; cases hf
          · exact h3
        have h4 := dst_rng h3 (r := r) (n := y) (by rw [HMM.out]; exact HYM.out)
        have q1 := (HVY.out.look (x := y.1) (by unfold I64; omega)).2
        have q2 := (HVY.out.look (x := r) (HI.out (hasV_iff.1 h3).1)).1
        have hx := HF.out y.1 x hf
        obtain ⟨t, ht⟩ : ∃ t, (f r).getD 0 = t := ⟨_, rfl⟩
        rw [ht] at q2
        have hp : nxP f r y = decide (y.2 + x = t) := by unfold nxP; rw [hf, ht]
        rw [hf] at q1
        simp only [Option.getD_some, Option.isSome_some] at q1
        rw [hp] at HS
        clear hp hf ht h3
        by_cases he : y.2 + x = t
        · have HS2 : Hid (nxM f r (M.take (k + 1)) = A ++ [y.1]) := Lib.hid (by rw [HS.out, decide_eq_true he]; rfl)
          have he' : (y.2 + x == t) = true := by simpa using he
          have hown := NY.out.own
          have hsz := NY.out.gr.size
          clear HS he
          go_wp2_with (at_builtin; refine hold_on ?_)
          refine Lib.hid ?_
          refine wpList_append_lies _ rfl _ _ 22 rfl w7.heap.size 3 i0 (.int .i64 0) 1 8 Try.underlying22 hi hz0 hz1 hz2 rfl (by decide) _ _ _ rfl (hown.alloc _) ⟨wy.heap.size, 0, none⟩ 1 1 [.int .i64 y.1] rfl rfl ?c1 ?c2 (by decide) ?c3 ?c4 ?c5 _ rfl ?_
          try (case c1 => exact cell_one _ _ _)
          case c2 => (intro u hu; simp at hu; rcases hu with rfl; rfl)
          case c3 => first | omega | (unfold maxLen; omega)
          case c4 => omega
          case c5 => first | omega | (simp; omega)
          intro gq capq w8 hown8 hg8 hat8 hlt8
          obtain ⟨vq, hvq⟩ : ∃ vq, Value.slice (some ⟨gq, 0, none⟩) (A.length + 1) capq = vq := ⟨_, rfl⟩
          rw [hvq] at hown8 ⊢
          obtain ⟨n1, -⟩ := NY.out.more (x := y.1) (grown_refl _ _) hown8 hg8
          have N1 : Hid (NK w7 vq (nxM f r (M.take (k + 1))) w8) := Lib.hid (by rw [HS2.out]; exact n1)
          clear hvq hat8 hlt8 hg8 hown n1 hown8
          go_wp2_with fail
          exact ⟨⟨k + 1, _, rfl, by omega, congrArg _ (by omega), N1⟩, by simp only [RowKit.intOf]; omega⟩
        · have HS2 : Hid (nxM f r (M.take (k + 1)) = A) := Lib.hid (by rw [HS.out, decide_eq_false he]; simp)
          have he' : (y.2 + x == t) = false := by simpa using he
          clear HS he
          go_wp2_with fail
          exact ⟨⟨k + 1, _, rfl, by omega, congrArg _ (by omega), by rw [HS2.out]; exact NY⟩, by simp only [RowKit.intOf]; omega⟩
    · obtain rfl : k = M.length := by omega
      have hN := NN.out
      rw [List.take_length, ← HMM.out, ← nxM_next, HX.out] at hN
      have H9 := Lib.hid (hN.base HW7.out).ret
      clear hN NN
      go_wp2_with fail
      go_ret
      obtain ⟨p, c, rfl, h3⟩ := H9.out
      exact ⟨p, c, rfl, h3⟩
set_option maxRecDepth 100000 in
theorem tnx_any (T : Tg) (r z : Int) (v : Value) (q q2 : Nat → Prop) (w : World) (hT : TgOk w q T) (h2 : T.L.length ≤ 1000) (hr : I64 r) (hV : CV w q2 v (fun x => dst T.R T.L x z) (hasV T.R T.L z)) :
    Calls Try.prog 42 #[.agg #[.slice T.pR T.R.length T.cR, .slice T.pL T.L.length T.cL], .int .i64 r, v] w fun e w' => TRet (nextV T.L (fun x => dst T.R T.L x z) r) w e w' :=
  tnxW_any T r z v q q2 w hT h2 (fun _ => hr) hV
end Go.Proofs.Ytlefjdglcdopeaa

/- Apply: the values. -/
namespace Go.Proofs.Ytlefjdglcdopeaa
open Go.RowKit Bs
def sameE (x l : Lk) : Bool := decide (l.a = x.a ∧ l.b = x.b)
def goneC (c : Ch) : Bool := c.ca == 0 && c.cb == 0
def fndL (L : List Lk) (x : Lk) : Bool := L.any (sameE x)
/-- The error of Apply. -/
def errV (R : List Rt) (L : List Lk) (c : Ch) : Int :=
  if !okT R L then 1
  else if !(hasR R c.a && hasR R c.b) then 4
  else if c.a = c.b then 8
  else if !goneC c && wrNum (lkOf c) then 2
  else if goneC c && !fndL L (lkOf c) then 9
  else if !fndL L (lkOf c) && decide (L.length = 60) then 3 else 0
def chgL (x l : Lk) : Lk := if sameE x l then ⟨l.a, l.b, x.ca, x.cb, l.cp⟩ else l
/-- The links behind Apply. -/
def linksV (L : List Lk) (c : Ch) : List Lk :=
  if goneC c then L.filter (fun l => !sameE (lkOf c) l) else if fndL L (lkOf c) then L.map (chgL (lkOf c)) else insL L (lkOf c)
set_option maxRecDepth 100000 in
theorem lkOf_ends (c : Ch) : (lkOf c).cp = 0 ∧ (((lkOf c).a = c.a ∧ (lkOf c).b = c.b ∧ (lkOf c).ca = c.ca ∧ (lkOf c).cb = c.cb ∧ c.a ≤ c.b) ∨ ((lkOf c).a = c.b ∧ (lkOf c).b = c.a ∧ (lkOf c).ca = c.cb ∧ (lkOf c).cb = c.ca ∧ c.b < c.a)) := by
  unfold lkOf
  by_cases h : c.b < c.a
  · rw [if_pos h]
    exact ⟨rfl, .inr ⟨rfl, rfl, rfl, rfl, h⟩⟩
  · rw [if_neg h]
    exact ⟨rfl, .inl ⟨rfl, rfl, rfl, rfl, by omega⟩⟩
set_option maxRecDepth 100000 in
theorem sameE_iff (x l : Lk) : sameE x l = true ↔ l.a = x.a ∧ l.b = x.b := by unfold sameE; rw [decide_eq_true_eq]
set_option maxRecDepth 100000 in
theorem fnd_iff (L : List Lk) (x : Lk) : fndL L x = true ↔ ∃ l ∈ L, l.a = x.a ∧ l.b = x.b := by
  unfold fndL
  rw [List.any_eq_true]
  simp only [sameE_iff]
set_option maxRecDepth 100000 in
/-- What the binary search tells. -/
theorem bs_fnd {R : List Rt} {L : List Lk} (ho : OkAll R L) {x : Lk} {b : Bool} {i : Nat} (h : BsP cvL L ⟨x.a, x.b, 0, 0, 0⟩ i b) : fndL L x = b := by
  obtain ⟨h1, h2⟩ := bs_link ho h
  rw [Bool.eq_iff_iff, fnd_iff]
  constructor
  · rintro ⟨l, hl, e1, e2⟩
    exact (h2 l hl e1 e2).1
  · intro hb
    obtain ⟨l, hl, e1, e2⟩ := h1 hb
    exact ⟨l, List.mem_of_getElem? hl, e1, e2⟩
set_option maxRecDepth 100000 in
theorem ends_inj {R : List Rt} {L : List Lk} (ho : OkAll R L) {i j : Nat} {l m : Lk} (hi : L[i]? = some l) (hj : L[j]? = some m) (e1 : l.a = m.a) (e2 : l.b = m.b) : i = j := by
  have hp := pair_of_asc ltL (fun _ _ _ => ltL_trans) L ho.ls
  rcases Nat.lt_trichotomy i j with h | h | h
  · have := of_decide_eq_true (pair_get hp h hi hj)
    omega
  · exact h
  · have := of_decide_eq_true (pair_get hp h hj hi)
    omega
set_option maxRecDepth 100000 in
theorem map_at {α : Type} {f : α → α} {L : List α} {i : Nat} {l : α} (hl : L[i]? = some l) (h : ∀ j m, j ≠ i → L[j]? = some m → f m = m) : L.map f = L.set i (f l) := by
  apply List.ext_getElem?
  intro j
  rw [List.getElem?_map, List.getElem?_set]
  by_cases e : i = j
  · subst e
    rw [if_pos rfl, hl, if_pos (List.getElem?_eq_some_iff.1 hl).1]
    rfl
  · rw [if_neg e]
    cases hj : L[j]? with
    | none => rfl
    | some m => exact congrArg some (h j m (fun h => e h.symm) hj)
set_option maxRecDepth 100000 in
theorem set_links {R : List Rt} {L : List Lk} (ho : OkAll R L) {x l : Lk} {i : Nat} (hl : L[i]? = some l) (e1 : l.a = x.a) (e2 : l.b = x.b) : L.map (chgL x) = L.set i ⟨l.a, l.b, x.ca, x.cb, l.cp⟩ := by
  have h1 : chgL x l = ⟨l.a, l.b, x.ca, x.cb, l.cp⟩ := by
    unfold chgL
    rw [if_pos ((sameE_iff x l).2 ⟨e1, e2⟩)]
  rw [← h1]
  refine map_at hl (fun j m hj hm => ?_)
  unfold chgL
  rw [if_neg]
  rw [sameE_iff]
  rintro ⟨k1, k2⟩
  exact hj (ends_inj ho hm hl (by omega) (by omega))
set_option maxRecDepth 100000 in
theorem flat_set2 (l x : Lk) : ∀ (L : List Lk) (i : Nat), L[i]? = some l → (L.set i ⟨l.a, l.b, x.ca, x.cb, l.cp⟩).flatMap lkC = ((L.flatMap lkC).set (i * 5 + 2) (.int .i64 x.ca)).set (i * 5 + 3) (.int .i64 x.cb)
  | [], i, h => by simp at h
  | m :: t, 0, h => by
    obtain rfl : m = l := by simpa using h
    rfl
  | m :: t, i + 1, h => by
    have ih := flat_set2 l x t i (by simpa using h)
    rw [List.set_cons_succ, List.flatMap_cons, ih, List.flatMap_cons]
    have e2 : (i + 1) * 5 + 2 = (lkC m).length + (i * 5 + 2) := by
      show (i + 1) * 5 + 2 = 5 + (i * 5 + 2)
      omega
    have e3 : (i + 1) * 5 + 3 = (lkC m).length + (i * 5 + 3) := by
      show (i + 1) * 5 + 3 = 5 + (i * 5 + 3)
      omega
    rw [e2, e3, List.set_append_right _ _ (Nat.le_add_right _ _), Nat.add_sub_cancel_left, List.set_append_right _ _ (Nat.le_add_right _ _), Nat.add_sub_cancel_left]
set_option maxRecDepth 100000 in
/-- A row of links, two cells of one link stored. -/
theorem own_set2 {w : World} {base n cap g i : Nat} {L : List Lk} {l x : Lk} (h : w.ownsRow base 44 5 (.slice (some ⟨g, 0, none⟩) n cap) L.length (L.flatMap lkC)) (hl : L[i]? = some l) :
    ((w.setCell ⟨g, i * 5 + 2, none⟩ (.int .i64 x.ca)).setCell ⟨g, i * 5 + 3, none⟩ (.int .i64 x.cb)).ownsRow base 44 5 (.slice (some ⟨g, 0, none⟩) n cap) (L.set i ⟨l.a, l.b, x.ca, x.cb, l.cp⟩).length ((L.set i ⟨l.a, l.b, x.ca, x.cb, l.cp⟩).flatMap lkC) := by
  have hn : n = L.length := by
    obtain ⟨p, c, e, _⟩ := own_shape h
    injection e
  subst hn
  obtain ⟨s1, -⟩ := h.stored (i * 5 + 2) (.int .i64 x.ca)
  obtain ⟨s2, -⟩ := s1.stored (i * 5 + 3) (.int .i64 x.cb)
  rw [List.length_set, flat_set2 l x L i hl]
  exact s2
set_option maxRecDepth 100000 in
theorem own_set2' {w : World} {base n cap g i : Nat} {L : List Lk} {l x : Lk} (h : w.ownsRow base 44 5 (.slice (some ⟨g, 0, none⟩) n cap) L.length (L.flatMap lkC)) (hl : L[i]? = some l) :
    ((w.setCell ⟨g, i * 5 + 3, none⟩ (.int .i64 x.cb)).setCell ⟨g, i * 5 + 2, none⟩ (.int .i64 x.ca)).ownsRow base 44 5 (.slice (some ⟨g, 0, none⟩) n cap) (L.set i ⟨l.a, l.b, x.ca, x.cb, l.cp⟩).length ((L.set i ⟨l.a, l.b, x.ca, x.cb, l.cp⟩).flatMap lkC) := by
  have hn : n = L.length := by
    obtain ⟨p, c, e, _⟩ := own_shape h
    injection e
  subst hn
  obtain ⟨s1, -⟩ := h.stored (i * 5 + 3) (.int .i64 x.cb)
  obtain ⟨s2, -⟩ := s1.stored (i * 5 + 2) (.int .i64 x.ca)
  rw [List.length_set, flat_set2 l x L i hl, List.set_comm _ _ (by omega)]
  exact s2
end Go.Proofs.Ytlefjdglcdopeaa

/- shortest.costsTo: links flipped, then costsFrom. -/
namespace Go.Proofs.Ytlefjdglcdopeaa
open Go.RowKit Go.Maps Bs
def flipK (l : Lk) : Lk := ⟨l.a, l.b, l.cb, l.ca, l.cp⟩
/-- The first k links are flipped. -/
def flK (L : List Lk) (k : Nat) : List Lk := flipL (L.take k) ++ L.drop k
set_option maxRecDepth 100000 in
theorem flK_len (L : List Lk) (k : Nat) : (flK L k).length = L.length := by
  unfold flK flipL
  rw [List.length_append, List.length_map, List.length_take, List.length_drop]
  omega
set_option maxRecDepth 100000 in
theorem flK_at {L : List Lk} {k : Nat} {l : Lk} (h : L[k]? = some l) : (flK L k)[k]? = some l := by
  have hk := (List.getElem?_eq_some_iff.1 h).1
  unfold flK flipL
  rw [List.getElem?_append_right (by rw [List.length_map, List.length_take]; omega), List.length_map, List.length_take, Nat.min_eq_left (by omega), Nat.sub_self, List.getElem?_drop, Nat.add_zero]
  exact h
set_option maxRecDepth 100000 in
theorem flK_set {L : List Lk} {k : Nat} {l : Lk} (h : L[k]? = some l) : (flK L k).set k (flipK l) = flK L (k + 1) := by
  have hk := (List.getElem?_eq_some_iff.1 h).1
  unfold flK flipL
  have hl : (List.map (fun l : Lk => (⟨l.a, l.b, l.cb, l.ca, l.cp⟩ : Lk)) (L.take k)).length = k := by rw [List.length_map, List.length_take]; omega
  rw [List.set_append_right _ _ (by omega), hl, Nat.sub_self, List.take_add_one, h, List.map_append, List.append_assoc]
  congr 1
  have hd : L.drop k = l :: L.drop (k + 1) := by
    rw [List.drop_eq_getElem_cons hk]
    congr 1
    rw [List.getElem?_eq_getElem hk] at h
    exact Option.some.inj h
  rw [hd]
  rfl
set_option maxRecDepth 100000 in
theorem flK_end (L : List Lk) : flK L L.length = flipL L := by
  unfold flK
  rw [List.take_length, List.drop_length, List.append_nil]
/-- What memory holds while the links are flipped. -/
structure FK (w : World) (T : Tg) (v : Value) (k : Nat) (wr : World) : Prop where
  gb : wr.heap[w.heap.size]? = some (.cells #[.slice T.pR T.R.length T.cR, .slice T.pL T.L.length T.cL] 28 (0, 0))
  t : TgOk wr (· < w.heap.size) T
  o : wr.ownsRow (w.heap.size + 1) 44 5 v T.L.length ((flK T.L k).flatMap lkC)
  gr : w.grownBy wr none
set_option maxRecDepth 100000 in
theorem FK.put {w wr w' : World} {T : Tg} {v : Value} {k k' g : Nat} (h : FK w T v k wr) (gg : wr.grownBy w' (some g)) (hg : w.heap.size < g) (ho : w'.ownsRow (w.heap.size + 1) 44 5 v T.L.length ((flK T.L k').flatMap lkC)) : FK w T v k' w' :=
  ⟨kept_row h.gb gg (fun e => by have := Option.some.inj e; omega), h.t.grown gg (fun b hb e => by have := Option.some.inj e; have h2 : b < w.heap.size := hb; omega), ho, grown_any h.gr gg (fun b hb e => by have := Option.some.inj e; omega)⟩
set_option maxRecDepth 100000 in
theorem FK.keep {w wr w' : World} {T : Tg} {v : Value} {k : Nat} (h : FK w T v k wr) (g : wr.grownBy w' none) : FK w T v k w' :=
  ⟨kept_row h.gb g (by simp), h.t.keep g, h.o.kept g (by cases hv : v.ownBlock <;> simp), grown_trans h.gr g⟩
set_option maxRecDepth 100000 in
set_option maxHeartbeats 6400000 in
theorem tct_any (T : Tg) (z : Int) (q : Nat → Prop) (w : World) (hT : TgOk w q T) (h1 : T.R.length ≤ 1000) (h2 : T.L.length ≤ 1000) (hp : T.pL = none → T.cL = 0) :
    Calls Try.prog 43 #[.agg #[.slice T.pR T.R.length T.cR, .slice T.pL T.L.length T.cL], .int .i64 z] w fun e w' => CgPost (fun x => dst T.R T.L x z) (hasV T.R T.L z) w e w' := by
  obtain ⟨R, L, pR, cR, pL, cL⟩ := T
  simp only at h1 h2 hp ⊢
  obtain ⟨k1, k2⟩ := tone_box w #[.slice pR R.length cR, .slice pL L.length cL] 28
  have HB := Lib.hid (And.intro k1 (And.intro k2 (hT.old.keep k2)))
  clear k1 k2 hT
  obtain ⟨c0, c1⟩ := row_cells HB.out.1
  obtain ⟨f, hf⟩ : ∃ f : Int → Option Int, (fun x => dst R L x z) = f := ⟨_, rfl⟩
  obtain ⟨ok, hok⟩ : ∃ ok, hasV R L z = ok := ⟨_, rfl⟩
  have HF := Lib.hid (And.intro hf hok)
  rw [hf, hok]
  clear hf hok
  go_enter Try.func43, Try.ntmps43
  go_wp2_with fail
  refine (tcloneL_any L pL cL _ _ HB.out.2.2.l hp HB.out.2.2.cl h2).mono ?_
  rintro e w7 ⟨v, rfl, hown, hg⟩
  have F0 : Hid (FK w ⟨R, L, pR, cR, pL, cL⟩ v 0 w7) := Lib.hid ⟨kept_row HB.out.1 hg (by simp), HB.out.2.2.keep hg, by rw [show flK L 0 = L from rfl]; exact hown.mono (by simp), grown_trans HB.out.2.1 hg⟩
  obtain ⟨p, cap, rfl, hc1, hc2⟩ := own_shape hown
  clear hown hg c0 c1
  go_wp2_with fail
  go_loopw [13] (fun a wr => ∃ k : Nat, k ≤ L.length ∧ a = .int .i64 (k : Int) ∧ Hid (FK w ⟨R, L, pR, cR, pL, cL⟩ (.slice p L.length cap) k wr)) (fun a _ => L.length - (RowKit.intOf a).toNat)
  case atStart => exact ⟨0, Nat.zero_le _, rfl, F0⟩
  case round =>
    obtain ⟨k, hk, rfl, F⟩ := hrel
    clear F0
    by_cases hlt : k < L.length
    · obtain ⟨g, rfl⟩ : ∃ g, p = some ⟨g, 0, none⟩ := by
        rcases Joins.ownsRow_forms F.out.o with ⟨e, e0⟩ | ⟨g1, cap1, e⟩
        · have e1 : L.length = 0 := e0
          omega
        · injection e with e1 e2 e3
          exact ⟨g1, e1⟩
      obtain ⟨l, hl⟩ : ∃ l, L[k]? = some l := ⟨_, List.getElem?_eq_getElem hlt⟩
      have hown := F.out.o
      have hgl := hown.lt g rfl
      have hat := flK_at hl
      have hfl : ((flK L k).flatMap lkC).length = L.length * 5 := by rw [flat_len lkC 5 (fun _ => rfl), flK_len]
      have hcell : ∀ j, j < 5 → wr.cell? ⟨g, k * 5 + j, none⟩ = (lkC l)[j]? := fun j hj => (hown.cellAt (k * 5 + j) (by omega)).trans (flat_at lkC 5 (fun _ => rfl) (flK L k) k j l hat hj)
      have a0 : wr.cell? ⟨g, k * 5, none⟩ = some (.int .i64 l.a) := hcell 0 (by decide)
      have a1 : wr.cell? ⟨g, k * 5 + 1, none⟩ = some (.int .i64 l.b) := hcell 1 (by decide)
      have a2 : wr.cell? ⟨g, k * 5 + 2, none⟩ = some (.int .i64 l.ca) := hcell 2 (by decide)
      have a3 : wr.cell? ⟨g, k * 5 + 3, none⟩ = some (.int .i64 l.cb) := hcell 3 (by decide)
      have a4 : wr.cell? ⟨g, k * 5 + 4, none⟩ = some (.int .i64 l.cp) := hcell 4 (by decide)
      have gal := World.grownBy_alloc wr (.cells #[.int .i64 l.a, .int .i64 l.b, .int .i64 l.ca, .int .i64 l.cb, .int .i64 l.cp] 44) none
      have hbx := heap_alloc_new wr (.cells #[.int .i64 l.a, .int .i64 l.b, .int .i64 l.ca, .int .i64 l.cb, .int .i64 l.cp] 44)
      have HG := Lib.hid gal
      have HBX := Lib.hid hbx
      have HL := Lib.hid (And.intro hl hgl)
      clear hown hat hfl hcell gal hbx hl hgl
      go_upto_region 5 with fail
      clear a0 a1 a2 a3 a4
      generalize wr.alloc _ = wy at *
      have FY := Lib.hid (F.out.keep HG.out)
      have HS : Hid (∀ u, Hid (wy.grownBy u (some g)) → u.heap[wr.heap.size]? = some (.cells #[.int .i64 l.a, .int .i64 l.b, .int .i64 l.ca, .int .i64 l.cb, .int .i64 l.cp] 44 (0, 0))) := Lib.hid (fun u hu => kept_row HBX.out hu.out (fun e => by have := Option.some.inj e; have := HL.out.2.2; omega))
      have hk1 : (k : Int) < (L.length : Int) := by omega
      refine wp_region_held_drew (S := fun w' => Hid (wy.grownBy w' (some g))) (by kernel_rfl) (Lib.hid (grown_drew (grown_refl _ _))) (fun hHeld => ?_)
      refine wpAnyH_take (i := 0) (oi := { dst := some 18, op := Op.move (Operand.tmp 5), type := 26, pos := "shortest.go:121", after := #[], guard := none }) (v := ?_) rfl (by kernel_rfl) (by kernel_rfl) (by kernel_rfl) (fun _ _ _ h => h) (Or.inl ⟨by rfl, ?_⟩) hHeld ?_
      rotate_left 1
      · intro u hSu
        obtain ⟨l0, l1, l2, l3, l4⟩ := lk_facts (HS.out _ hSu)
        go_simp
        first | done | with_reducible rfl
      (try simp only [Act.put, List.setIfInBounds_toArray, List.set_cons_zero, List.set_cons_succ])
      refine wpAnyH_take (i := 1) (oi := { dst := some 19, op := Op.move (Operand.tmp 6), type := 3, pos := "shortest.go:121", after := #[], guard := none }) (v := ?_) rfl (by kernel_rfl) (by kernel_rfl) (by kernel_rfl) (fun _ _ _ h => h) (Or.inl ⟨by rfl, ?_⟩) hHeld ?_
      rotate_left 1
      · intro u hSu
        obtain ⟨l0, l1, l2, l3, l4⟩ := lk_facts (HS.out _ hSu)
        go_simp
        first | done | with_reducible rfl
      (try simp only [Act.put, List.setIfInBounds_toArray, List.set_cons_zero, List.set_cons_succ])
      refine wpAnyH_take (i := 2) (oi := { dst := some 20, op := Op.move (Operand.tmp 5), type := 26, pos := "shortest.go:121", after := #[{ on := 10, ground := Ground.gcOnly Departure.lateStores }], guard := none }) (v := ?_) rfl (by kernel_rfl) (by kernel_rfl) (by kernel_rfl) (fun _ _ _ h => h) (Or.inl ⟨by rfl, ?_⟩) hHeld ?_
      rotate_left 1
      · intro u hSu
        obtain ⟨l0, l1, l2, l3, l4⟩ := lk_facts (HS.out _ hSu)
        go_simp
        first | done | with_reducible rfl
      (try simp only [Act.put, List.setIfInBounds_toArray, List.set_cons_zero, List.set_cons_succ])
      refine wpAnyH_take (i := 3) (oi := { dst := some 21, op := Op.move (Operand.tmp 6), type := 3, pos := "shortest.go:121", after := #[{ on := 10, ground := Ground.gcOnly Departure.lateStores }], guard := none }) (v := ?_) rfl (by kernel_rfl) (by kernel_rfl) (by kernel_rfl) (fun _ _ _ h => h) (Or.inl ⟨by rfl, ?_⟩) hHeld ?_
      rotate_left 1
      · intro u hSu
        obtain ⟨l0, l1, l2, l3, l4⟩ := lk_facts (HS.out _ hSu)
        go_simp
        first | done | with_reducible rfl
      (try simp only [Act.put, List.setIfInBounds_toArray, List.set_cons_zero, List.set_cons_succ])
      refine wpAnyH_take (i := 4) (oi := { dst := some 22, op := Op.fieldAddr 44 (Operand.tmp 7) 3, type := 0, pos := "shortest.go:121", after := #[], guard := none }) (v := ?_) rfl (by kernel_rfl) (by kernel_rfl) (by kernel_rfl) (fun _ _ _ h => h) (Or.inl ⟨by rfl, ?_⟩) hHeld ?_
      rotate_left 1
      · intro u hSu
        obtain ⟨l0, l1, l2, l3, l4⟩ := lk_facts (HS.out _ hSu)
        go_simp
        first | done | with_reducible rfl
      (try simp only [Act.put, List.setIfInBounds_toArray, List.set_cons_zero, List.set_cons_succ])
      refine wpAnyH_take (i := 5) (oi := { dst := some 23, op := Op.load 3 (Operand.tmp 22), type := 3, pos := "shortest.go:121", after := #[{ on := 4, ground := Ground.data }], guard := none }) (v := ?_) rfl (by kernel_rfl) (by kernel_rfl) (by kernel_rfl) (fun _ _ _ h => h) (Or.inl ⟨by rfl, ?_⟩) hHeld ?_
      rotate_left 1
      · intro u hSu
        obtain ⟨l0, l1, l2, l3, l4⟩ := lk_facts (HS.out _ hSu)
        go_simp
        first | done | with_reducible rfl
      (try simp only [Act.put, List.setIfInBounds_toArray, List.set_cons_zero, List.set_cons_succ])
      refine wpAnyH_take (i := 6) (oi := { dst := some 24, op := Op.fieldAddr 44 (Operand.tmp 7) 2, type := 0, pos := "shortest.go:121", after := #[{ on := 10, ground := Ground.gcOnly Departure.lateStores }], guard := none }) (v := ?_) rfl (by kernel_rfl) (by kernel_rfl) (by kernel_rfl) (fun _ _ _ h => h) (Or.inl ⟨by rfl, ?_⟩) hHeld ?_
      rotate_left 1
      · intro u hSu
        obtain ⟨l0, l1, l2, l3, l4⟩ := lk_facts (HS.out _ hSu)
        go_simp
        first | done | with_reducible rfl
      (try simp only [Act.put, List.setIfInBounds_toArray, List.set_cons_zero, List.set_cons_succ])
      refine wpAnyH_take (i := 7) (oi := { dst := some 25, op := Op.load 3 (Operand.tmp 24), type := 3, pos := "shortest.go:121", after := #[{ on := 6, ground := Ground.data }, { on := 10, ground := Ground.gcOnly Departure.lateStores }], guard := none }) (v := ?_) rfl (by kernel_rfl) (by kernel_rfl) (by kernel_rfl) (fun _ _ _ h => h) (Or.inl ⟨by rfl, ?_⟩) hHeld ?_
      rotate_left 1
      · intro u hSu
        obtain ⟨l0, l1, l2, l3, l4⟩ := lk_facts (HS.out _ hSu)
        go_simp
        first | done | with_reducible rfl
      (try simp only [Act.put, List.setIfInBounds_toArray, List.set_cons_zero, List.set_cons_succ])
      refine wpAnyH_take (i := 8) (oi := { dst := some 26, op := Op.indexAddr 26 (Operand.tmp 18) (Operand.tmp 19), type := 0, pos := "shortest.go:121", after := #[{ on := 0, ground := Ground.data }, { on := 1, ground := Ground.data }, { on := 0, ground := Ground.phase }, { on := 1, ground := Ground.phase }, { on := 2, ground := Ground.textOnly Departure.lateStores }, { on := 3, ground := Ground.textOnly Departure.lateStores }, { on := 4, ground := Ground.phase }, { on := 5, ground := Ground.phase }, { on := 6, ground := Ground.textOnly Departure.lateStores }, { on := 7, ground := Ground.textOnly Departure.lateStores }], guard := none }) (v := ?_) rfl (by kernel_rfl) (by kernel_rfl) (by kernel_rfl) (fun _ _ _ h => h) (Or.inl ⟨by rfl, ?_⟩) hHeld ?_
      rotate_left 1
      · intro u hSu
        obtain ⟨l0, l1, l2, l3, l4⟩ := lk_facts (HS.out _ hSu)
        go_simp
        first | done | with_reducible rfl
      (try simp only [Act.put, List.setIfInBounds_toArray, List.set_cons_zero, List.set_cons_succ])
      refine wpAnyH_take (i := 9) (oi := { dst := some 27, op := Op.fieldAddr 44 (Operand.tmp 26) 2, type := 0, pos := "shortest.go:121", after := #[{ on := 8, ground := Ground.data }, { on := 0, ground := Ground.phase }, { on := 1, ground := Ground.phase }, { on := 2, ground := Ground.textOnly Departure.lateStores }, { on := 3, ground := Ground.textOnly Departure.lateStores }, { on := 4, ground := Ground.phase }, { on := 5, ground := Ground.phase }, { on := 6, ground := Ground.textOnly Departure.lateStores }, { on := 7, ground := Ground.textOnly Departure.lateStores }], guard := none }) (v := ?_) rfl (by kernel_rfl) (by kernel_rfl) (by kernel_rfl) (fun _ _ _ h => h) (Or.inl ⟨by rfl, ?_⟩) hHeld ?_
      rotate_left 1
      · intro u hSu
        obtain ⟨l0, l1, l2, l3, l4⟩ := lk_facts (HS.out _ hSu)
        go_simp
        first | done | with_reducible rfl
      (try simp only [Act.put, List.setIfInBounds_toArray, List.set_cons_zero, List.set_cons_succ])
      refine wpAnyH_ready (rs := [10]) (by kernel_rfl) (by simp) ?_
      refine AllReadyH.cons (o := { dst := none, op := Op.store 3 (Operand.tmp 27) (Operand.tmp 23), type := 0, pos := "shortest.go:121", after := #[{ on := 9, ground := Ground.data }, { on := 5, ground := Ground.data }, { on := 0, ground := Ground.phase }, { on := 1, ground := Ground.phase }, { on := 2, ground := Ground.textOnly Departure.lateStores }, { on := 3, ground := Ground.textOnly Departure.lateStores }, { on := 4, ground := Ground.phase }, { on := 5, ground := Ground.phase }, { on := 6, ground := Ground.textOnly Departure.lateStores }, { on := 7, ground := Ground.textOnly Departure.lateStores }], guard := none }) rfl (fun Kz hK => ?_) AllReadyH.nil
      have z2 : wy.cell? ⟨g, k * 5 + 2, none⟩ = some (.int .i64 l.ca) := (FY.out.o.cellAt (k * 5 + 2) (by show k * 5 + 2 < L.length * 5; omega)).trans (flat_at lkC 5 (fun _ => rfl) (flK L k) k 2 l (flK_at HL.out.1) (by decide))
      have y2 := FY.out.o.frozenAt (k * 5 + 2)
      go_simp
      refine hK.out _ _ (Lib.hid (grown_trans hHeld.out (grown_setCell _ ⟨g, k * 5 + 2, none⟩ _))) (fun hH2 => ?_)
      clear hK Kz hHeld
      have hHeld := hH2
      clear hH2
      (try simp only [Act.put, List.setIfInBounds_toArray, List.set_cons_zero, List.set_cons_succ])
      refine wpAnyH_take (i := 11) (oi := { dst := some 28, op := Op.indexAddr 26 (Operand.tmp 20) (Operand.tmp 21), type := 0, pos := "shortest.go:121", after := #[{ on := 2, ground := Ground.data }, { on := 3, ground := Ground.data }, { on := 0, ground := Ground.phase }, { on := 1, ground := Ground.phase }, { on := 2, ground := Ground.phase }, { on := 3, ground := Ground.phase }, { on := 4, ground := Ground.phase }, { on := 5, ground := Ground.phase }, { on := 6, ground := Ground.phase }, { on := 7, ground := Ground.phase }, { on := 8, ground := Ground.phase }, { on := 9, ground := Ground.phase }, { on := 10, ground := Ground.phase }], guard := none }) (v := ?_) rfl (by kernel_rfl) (by kernel_rfl) (by kernel_rfl) (fun _ _ _ h => h) (Or.inl ⟨by rfl, ?_⟩) hHeld ?_
      rotate_left 1
      · intro u hSu
        obtain ⟨l0, l1, l2, l3, l4⟩ := lk_facts (HS.out _ hSu)
        go_simp
        first | done | with_reducible rfl
      (try simp only [Act.put, List.setIfInBounds_toArray, List.set_cons_zero, List.set_cons_succ])
      refine wpAnyH_take (i := 12) (oi := { dst := some 29, op := Op.fieldAddr 44 (Operand.tmp 28) 3, type := 0, pos := "shortest.go:121", after := #[{ on := 11, ground := Ground.data }, { on := 0, ground := Ground.phase }, { on := 1, ground := Ground.phase }, { on := 2, ground := Ground.phase }, { on := 3, ground := Ground.phase }, { on := 4, ground := Ground.phase }, { on := 5, ground := Ground.phase }, { on := 6, ground := Ground.phase }, { on := 7, ground := Ground.phase }, { on := 8, ground := Ground.phase }, { on := 9, ground := Ground.phase }, { on := 10, ground := Ground.phase }], guard := none }) (v := ?_) rfl (by kernel_rfl) (by kernel_rfl) (by kernel_rfl) (fun _ _ _ h => h) (Or.inl ⟨by rfl, ?_⟩) hHeld ?_
      rotate_left 1
      · intro u hSu
        obtain ⟨l0, l1, l2, l3, l4⟩ := lk_facts (HS.out _ hSu)
        go_simp
        first | done | with_reducible rfl
      (try simp only [Act.put, List.setIfInBounds_toArray, List.set_cons_zero, List.set_cons_succ])
      refine wpAnyH_ready (rs := [13]) (by kernel_rfl) (by simp) ?_
      refine AllReadyH.cons (o := { dst := none, op := Op.store 3 (Operand.tmp 29) (Operand.tmp 25), type := 0, pos := "shortest.go:121", after := #[{ on := 12, ground := Ground.data }, { on := 7, ground := Ground.data }, { on := 10, ground := Ground.chain }, { on := 0, ground := Ground.phase }, { on := 1, ground := Ground.phase }, { on := 2, ground := Ground.phase }, { on := 3, ground := Ground.phase }, { on := 4, ground := Ground.phase }, { on := 5, ground := Ground.phase }, { on := 6, ground := Ground.phase }, { on := 7, ground := Ground.phase }, { on := 8, ground := Ground.phase }, { on := 9, ground := Ground.phase }, { on := 10, ground := Ground.phase }], guard := none }) rfl (fun Kz hK => ?_) AllReadyH.nil
      have z3 : wy.cell? ⟨g, k * 5 + 3, none⟩ = some (.int .i64 l.cb) := (FY.out.o.cellAt (k * 5 + 3) (by show k * 5 + 3 < L.length * 5; omega)).trans (flat_at lkC 5 (fun _ => rfl) (flK L k) k 3 l (flK_at HL.out.1) (by decide))
      have y3 := FY.out.o.frozenAt (k * 5 + 3)
      go_simp
      refine hK.out _ _ (Lib.hid (grown_trans hHeld.out (grown_setCell _ ⟨g, k * 5 + 3, none⟩ _))) (fun hH2 => ?_)
      clear hK Kz hHeld
      have hHeld := hH2
      clear hH2
      (try simp only [Act.put, List.setIfInBounds_toArray, List.set_cons_zero, List.set_cons_succ])
      refine wpAnyH_done (by kernel_rfl) ?_ _
      have hset := own_set2 (x := ⟨0, 0, l.cb, l.ca, 0⟩) (i := k) (show wy.ownsRow (w.heap.size + 1) 44 5 (.slice (some ⟨g, 0, none⟩) L.length cap) (flK L k).length ((flK L k).flatMap lkC) by rw [flK_len]; exact FY.out.o) (flK_at HL.out.1)
      rw [show (⟨l.a, l.b, l.cb, l.ca, l.cp⟩ : Lk) = flipK l from rfl, flK_set HL.out.1, flK_len] at hset
      have hgs : wy.grownBy ((wy.setCell ⟨g, k * 5 + 2, none⟩ (.int .i64 l.cb)).setCell ⟨g, k * 5 + 3, none⟩ (.int .i64 l.ca)) (some g) := grown_trans (grown_setCell wy ⟨g, k * 5 + 2, none⟩ (.int .i64 l.cb)) (grown_setCell _ ⟨g, k * 5 + 3, none⟩ (.int .i64 l.ca))
      have F9 := Lib.hid (FY.out.put (k' := k + 1) (grown_drew hgs) (by have := HL.out.2.1; omega) hset.drew)
      clear hset hgs hHeld z2 y2 z3 y3 HS FY
      try clear l0 l1 l2 l3 l4
      generalize ((wy.setCell ⟨g, k * 5 + 2, none⟩ (.int .i64 l.cb)).setCell ⟨g, k * 5 + 3, none⟩ (.int .i64 l.ca)).drew = ws at *
      go_wp2_with fail
      exact ⟨⟨k + 1, by omega, congrArg _ (by omega), F9⟩, by simp only [RowKit.intOf]; omega⟩
    · obtain rfl : k = L.length := by omega
      obtain ⟨c0, c1⟩ := row_cells F.out.gb
      have hro := F.out.o
      simp only at hro
      rw [flK_end] at hro
      have hll : (flipL L).length = L.length := by unfold flipL; rw [List.length_map]
      have HT2 : Hid (TgOk wr (fun _ => True) ⟨R, flipL L, pR, cR, p, cap⟩) := Lib.hid ⟨F.out.t.r.mono (fun _ _ => trivial), by
        have h3 := (rdf_of_own hro).mono (q' := fun _ => True) (fun _ _ => trivial)
        show RdF wr _ _ (flipL L).length _
        rw [hll]
        exact h3, F.out.t.cr, by simp only; omega⟩
      have HLL := Lib.hid hll
      clear hro hll
      go_wp2_with fail
      have h9 := tcg_any ⟨R, flipL L, pR, cR, p, cap⟩ z _ wr HT2.out h1 (by simp only; rw [HLL.out]; omega)
      simp only at h9
      rw [HLL.out] at h9
      refine h9.mono ?_
      rintro e w9 ⟨v9, rfl, hv9, hg9⟩
      have H9 := Lib.hid (And.intro hv9 hg9)
      clear hv9 hg9 h9 c0 c1
      go_wp2_with fail
      go_ret
      refine ⟨_, rfl, ?_, grown_trans F.out.gr H9.out.2⟩
      have h8 := H9.out.1.mono (q' := (w.heap.size ≤ ·)) (fun b hb _ => Nat.le_trans F.out.gr.size hb)
      rw [hasV_flip, HF.out.2] at h8
      rw [show dst R (flipL L) z = f from (funext fun x => dst_flip R L z x).trans HF.out.1] at h8
      exact h8
end Go.Proofs.Ytlefjdglcdopeaa

/- shortest.passes and Avoids. -/
namespace Go.Proofs.Ytlefjdglcdopeaa
open Go.RowKit Go.Maps Bs
/-- Some shortest path from a to b passes r. -/
noncomputable def psV (R : List Rt) (L : List Lk) (a b r : Int) : Bool := match dst R L a r, dst R L r b with
  | some x, some y => decide (x + y = (dst R L a b).getD 0)
  | _, _ => false
set_option maxRecDepth 100000 in
theorem getD_bd {R : List Rt} {L : List Lk} {a b : Int} : 0 ≤ (dst R L a b).getD 0 ∧ (dst R L a b).getD 0 ≤ 24000 := by
  cases h : dst R L a b with
  | none => exact ⟨Int.le_refl _, by decide⟩
  | some d => exact (dst_bd h).1
set_option maxRecDepth 100000 in
theorem CV.lookW {w : World} {q : Nat → Prop} {v : Value} {f : Int → Option Int} {ok : Bool} (h : CV w q v f ok) {x : Int} (hx : ok = true → I64 x) :
    (Instr.lookup 69 v (.int .i64 x) false).run Try.prog w = .ok (.int .i64 ((f x).getD 0)) w ∧ (Instr.lookup 69 v (.int .i64 x) true).run Try.prog w = .ok (.tuple #[.int .i64 ((f x).getD 0), .bool (f x).isSome]) w := by
  cases ok with
  | true => exact h.look (hx rfl)
  | false =>
    rcases h with ⟨-, rfl, hf⟩ | ⟨h, -⟩
    · rw [hf x]
      exact look_none w x
    · cases h
set_option maxRecDepth 100000 in
set_option maxHeartbeats 3200000 in
theorem tpasW_any (T : Tg) (a b r : Int) (q : Nat → Prop) (w : World) (hT : TgOk w q T) (h1 : T.R.length ≤ 1000) (h2 : T.L.length ≤ 1000) (hb : I64 b) (hr : okT T.R T.L = true → I64 r) :
    Calls Try.prog 53 #[.agg #[.slice T.pR T.R.length T.cR, .slice T.pL T.L.length T.cL], .int .i64 a, .int .i64 b, .int .i64 r] w fun e w' => e = .returned (.bool (psV T.R T.L a b r)) ∧ w.grownBy w' none := by
  obtain ⟨R, L, pR, cR, pL, cL⟩ := T
  simp only at h1 h2 hr ⊢
  obtain ⟨k1, k2⟩ := tone_box w #[.slice pR R.length cR, .slice pL L.length cL] 28
  have HB := Lib.hid (And.intro k1 (And.intro k2 (hT.keep k2)))
  have HI := Lib.hid (And.intro hb hr)
  clear k1 k2 hT hb hr
  obtain ⟨c0, c1⟩ := row_cells HB.out.1
  obtain ⟨t, ht⟩ : ∃ t, (dst R L a b).getD 0 = t := ⟨_, rfl⟩
  have htb : 0 ≤ t ∧ t ≤ 24000 := by rw [← ht]; exact getD_bd
  obtain ⟨z, hz⟩ : ∃ z, psV R L a b r = z := ⟨_, rfl⟩
  have HT := Lib.hid (And.intro ht hz)
  rw [hz]
  clear ht hz
  go_enter Try.func53, Try.ntmps53
  go_wp2_with fail
  refine (tcg_any ⟨R, L, pR, cR, pL, cL⟩ a _ _ HB.out.2.2 h1 h2).mono ?_
  rintro e w1 ⟨v, rfl, hv, g1⟩
  have HV := Lib.hid hv
  have HB1 := Lib.hid (And.intro (kept_row HB.out.1 g1 (by simp)) (And.intro (grown_trans HB.out.2.1 g1) (HB.out.2.2.keep g1)))
  have q1 := (hv.lookW (fun h => HI.out.2 (hasV_iff.1 h).1)).2
  simp only at q1
  clear g1 c0 c1 hv
  obtain ⟨c0, c1⟩ := row_cells HB1.out.1
  cases hx : dst R L a r with
  | none =>
    rw [hx] at q1
    simp only [Option.getD_none, Option.isSome_none] at q1
    have HZ : Hid (z = false) := Lib.hid (by rw [← HT.out.2]; unfold psV; rw [hx])
    clear hx
    go_wp2_with fail
    refine (tcs_any ⟨R, L, pR, cR, pL, cL⟩ r b _ _ HB1.out.2.2 h1 h2 HI.out.1).mono ?_
    rintro e w2 ⟨rfl, g2⟩
    (try simp only)
    have HG := Lib.hid (grown_trans HB1.out.2.1 g2)
    obtain ⟨y, hy⟩ : ∃ y, (dst R L r b).getD 0 = y := ⟨_, rfl⟩
    obtain ⟨s, hs⟩ : ∃ s, (dst R L r b).isSome = s := ⟨_, rfl⟩
    rw [hy, hs]
    clear hy hs g2 c0 c1 q1
    go_wp2_with fail
    go_ret
    rw [HZ.out]
    exact ⟨rfl, HG.out⟩
  | some x =>
    rw [hx] at q1
    simp only [Option.getD_some, Option.isSome_some] at q1
    have hxb := (dst_bd hx).1
    go_wp2_with fail
    refine (tcs_any ⟨R, L, pR, cR, pL, cL⟩ r b _ _ HB1.out.2.2 h1 h2 HI.out.1).mono ?_
    rintro e w2 ⟨rfl, g2⟩
    (try simp only)
    have HG := Lib.hid (grown_trans HB1.out.2.1 g2)
    have q3 := ((HV.out.keep g2).look HI.out.1).1
    (try simp only at q3)
    rw [HT.out.1] at q3
    cases hy : dst R L r b with
    | none =>
      have HZ : Hid (z = false) := Lib.hid (by rw [← HT.out.2]; unfold psV; rw [hx, hy])
      simp only [Option.getD_none, Option.isSome_none]
      clear hx hy g2 c0 c1 q1
      go_wp2_with fail
      go_ret
      rw [HZ.out]
      exact ⟨rfl, HG.out⟩
    | some y =>
      have hyb := (dst_bd hy).1
      have HZ : Hid (z = decide (x + y = t)) := Lib.hid (by rw [← HT.out.2, ← HT.out.1]; unfold psV; rw [hx, hy])
      simp only [Option.getD_some, Option.isSome_some]
      clear hx hy g2 c0 c1 q1
      by_cases he : x + y = t
      · have he' : (x + y == t) = true := by simpa using he
        have HZ2 : Hid (z = true) := Lib.hid (by rw [HZ.out, decide_eq_true he])
        clear he
        go_wp2_with fail
        go_ret
        rw [HZ2.out]
        exact ⟨rfl, HG.out⟩
      · have he' : (x + y == t) = false := by simpa using he
        have HZ2 : Hid (z = false) := Lib.hid (by rw [HZ.out, decide_eq_false he])
        clear he
        go_wp2_with fail
        go_ret
        rw [HZ2.out]
        exact ⟨rfl, HG.out⟩
set_option maxRecDepth 100000 in
theorem tpas_any (T : Tg) (a b r : Int) (q : Nat → Prop) (w : World) (hT : TgOk w q T) (h1 : T.R.length ≤ 1000) (h2 : T.L.length ≤ 1000) (hb : I64 b) (hr : I64 r) :
    Calls Try.prog 53 #[.agg #[.slice T.pR T.R.length T.cR, .slice T.pL T.L.length T.cL], .int .i64 a, .int .i64 b, .int .i64 r] w fun e w' => e = .returned (.bool (psV T.R T.L a b r)) ∧ w.grownBy w' none :=
  tpasW_any T a b r q w hT h1 h2 hb (fun _ => hr)
noncomputable def avV (R : List Rt) (L : List Lk) (a b r : Int) : Bool := (dst R L a b).isSome && !psV R L a b r
set_option maxRecDepth 100000 in
set_option maxHeartbeats 3200000 in
theorem tav_any (T : Tg) (a b r : Int) (q : Nat → Prop) (w : World) (hT : TgOk w q T) (h1 : T.R.length ≤ 1000) (h2 : T.L.length ≤ 1000) (hb : I64 b) (hr : I64 r) :
    Calls Try.prog 27 #[.agg #[.slice T.pR T.R.length T.cR, .slice T.pL T.L.length T.cL], .int .i64 a, .int .i64 b, .int .i64 r] w fun e w' => e = .returned (.bool (avV T.R T.L a b r)) ∧ w.grownBy w' none := by
  obtain ⟨R, L, pR, cR, pL, cL⟩ := T
  simp only at h1 h2 ⊢
  obtain ⟨k1, k2⟩ := tone_box w #[.slice pR R.length cR, .slice pL L.length cL] 28
  have HB := Lib.hid (And.intro k1 (And.intro k2 (hT.keep k2)))
  have HI := Lib.hid (And.intro hb hr)
  clear k1 k2 hT hb hr
  obtain ⟨c0, c1⟩ := row_cells HB.out.1
  obtain ⟨z, hz⟩ : ∃ z, avV R L a b r = z := ⟨_, rfl⟩
  have HT := Lib.hid hz
  rw [hz]
  clear hz
  go_enter Try.func27, Try.ntmps27
  go_wp2_with fail
  refine (tcs_any ⟨R, L, pR, cR, pL, cL⟩ a b _ _ HB.out.2.2 h1 h2 HI.out.1).mono ?_
  rintro e w1 ⟨rfl, g1⟩
  (try simp only)
  have HB1 := Lib.hid (And.intro (kept_row HB.out.1 g1 (by simp)) (And.intro (grown_trans HB.out.2.1 g1) (HB.out.2.2.keep g1)))
  clear c0 c1 g1
  obtain ⟨c0, c1⟩ := row_cells HB1.out.1
  obtain ⟨y, hy⟩ : ∃ y, (dst R L a b).getD 0 = y := ⟨_, rfl⟩
  rw [hy]
  clear hy
  cases hs : (dst R L a b).isSome with
  | false =>
    have HZ : Hid (z = false) := Lib.hid (by rw [← HT.out]; unfold avV; rw [hs]; rfl)
    clear hs
    go_wp2_with fail
    go_ret
    rw [HZ.out]
    exact ⟨rfl, HB1.out.2.1⟩
  | true =>
    have HZ : Hid (z = !psV R L a b r) := Lib.hid (by rw [← HT.out]; unfold avV; rw [hs]; rfl)
    clear hs
    go_wp2_with fail
    refine (tpas_any ⟨R, L, pR, cR, pL, cL⟩ a b r _ _ HB1.out.2.2 h1 h2 HI.out.1 HI.out.2).mono ?_
    rintro e w2 ⟨rfl, g2⟩
    (try simp only)
    obtain ⟨p, hp⟩ : ∃ p, psV R L a b r = p := ⟨_, rfl⟩
    rw [hp] at HZ ⊢
    have HG := Lib.hid (grown_trans HB1.out.2.1 g2)
    clear hp g2 c0 c1
    cases p with
    | false =>
      go_wp2_with fail
      go_ret
      rw [HZ.out]
      exact ⟨rfl, HG.out⟩
    | true =>
      go_wp2_with fail
      go_ret
      rw [HZ.out]
      exact ⟨rfl, HG.out⟩
end Go.Proofs.Ytlefjdglcdopeaa

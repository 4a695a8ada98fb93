/- Parts of the proof, packed: ToRaM, ToApF. -/
import Derived.Test.YtiencdgmnkphjaaApl15
import Derived.Test.YtiencdgmnkphjaaApl5
import Derived.Test.YtiencdgmnkphjaaApl6
import Derived.Test.YtiencdgmnkphjaaApl12
import Derived.Test.YtiencdgmnkphjaaApl9
/- The reference's Apply: what its loop makes; what Apply leaves is valid. -/
namespace Go.Proofs.Ytiencdgmnkphjaa
open Go.RowKit Bs
/-- One round of the reference's loop: the links so far, whether the change is in, its capacity. -/
def stA (x : Lk) (s : List Lk × Bool × Int) (l : Lk) : List Lk × Bool × Int :=
  if l.a = x.a ∧ l.b = x.b then (s.1 ++ [⟨x.a, x.b, x.ca, x.cb, l.cp⟩], true, l.cp)
  else if s.2.1 = false ∧ (x.a < l.a ∨ (x.a = l.a ∧ x.b < l.b)) then (s.1 ++ [⟨x.a, x.b, x.ca, x.cb, s.2.2⟩] ++ [l], true, s.2.2)
  else (s.1 ++ [l], s.2.1, s.2.2)
def rsA (x : Lk) (L : List Lk) : List Lk × Bool × Int := L.foldl (stA x) ([], false, x.cp)
theorem rsA_take (x : Lk) (L : List Lk) (k : Nat) (l : Lk) (h : L[k]? = some l) : rsA x (L.take (k + 1)) = stA x (rsA x (L.take k)) l := by
  unfold rsA
  rw [List.take_add_one, h, List.foldl_append]
  rfl
theorem stA_len (x : Lk) : ∀ (L : List Lk) (s : List Lk × Bool × Int), (L.foldl (stA x) s).1.length ≤ s.1.length + 2 * L.length
  | [], s => by simp
  | l :: t, s => by
    refine Nat.le_trans (stA_len x t _) ?_
    have : (stA x s l).1.length ≤ s.1.length + 2 := by
      unfold stA
      by_cases h1 : l.a = x.a ∧ l.b = x.b
      · rw [if_pos h1]; simp
      · rw [if_neg h1]
        by_cases h2 : s.2.1 = false ∧ (x.a < l.a ∨ (x.a = l.a ∧ x.b < l.b))
        · rw [if_pos h2]; simp
        · rw [if_neg h2]; simp
    rw [List.length_cons]
    omega
theorem rsA_len (x : Lk) (L : List Lk) : (rsA x L).1.length ≤ 2 * L.length := by
  have := stA_len x L ([], false, x.cp)
  simpa [rsA] using this
/-- What the reference returns. -/
def finA (x : Lk) (s : List Lk × Bool × Int) : List Lk := if s.2.1 then s.1 else s.1 ++ [⟨x.a, x.b, x.ca, x.cb, s.2.2⟩]
theorem stA_true {x : Lk} : ∀ (T O : List Lk) (p : Int), (∀ l ∈ T, ¬ (l.a = x.a ∧ l.b = x.b)) → T.foldl (stA x) (O, true, p) = (O ++ T, true, p)
  | [], O, p, _ => by simp
  | l :: t, O, p, h => by
    have e : stA x (O, true, p) l = (O ++ [l], true, p) := by
      unfold stA
      rw [if_neg (h l (by simp)), if_neg (by simp)]
    rw [List.foldl_cons, e, stA_true t (O ++ [l]) p (fun m hm => h m (by simp [hm])), List.append_assoc]
    rfl
theorem stA_low {x : Lk} : ∀ (T O : List Lk) (p : Int), (∀ l ∈ T, ltL l x = true) → T.foldl (stA x) (O, false, p) = (O ++ T, false, p)
  | [], O, p, _ => by simp
  | l :: t, O, p, h => by
    have h0 := of_decide_eq_true (h l (by simp))
    have e : stA x (O, false, p) l = (O ++ [l], false, p) := by
      unfold stA
      rw [if_neg (by omega), if_neg (by simp only [true_and]; omega)]
    rw [List.foldl_cons, e, stA_low t (O ++ [l]) p (fun m hm => h m (by simp [hm])), List.append_assoc]
    rfl
theorem rsA_fin {R : List Rt} {L : List Lk} (ho : OkAll R L) (x : Lk) : finA x (rsA x L) = if fndL L x then L.map (chgL x) else insL L x := by
  have hp := pair_of_asc ltL (fun _ _ _ => ltL_trans) L ho.ls
  obtain ⟨A, hA⟩ : ∃ A, L.takeWhile (fun z => ltL z x) = A := ⟨_, rfl⟩
  obtain ⟨B, hB⟩ : ∃ B, L.dropWhile (fun z => ltL z x) = B := ⟨_, rfl⟩
  have hAB : A ++ B = L := by rw [← hA, ← hB]; exact List.takeWhile_append_dropWhile
  have hlow : ∀ l ∈ A, ltL l x = true := fun l hl => by
    rw [← hA] at hl
    exact (List.all_eq_true.1 (List.all_takeWhile (l := L) (p := fun z => ltL z x))) l hl
  have hins : insL L x = A ++ x :: B := by unfold insL; rw [hA, hB]
  have hneA : ∀ l ∈ A, sameE x l = false := fun l hl => by
    have h0 := of_decide_eq_true (hlow l hl)
    exact decide_eq_false (by omega)
  have hmapA : ∀ T : List Lk, (∀ l ∈ T, sameE x l = false) → T.map (chgL x) = T := fun T hT => by
    have : ∀ l ∈ T, chgL x l = l := fun l hl => by unfold chgL; rw [hT l hl]; rfl
    rw [List.map_congr_left this, List.map_id']
  have e0 : rsA x L = B.foldl (stA x) (A, false, x.cp) := by
    unfold rsA
    rw [← hAB, List.foldl_append, stA_low A [] x.cp hlow]
    rfl
  have hany : fndL L x = B.any (sameE x) := by
    unfold fndL
    rw [← hAB, List.any_append, List.any_eq_false.2 (fun l hl => by rw [hneA l hl]; simp), Bool.false_or]
  rw [e0, hany, hins]
  match hBm : B with
  | [] =>
    simp only [List.foldl_nil, List.any_nil, finA]
    rfl
  | m :: t =>
    have hm : ltL m x = false := by
      have := List.head?_dropWhile_not (fun z => ltL z x) L
      rw [hB] at this
      simpa using this
    have hm' := of_decide_eq_false hm
    have hpt : ∀ l ∈ t, ltL m l = true := fun l hl => by
      rw [← hAB] at hp
      exact (List.pairwise_cons.1 (List.pairwise_append.1 hp).2.1).1 l hl
    have hnet : ∀ l ∈ t, ¬ (l.a = x.a ∧ l.b = x.b) := fun l hl e => by
      have h1 := of_decide_eq_true (hpt l hl)
      omega
    rw [List.foldl_cons, List.any_cons]
    by_cases hs : m.a = x.a ∧ m.b = x.b
    · have es : stA x (A, false, x.cp) m = (A ++ [⟨x.a, x.b, x.ca, x.cb, m.cp⟩], true, m.cp) := by unfold stA; rw [if_pos hs]
      have hse : sameE x m = true := decide_eq_true hs
      rw [es, stA_true t _ _ hnet, hse, Bool.true_or, if_pos rfl, ← hAB, List.map_append, List.map_cons, hmapA A hneA, hmapA t (fun l hl => decide_eq_false (hnet l hl))]
      unfold finA chgL
      rw [if_pos rfl, if_pos hse, hs.1, hs.2, List.append_assoc]
      rfl
    · have es : stA x (A, false, x.cp) m = (A ++ [⟨x.a, x.b, x.ca, x.cb, x.cp⟩] ++ [m], true, x.cp) := by
        unfold stA
        rw [if_neg hs, if_pos ⟨rfl, by omega⟩]
      have hse : sameE x m = false := decide_eq_false hs
      have hta : t.any (sameE x) = false := List.any_eq_false.2 (fun l hl => by rw [show sameE x l = false from decide_eq_false (hnet l hl)]; simp)
      rw [es, stA_true t _ _ hnet, hse, hta, Bool.false_or, if_neg (by simp)]
      unfold finA
      rw [if_pos rfl, List.append_assoc, List.append_assoc]
      rfl
theorem OkAll.endsLt {R : List Rt} {L : List Lk} (ho : OkAll R L) : ∀ l ∈ L, l.a < l.b := fun l hl => by
  have := List.any_eq_false.1 ho.en l hl
  unfold wrEnd at this
  rw [decide_eq_true_eq] at this
  omega
/-- The reference finds the link that the program finds. -/
theorem price_fnd {R : List Rt} {L : List Lk} (ho : OkAll R L) (c : Ch) (_ : c.a ≠ c.b) : (priceV L c.a c.b).2 = fndL L (lkOf c) := by
  have hk := lkOf_ends c
  have key : ∀ l ∈ L, (priceB c.a c.b l).isSome = sameE (lkOf c) l := fun l hl => by
    have hlt := ho.endsLt l hl
    unfold priceB sameE
    by_cases h1 : l.a = c.a ∧ l.b = c.b
    · rw [if_pos h1, decide_eq_true (by omega)]; rfl
    · rw [if_neg h1]
      by_cases h2 : l.b = c.a ∧ l.a = c.b
      · rw [if_pos h2, decide_eq_true (by omega)]; rfl
      · rw [if_neg h2, decide_eq_false (by omega)]; rfl
  unfold priceV fndL
  cases hf : L.findSome? (priceB c.a c.b) with
  | some y =>
    obtain ⟨l, hl, hy⟩ := List.exists_of_findSome?_eq_some hf
    have h1 := key l hl
    rw [hy] at h1
    exact (List.any_eq_true.2 ⟨l, hl, h1.symm⟩).symm
  | none =>
    have h0 := List.findSome?_eq_none_iff.1 hf
    refine (List.any_eq_false.2 (fun l hl => ?_)).symm
    have h1 := key l hl
    rw [h0 l hl] at h1
    rw [← h1]
    simp
/-- Without the link alone. -/
theorem gone_woL {R : List Rt} {L : List Lk} (ho : OkAll R L) (c : Ch) (_ : c.a ≠ c.b) (p : Option Addr) (n m : Nat) (p2 : Option Addr) : woL ⟨[⟨c.a, c.b⟩], [], p, n, p2, m⟩ L = L.filter (fun l => !sameE (lkOf c) l) := by
  have hk := lkOf_ends c
  unfold woL
  refine List.filter_congr (fun l hl => ?_)
  have hlt := ho.endsLt l hl
  have h0 : ∀ z, hasI [] z = false := fun _ => rfl
  unfold woK
  rw [h0, h0]
  simp only [Bool.not_false, Bool.true_and]
  congr 1
  unfold nmd sameE isH
  simp only [List.any_cons, List.any_nil, Bool.or_false]
  rw [Bool.eq_iff_iff, Bool.or_eq_true, decide_eq_true_eq, decide_eq_true_eq, decide_eq_true_eq]
  omega
theorem gone_woR (R : List Rt) (c : Ch) (p : Option Addr) (n m : Nat) (p2 : Option Addr) : woR ⟨[⟨c.a, c.b⟩], [], p, n, p2, m⟩ R = R := by
  unfold woR
  rw [List.filter_eq_self]
  intro r _
  rfl
theorem wrNum_ch (c : Ch) : wrNum (lkOf c) = !(coK c.ca && coK c.cb) := by
  have hk := lkOf_ends c
  unfold wrNum coK
  congr 1
  rw [Bool.eq_iff_iff, Bool.and_eq_true, decide_eq_true_eq, decide_eq_true_eq, decide_eq_true_eq]
  omega
/-- What Apply leaves is valid. -/
theorem apply_ok {R : List Rt} {L : List Lk} (c : Ch) (he : errV R L c = 0) : chk R (linksV L c) = 0 := by
  unfold errV at he
  cases hv : okT R L
  · rw [hv] at he; cases he
  have ho := okT_all hv
  rw [hv] at he
  cases h1 : (hasR R c.a && hasR R c.b)
  · rw [h1] at he; cases he
  rw [h1] at he
  have h1' := Bool.and_eq_true_iff.1 h1
  by_cases hab : c.a = c.b
  · rw [if_pos hab] at he; cases he
  rw [if_neg hab] at he
  have hk := lkOf_ends c
  have hxl : (lkOf c).a < (lkOf c).b := by omega
  have hxu : unk R (lkOf c) = false := by
    unfold unk
    rcases hk.2 with ⟨e1, e2, -⟩ | ⟨e1, e2, -⟩
    · rw [e1, e2, h1'.1, h1'.2]; rfl
    · rw [e1, e2, h1'.1, h1'.2]; rfl
  have hpair := pair_of_asc ltL (fun _ _ _ => ltL_trans) L ho.ls
  unfold linksV
  cases hg : goneC c
  case true =>
    refine okAll_chk ⟨ho.l1, Nat.le_trans (List.length_filter_le _ _) ho.l2, ho.id, ho.rs, any_filter _ _ ho.nm, any_filter _ _ ho.un, any_filter _ _ ho.en, asc_filter ltL (fun _ _ _ => ltL_trans) _ ho.ls⟩
  rw [hg] at he
  cases hw : wrNum (lkOf c)
  case true => rw [hw] at he; cases he
  rw [hw] at he
  have hw' : (1 ≤ (lkOf c).ca ∧ (lkOf c).ca ≤ 1000) ∧ (1 ≤ (lkOf c).cb ∧ (lkOf c).cb ≤ 1000) ∧ (0 ≤ (lkOf c).cp ∧ (lkOf c).cp ≤ 1000) := by
    unfold wrNum at hw
    simpa using hw
  cases hf : fndL L (lkOf c)
  case true =>
    rw [if_neg (by simp), if_pos rfl]
    have hends : ∀ l, (chgL (lkOf c) l).a = l.a ∧ (chgL (lkOf c) l).b = l.b := fun l => by
      unfold chgL
      cases sameE (lkOf c) l <;> exact ⟨rfl, rfl⟩
    have hmem : ∀ (p : Lk → Bool), (∀ l ∈ L, p (chgL (lkOf c) l) = false) → (L.map (chgL (lkOf c))).any p = false := fun p hp => by
      rw [List.any_eq_false]
      intro m hm
      obtain ⟨l, hl, rfl⟩ := List.mem_map.1 hm
      rw [hp l hl]
      simp
    refine okAll_chk ⟨ho.l1, by rw [List.length_map]; exact ho.l2, ho.id, ho.rs, hmem _ (fun l hl => ?_), hmem _ (fun l hl => ?_), hmem _ (fun l hl => ?_), asc_of_pair ltL _ ?_⟩
    · have h2 := List.any_eq_false.1 ho.nm l hl
      have h2' : (1 ≤ l.ca ∧ l.ca ≤ 1000) ∧ (1 ≤ l.cb ∧ l.cb ≤ 1000) ∧ (0 ≤ l.cp ∧ l.cp ≤ 1000) := by
        unfold wrNum at h2
        simpa using h2
      unfold chgL
      cases sameE (lkOf c) l
      · simpa using h2
      · unfold wrNum
        simp only [if_true, Bool.not_eq_false', decide_eq_true_eq]
        omega
    · have h2 := List.any_eq_false.1 ho.un l hl
      unfold unk at h2 ⊢
      rw [(hends l).1, (hends l).2]
      simpa using h2
    · have h2 := List.any_eq_false.1 ho.en l hl
      unfold wrEnd at h2 ⊢
      rw [(hends l).1, (hends l).2]
      simpa using h2
    · rw [List.pairwise_map]
      refine hpair.imp (fun {l m} h => ?_)
      unfold ltL at h ⊢
      rw [(hends l).1, (hends l).2, (hends m).1, (hends m).2]
      exact h
  rw [hf] at he
  have hlen : L.length ≠ 60 := fun e => by rw [e] at he; cases he
  have hne : ∀ l ∈ L, EndsNe l (lkOf c) := fun l hl => by
    have h2 := List.any_eq_false.1 hf l hl
    rw [sameE_iff] at h2
    unfold EndsNe
    omega
  have hmem : ∀ (p : Lk → Bool), L.any p = false → p (lkOf c) = false → (insL L (lkOf c)).any p = false := fun p hp hx => by
    rw [List.any_eq_false]
    intro m hm
    rcases (mem_insL _ _ _).1 hm with rfl | h2
    · rw [hx]; simp
    · exact List.any_eq_false.1 hp m h2
  exact okAll_chk ⟨ho.l1, by rw [if_neg (by simp), if_neg (by simp), insL_len]; have := ho.l2; omega, ho.id, ho.rs, hmem _ ho.nm hw, hmem _ ho.un hxu, hmem _ ho.en (decide_eq_false (by omega)), asc_of_pair ltL _ (insL_pair _ L hpair hne)⟩
end Go.Proofs.Ytiencdgmnkphjaa

/- topology: Apply. -/
namespace Go.Proofs.Ytiencdgmnkphjaa
open Go.RowKit Bs
set_option maxRecDepth 100000 in
theorem res_topo_err {fn : Func} {p u : Tmp} (h : fn.results = #[.cell p 26, .tmp u]) (tmps : Array Value) (w : World) (g : Nat) (x y : Value) (hp : tmps.getD p undef = .pointer (some ⟨g, 0, none⟩)) (hg : w.heap[g]? = some (.cells #[x, y] 26 (0, 0))) :
    (results fn tmps).run Try.prog w = .ok (.tuple #[.agg #[x, y], tmps.getD u undef]) w := by
  have hp' : tmps[p]?.getD undef = .pointer (some ⟨g, 0, none⟩) := by simpa using hp
  rw [results_cell_tmp h]
  simp [hp', asAddr, run_loadVar_row w g _ _ _ _ _ hg Try.underlying26 rfl topo_size, Result.andThen]
theorem blk_lt {w : World} {b : Nat} {o : Obj} (h : w.heap[b]? = some o) : b < w.heap.size := by
  rcases Nat.lt_or_ge b w.heap.size with h1 | h1
  · exact h1
  · rw [Array.getElem?_eq_none h1] at h
    cases h
theorem own_caps {w : World} {base size n m cap : Nat} {e : TypeId} {p : Option Addr} {xs : List Value} (h : w.ownsRow base e size (.slice p m cap) n xs) : m ≤ cap ∧ cap ≤ 9223372036854775807 := by
  obtain ⟨p', c', e, h1, h2⟩ := own_shape h
  injection e with e1 e2 e3
  subst e2
  subst e3
  exact ⟨h1, h2⟩
/-- What returns a topology and an error. -/
def TAPost (Q : Nat → Prop) (Rr : List Rt) (Lr : List Lk) (n : Int) (w : World) (e : Ending) (w' : World) : Prop :=
  ∃ pR cR pL cL, e = .returned (.tuple #[.agg #[.slice pR Rr.length cR, .slice pL Lr.length cL], .int .i64 n]) ∧ TgOk w' Q ⟨Rr, Lr, pR, cR, pL, cL⟩ ∧ w.grownBy w' none
/-- The boxes of Apply: the topology, the change, the result. -/
structure AP (w : World) (T : Tg) (c : Ch) (wr : World) : Prop where
  tb : wr.heap[w.heap.size]? = some (.cells #[.slice T.pR T.R.length T.cR, .slice T.pL T.L.length T.cL] 26 (0, 0))
  cb : wr.heap[w.heap.size + 1]? = some (.cells #[.int .i64 c.a, .int .i64 c.b, .int .i64 c.ca, .int .i64 c.cb] 54 (0, 0))
  rb : wr.heap[w.heap.size + 2]? = some (.cells #[.slice none 0 0, .slice none 0 0] 26 (0, 0))
  t : TgOk wr (· < w.heap.size) T
  gr : w.grownBy wr none
  sz : w.heap.size + 3 ≤ wr.heap.size
theorem AP.keep {w wr w' : World} {T : Tg} {c : Ch} (h : AP w T c wr) (g : wr.grownBy w' none) : AP w T c w' :=
  ⟨kept_row h.tb g (by simp), kept_row h.cb g (by simp), kept_row h.rb g (by simp), h.t.keep g, grown_trans h.gr g, Nat.le_trans h.sz g.size⟩
/-- .. and the link's. -/
structure AL (w : World) (T : Tg) (c : Ch) (g : Nat) (wr : World) : Prop where
  p : AP w T c wr
  lb : wr.heap[g]? = some (.cells #[.int .i64 (lkOf c).a, .int .i64 (lkOf c).b, .int .i64 (lkOf c).ca, .int .i64 (lkOf c).cb, .int .i64 (lkOf c).cp] 68 (0, 0))
  g3 : w.heap.size + 3 ≤ g
theorem AL.keep {w wr w' : World} {T : Tg} {c : Ch} {g : Nat} (h : AL w T c g wr) (k : wr.grownBy w' none) : AL w T c g w' := ⟨h.p.keep k, kept_row h.lb k (by simp), h.g3⟩
/-- The result's box, stored. -/
theorem AP.out {w wr : World} {T : Tg} {c : Ch} {uR uL : Value} (h : AP w T c wr) :
    ((wr.setCell ⟨w.heap.size + 2, 0, none⟩ uR).setCell ⟨w.heap.size + 2, 1, none⟩ uL).heap[w.heap.size + 2]? = some (.cells #[uR, uL] 26 (0, 0)) ∧ w.grownBy ((wr.setCell ⟨w.heap.size + 2, 0, none⟩ uR).setCell ⟨w.heap.size + 2, 1, none⟩ uL) none :=
  ⟨store2 h.rb, grown_new h.gr (grown_store2 wr (w.heap.size + 2) uR uL) (by omega)⟩
theorem AP.err {Q : Nat → Prop} {w wr : World} {T : Tg} {c : Ch} {n : Int} (h : AP w T c wr) :
    TAPost Q [] [] n w (.returned (.tuple #[.agg #[.slice none 0 0, .slice none 0 0], .int .i64 n])) ((wr.setCell ⟨w.heap.size + 2, 0, none⟩ (.slice none 0 0)).setCell ⟨w.heap.size + 2, 1, none⟩ (.slice none 0 0)) :=
  ⟨none, 0, none, 0, rfl, ⟨rdf_nil _ _ _ _, rdf_nil _ _ _ _, ⟨Nat.le_refl _, by show 0 ≤ _; omega⟩, ⟨Nat.le_refl _, by show 0 ≤ _; omega⟩⟩, h.out.2⟩
set_option maxRecDepth 100000 in
set_option maxHeartbeats 6400000 in
theorem tapply_any (T : Tg) (c : Ch) (q : Nat → Prop) (w : World) (hT : TgOk w q T) (hpR : T.pR = none → T.cR = 0) (hpL : T.pL = none → T.cL = 0) :
    Calls Try.prog 35 #[.agg #[.slice T.pR T.R.length T.cR, .slice T.pL T.L.length T.cL], .agg #[.int .i64 c.a, .int .i64 c.b, .int .i64 c.ca, .int .i64 c.cb]] w fun e w' => TAPost (w.heap.size ≤ ·) (if errV T.R T.L c = 0 then T.R else []) (if errV T.R T.L c = 0 then linksV T.L c else []) (errV T.R T.L c) w e w' := by
  obtain ⟨R, L, pR, cR, pL, cL⟩ := T
  have hm1 := Nat.le_trans hT.cr.1 hT.cr.2
  have hm2 := Nat.le_trans hT.cl.1 hT.cl.2
  simp only at hm1 hm2 hpR hpL ⊢
  obtain ⟨wb, hwb, b1, b2, b3, b4, b5⟩ := boxes3 w #[.slice pR R.length cR, .slice pL L.length cL] #[.int .i64 c.a, .int .i64 c.b, .int .i64 c.ca, .int .i64 c.cb] #[.slice none 0 0, .slice none 0 0] 26 54 26
  have A0 : Hid (AP w ⟨R, L, pR, cR, pL, cL⟩ c wb) := Lib.hid ⟨b1, b2, b3, hT.old.keep b4, b4, by omega⟩
  have HPN := Lib.hid (And.intro hpR hpL)
  obtain ⟨E, hE⟩ : ∃ E, errV R L c = E := ⟨_, rfl⟩
  rw [hE]
  have HE := Lib.hid hE
  have HWB := Lib.hid hwb
  clear b1 b2 b3 b4 b5 hT hpR hpL hE hwb
  go_enter Try.func35, Try.ntmps35
  go_upto_region 1 with fail
  rw [← HWB.out]
  have s1 : w.heap.size + 1 + 1 = w.heap.size + 2 := rfl
  try rw [s1]
  clear s1
  obtain ⟨c0, c1⟩ := row_cells A0.out.tb
  go_wp2_with fail
  refine (tvalid_any ⟨R, L, pR, cR, pL, cL⟩ _ wb A0.out.t).mono ?_
  rintro e w1 ⟨rfl, hg⟩
  simp only
  have A1 := Lib.hid (A0.out.keep hg)
  clear hg A0 c0 c1 HWB
  cases hv : okT R L
  · obtain rfl : E = 1 := by have := HE.out; unfold errV at this; rw [hv] at this; exact this.symm
    obtain ⟨z0, z1⟩ := row_cells A1.out.rb
    have y0 := frozen_of_row _ _ 0 _ _ A1.out.rb
    have y1 := frozen_of_row _ _ 1 _ _ A1.out.rb
    clear hv
    go_wp2_with fail
    refine bodyPost_ret (res_topo_err rfl _ _ (w.heap.size + 2) _ _ rfl A1.out.out.1) rfl ?_
    exact A1.out.err
  have HV := Lib.hid hv
  obtain ⟨h24, h60⟩ := okT_len hv
  have HO := Lib.hid (okT_all hv)
  clear hv
  obtain ⟨d0, d1, d2, d3⟩ := ch_facts A1.out.cb
  go_wp2_with fail
  refine (tlinkOf_any c w1).mono ?_
  rintro e w2 ⟨rfl, hg⟩
  unfold lkA
  have A2 := Lib.hid (A1.out.keep hg)
  have gal := World.grownBy_alloc w2 (.cells #[.int .i64 (lkOf c).a, .int .i64 (lkOf c).b, .int .i64 (lkOf c).ca, .int .i64 (lkOf c).cb, .int .i64 (lkOf c).cp] 68) none
  have L3 : Hid (AL w ⟨R, L, pR, cR, pL, cL⟩ c w2.heap.size (w2.alloc (.cells #[.int .i64 (lkOf c).a, .int .i64 (lkOf c).b, .int .i64 (lkOf c).ca, .int .i64 (lkOf c).cb, .int .i64 (lkOf c).cp] 68))) := Lib.hid ⟨A2.out.keep gal, heap_alloc_new w2 _, A2.out.sz⟩
  clear hg A1 A2 gal d0 d1 d2 d3
  go_upto_region 4 with fail
  generalize w2.alloc _ = w3 at *
  obtain ⟨g, hg⟩ : ∃ g, w2.heap.size = g := ⟨_, rfl⟩
  rw [hg] at L3 ⊢
  clear hg
  obtain ⟨x, hx⟩ : ∃ x, lkOf c = x := ⟨_, rfl⟩
  have HX := Lib.hid hx
  obtain ⟨l0, l1, l2, l3, l4⟩ := lk_facts L3.out.lb
  rw [hx] at l0 l1 l2 l3 l4
  clear hx
  obtain ⟨c0, c1⟩ := row_cells L3.out.p.tb
  go_wp2_with fail
  refine (tlat_any ⟨R, L, pR, cR, pL, cL⟩ x.a x.b _ w3 L3.out.p.t (by show L.length ≤ 1000000; omega)).mono ?_
  rintro e w4 ⟨i, b, rfl, hb, hg⟩
  have L4 := Lib.hid (L3.out.keep hg)
  have HF : Hid (fndL L x = b) := Lib.hid (bs_fnd HO.out hb.out)
  have HBS := hb
  clear hg L3 l0 l1 l2 l3 l4 c0 c1 hb
  obtain ⟨d0, d1, d2, d3⟩ := ch_facts L4.out.p.cb
  go_upto_region 5 with fail
  obtain ⟨G, hG⟩ : ∃ G, goneC c = G := ⟨_, rfl⟩
  have HG := Lib.hid hG
  clear hG
  go_cut [9] from 26 to 33 (fun v wx => v = .bool G ∧ w4 = wx)
  case first =>
    cases e1 : (c.ca == 0)
    · have hgv : Hid (G = false) := Lib.hid (by rw [← HG.out]; unfold goneC; rw [e1]; rfl)
      go_wp2_with fail
      go_meet
      exact ⟨by rw [hgv.out], rfl⟩
    · have hgv : Hid (G = (c.cb == 0)) := Lib.hid (by rw [← HG.out]; unfold goneC; rw [e1]; rfl)
      go_wp2_with fail
      go_meet
      exact ⟨by rw [hgv.out], rfl⟩
  case rest =>
  obtain ⟨rfl, rfl⟩ := hcut
  go_upto_region 6 with fail
  obtain ⟨ha, hha⟩ : ∃ z, hasR R c.a = z := ⟨_, rfl⟩
  obtain ⟨hb, hhb⟩ : ∃ z, hasR R c.b = z := ⟨_, rfl⟩
  have HH : Hid (hasV R L c.a = ha ∧ hasV R L c.b = hb) := Lib.hid (by unfold hasV; rw [HV.out, hha, hhb]; exact ⟨rfl, rfl⟩)
  have HHA := Lib.hid (And.intro hha hhb)
  clear hha hhb d0 d1 d2 d3
  obtain ⟨c0, c1⟩ := row_cells L4.out.p.tb
  obtain ⟨d0, d1, d2, d3⟩ := ch_facts L4.out.p.cb
  go_cut [34] from 35 to 46 (fun v wx => v = .bool (!(ha && hb)) ∧ Hid (AL w ⟨R, L, pR, cR, pL, cL⟩ c g wx))
  case first =>
    cases ha
    · go_wp2_with fail
      refine (thas_any ⟨R, L, pR, cR, pL, cL⟩ c.a _ _ L4.out.p.t (by show R.length ≤ 1000000; omega)).mono ?_
      simp only
      rw [HH.out.1]
      rintro e w5 ⟨rfl, hg⟩
      have L5 := Lib.hid (L4.out.keep hg)
      clear hg
      go_wp2_with fail
      go_meet
      exact ⟨rfl, L5⟩
    · go_wp2_with fail
      refine (thas_any ⟨R, L, pR, cR, pL, cL⟩ c.a _ _ L4.out.p.t (by show R.length ≤ 1000000; omega)).mono ?_
      simp only
      rw [HH.out.1]
      rintro e w5 ⟨rfl, hg⟩
      have L5 := Lib.hid (L4.out.keep hg)
      clear hg c0 c1 d0 d1 d2 d3
      obtain ⟨c0, c1⟩ := row_cells L5.out.p.tb
      obtain ⟨d0, d1, d2, d3⟩ := ch_facts L5.out.p.cb
      go_wp2_with fail
      refine (thas_any ⟨R, L, pR, cR, pL, cL⟩ c.b _ _ L5.out.p.t (by show R.length ≤ 1000000; omega)).mono ?_
      simp only
      rw [HH.out.2]
      rintro e w6 ⟨rfl, hg⟩
      have L6 := Lib.hid (L5.out.keep hg)
      clear hg
      go_wp2_with fail
      go_meet
      exact ⟨by first | rfl | (cases hb <;> rfl), L6⟩
  case rest =>
  obtain ⟨rfl, L6⟩ := hcut
  clear L4 c0 c1 d0 d1 d2 d3
  go_upto_if 34 with fail
  obtain ⟨hab, hhab⟩ : ∃ z, (ha && hb) = z := ⟨_, rfl⟩
  rw [hhab]
  have HAB := Lib.hid hhab
  clear hhab
  cases hab
  · obtain rfl : E = 4 := by have := HE.out; unfold errV at this; rw [HV.out, HHA.out.1, HHA.out.2, HAB.out] at this; exact this.symm
    obtain ⟨z0, z1⟩ := row_cells L6.out.p.rb
    have y0 := frozen_of_row _ _ 0 _ _ L6.out.p.rb
    have y1 := frozen_of_row _ _ 1 _ _ L6.out.p.rb
    go_wp2_with fail
    refine bodyPost_ret (res_topo_err rfl _ _ (w.heap.size + 2) _ _ rfl L6.out.p.out.1) rfl ?_
    exact L6.out.p.err
  obtain ⟨l0, l1, l2, l3, l4⟩ := lk_facts L6.out.lb
  rw [HX.out] at l0 l1 l2 l3 l4
  by_cases hab : x.a = x.b
  · have hbq : (x.a == x.b) = true := by simpa using hab
    obtain rfl : E = 8 := by
      have h8 := HE.out
      have hk := lkOf_ends c
      rw [HX.out] at hk
      unfold errV at h8
      rw [HV.out, HHA.out.1, HHA.out.2, HAB.out, if_pos (show c.a = c.b by omega)] at h8
      exact h8.symm
    obtain ⟨z0, z1⟩ := row_cells L6.out.p.rb
    have y0 := frozen_of_row _ _ 0 _ _ L6.out.p.rb
    have y1 := frozen_of_row _ _ 1 _ _ L6.out.p.rb
    clear hab
    go_wp2_with fail
    refine bodyPost_ret (res_topo_err rfl _ _ (w.heap.size + 2) _ _ rfl L6.out.p.out.1) rfl ?_
    exact L6.out.p.err
  have hbq : (x.a == x.b) = false := by simpa using hab
  have HE2 : Hid ((if !G && wrNum x then (2 : Int) else if G && !b then 9 else if !b && decide (L.length = 60) then 3 else 0) = E) := Lib.hid (by
    have h8 := HE.out
    have hk := lkOf_ends c
    rw [HX.out] at hk
    unfold errV at h8
    rw [HV.out, HHA.out.1, HHA.out.2, HAB.out, if_neg (show ¬ c.a = c.b by omega), HX.out, HF.out, HG.out] at h8
    exact h8)
  clear hab
  go_upto_region 10 with fail
  obtain ⟨wn, hwn⟩ : ∃ z, wrNum x = z := ⟨_, rfl⟩
  have HWN := Lib.hid hwn
  rw [hwn] at HE2
  clear hwn hbq l0 l1 l2 l3 l4
  obtain ⟨l0, l1, l2, l3, l4⟩ := lk_facts L6.out.lb
  rw [HX.out] at l0 l1 l2 l3 l4
  go_cut [55] from 56 to 61 (fun v wx => v = .bool (!G && wn) ∧ Hid (AL w ⟨R, L, pR, cR, pL, cL⟩ c g wx))
  case first =>
    cases G
    · go_wp2_with fail
      refine (twrnum_any x _).mono ?_
      rw [HWN.out]
      rintro e w7 ⟨rfl, hg⟩
      have L7 := Lib.hid (L6.out.keep hg)
      clear hg
      go_wp2_with fail
      go_meet
      exact ⟨by first | rfl | (cases wn <;> rfl), L7⟩
    · go_wp2_with fail
      go_meet
      exact ⟨rfl, L6⟩
  case rest =>
  obtain ⟨rfl, L7⟩ := hcut
  clear L6 l0 l1 l2 l3 l4
  go_upto_if 55 with fail
  obtain ⟨z2, hz2⟩ : ∃ z, (!G && wn) = z := ⟨_, rfl⟩
  rw [hz2] at HE2 ⊢
  clear hz2
  obtain ⟨z0, z1⟩ := row_cells L7.out.p.rb
  have y0 := frozen_of_row _ _ 0 _ _ L7.out.p.rb
  have y1 := frozen_of_row _ _ 1 _ _ L7.out.p.rb
  cases z2
  rotate_left 1
  · obtain rfl : E = 2 := HE2.out.symm
    go_wp2_with fail
    refine bodyPost_ret (res_topo_err rfl _ _ (w.heap.size + 2) _ _ rfl L7.out.p.out.1) rfl ?_
    exact L7.out.p.err
  go_upto_region 12 with fail
  go_cut [63] from 64 to 68 (fun v wx => v = .bool (G && !b) ∧ Hid (AL w ⟨R, L, pR, cR, pL, cL⟩ c g wx))
  case first =>
    cases G
    · go_wp2_with fail
      go_meet
      exact ⟨rfl, L7⟩
    · go_wp2_with fail
      go_meet
      exact ⟨by first | rfl | (cases b <;> rfl), L7⟩
  case rest =>
  obtain ⟨rfl, L8⟩ := hcut
  clear L7 z0 z1 y0 y1
  go_upto_if 63 with fail
  obtain ⟨z2, hz2⟩ : ∃ z, (G && !b) = z := ⟨_, rfl⟩
  rw [hz2] at HE2 ⊢
  have HZ9 := Lib.hid hz2
  clear hz2
  obtain ⟨z0, z1⟩ := row_cells L8.out.p.rb
  have y0 := frozen_of_row _ _ 0 _ _ L8.out.p.rb
  have y1 := frozen_of_row _ _ 1 _ _ L8.out.p.rb
  cases z2
  rotate_left 1
  · obtain rfl : E = 9 := HE2.out.symm
    go_wp2_with fail
    refine bodyPost_ret (res_topo_err rfl _ _ (w.heap.size + 2) _ _ rfl L8.out.p.out.1) rfl ?_
    exact L8.out.p.err
  obtain ⟨c0, c1⟩ := row_cells L8.out.p.tb
  go_upto_region 14 with fail
  obtain ⟨k60, hk60⟩ : ∃ z, decide (L.length = 60) = z := ⟨_, rfl⟩
  have hk60' : ((L.length : Int) == 60) = k60 := by rw [← hk60, Bool.eq_iff_iff, beq_iff_eq, decide_eq_true_eq]; omega
  rw [hk60] at HE2
  clear hk60
  go_cut [70] from 71 to 78 (fun v wx => v = .bool (!b && k60) ∧ Hid (AL w ⟨R, L, pR, cR, pL, cL⟩ c g wx))
  case first =>
    cases b
    · cases k60
      · go_wp2_with fail
        go_meet
        exact ⟨rfl, L8⟩
      · go_wp2_with fail
        go_meet
        exact ⟨rfl, L8⟩
    · go_wp2_with fail
      go_meet
      exact ⟨rfl, L8⟩
  case rest =>
  obtain ⟨rfl, L9⟩ := hcut
  clear L8 z0 z1 y0 y1 c0 c1 hk60'
  go_upto_if 70 with fail
  obtain ⟨z2, hz2⟩ : ∃ z, (!b && k60) = z := ⟨_, rfl⟩
  rw [hz2] at HE2 ⊢
  clear hz2
  obtain ⟨z0, z1⟩ := row_cells L9.out.p.rb
  have y0 := frozen_of_row _ _ 0 _ _ L9.out.p.rb
  have y1 := frozen_of_row _ _ 1 _ _ L9.out.p.rb
  cases z2
  rotate_left 1
  · obtain rfl : E = 3 := HE2.out.symm
    go_wp2_with fail
    refine bodyPost_ret (res_topo_err rfl _ _ (w.heap.size + 2) _ _ rfl L9.out.p.out.1) rfl ?_
    exact L9.out.p.err
  obtain rfl : E = 0 := HE2.out.symm
  clear z0 z1 y0 y1
  obtain ⟨c0, c1⟩ := row_cells L9.out.p.tb
  go_wp2_with fail
  refine (tcloneL_any L pL cL _ _ L9.out.p.t.l HPN.out.2 L9.out.p.t.cl (by omega)).mono ?_
  rintro e w10 ⟨vL, rfl, hown, hg⟩
  have LA := Lib.hid (And.intro (L9.out.keep hg) (And.intro hown (blk_lt L9.out.lb)))
  have hwc := L9.out.p.sz
  have HSW := Lib.hid hg.size
  clear hown hg L9 c0 c1
  cases G
  rotate_left 1
  · obtain rfl : b = true := by have := HZ9.out; cases b; cases this; rfl
    obtain ⟨l, hl, e1, e2⟩ := (bs_link HO.out HBS.out).1 rfl
    have hil := (List.getElem?_eq_some_iff.1 hl).1
    obtain ⟨gN, cN, rfl, hgl, hcap⟩ := LA.out.2.1.form (by omega)
    have hgl2 := LA.out.2.1.lt gN rfl
    have HLN : Hid (linksV L c = L.eraseIdx i) := Lib.hid (by
      unfold linksV
      rw [HG.out, HX.out]
      exact del_links HO.out hl e1 e2)
    have u1 : IntKind.i64.wrap ((i : Int) + 1) = (i : Int) + 1 := by rw [IntKind.wrap_i64]; omega
    clear hl e1 e2
    go_wp2_with fail
    refine (tdelete_any L gN cN wc.heap.size i _ LA.out.2.1 hil (by omega)).mono ?_
    rintro e wd ⟨NN, hNN, rfl, hownD, hgs⟩
    have hog : ∀ b, some b = some gN → wc.heap.size ≤ b := fun b e => by have := Option.some.inj e; omega
    have AT : Hid (AP w ⟨R, L, pR, cR, pL, cL⟩ c wd) := Lib.hid ⟨kept_row LA.out.1.p.tb hgs (fun e => by have := hog _ e; omega), kept_row LA.out.1.p.cb hgs (fun e => by have := hog _ e; omega), kept_row LA.out.1.p.rb hgs (fun e => by have := hog _ e; omega), LA.out.1.p.t.grown hgs (fun b hb e => by have := hog _ e; omega), grown_any LA.out.1.p.gr hgs (fun b hb e => by have := hog _ e; omega), Nat.le_trans LA.out.1.p.sz hgs.size⟩
    have hlen : NN = (L.eraseIdx i).length := hNN
    have OL : Hid (wd.ownsRow wc.heap.size 68 5 (.slice (some ⟨gN, 0, none⟩) NN cN) (L.eraseIdx i).length ((L.eraseIdx i).flatMap lkC) ∧ w.heap.size + 3 ≤ wc.heap.size) := Lib.hid ⟨by rw [← hlen]; exact hownD, hwc⟩
    have HNN : Hid (NN = (L.eraseIdx i).length) := Lib.hid hlen
    have HCN : Hid (NN ≤ cN ∧ cN ≤ 9223372036854775807) := Lib.hid (own_caps hownD)
    clear hownD hgs hog hNN hlen LA
    try clear hgD gal
    try clear l0 l1 l2 l3 l4
    obtain ⟨c0, c1⟩ := row_cells AT.out.tb
    go_wp2_with fail
    refine (tcloneR_any R pR cR _ _ AT.out.t.r HPN.out.1 AT.out.t.cr (by omega)).mono ?_
    rintro e wt ⟨vR, rfl, hownR, hg⟩
    have AT2 := Lib.hid (AT.out.keep hg)
    have OL2 := Lib.hid (And.intro (OL.out.1.kept hg (.inr (fun e => by cases e))) OL.out.2)
    have hsz := AT.out.sz
    obtain ⟨pr', cr', rfl, hr1, hr2⟩ := own_shape hownR
    have HOR := Lib.hid hownR
    clear hownR hg AT OL c0 c1
    obtain ⟨z0, z1⟩ := row_cells AT2.out.rb
    have y0 := frozen_of_row _ _ 0 _ _ AT2.out.rb
    have y1 := frozen_of_row _ _ 1 _ _ AT2.out.rb
    go_wp2_with fail
    refine bodyPost_ret (res_topo_err rfl _ _ (w.heap.size + 2) _ _ rfl AT2.out.out.1) rfl ?_
    try rw [if_pos rfl, if_pos rfl]
    rw [HLN.out]
    have g9 := grown_store2 wt (w.heap.size + 2) (.slice pr' R.length cr') (.slice (some ⟨gN, 0, none⟩) NN cN)
    have hlr : NN = (L.eraseIdx i).length := HNN.out
    refine ⟨pr', cr', (some ⟨gN, 0, none⟩), cN, (by rw [← hlr]; rfl), ⟨?_, ?_, ⟨hr1, hr2⟩, (by rw [← hlr]; exact HCN.out)⟩, AT2.out.out.2⟩
    · exact ((rdf_of_own HOR.out).grown g9 (fun b hb e => by have h1 := Option.some.inj e; omega)).mono (fun b hb => by have h1 : _ ≤ b := hb; have h3 := OL2.out.2; show _ ≤ b; omega)
    · have h2 := ((rdf_of_own OL2.out.1).grown g9 (fun b hb e => by have h1 := Option.some.inj e; have h3 := OL2.out.2; omega)).mono (q' := (w.heap.size ≤ ·)) (fun b hb => by have h1 : _ ≤ b := hb; have h3 := OL2.out.2; show _ ≤ b; omega)
      obtain ⟨p9, c9, e9, hx9⟩ := h2
      injection e9 with e91 e92 e93
      subst e91
      subst e93
      exact ⟨_, _, rfl, hx9⟩
  cases b
  · obtain ⟨l0, l1, l2, l3, l4⟩ := lk_facts LA.out.1.lb
    rw [HX.out] at l0 l1 l2 l3 l4
    have HLN : Hid (linksV L c = L.take i ++ x :: L.drop i) := Lib.hid (by
      unfold linksV
      rw [HG.out, HX.out, HF.out]
      exact ins_links HO.out HBS.out)
    have gal := World.grownBy_alloc w10 (.cells #[.int .i64 x.a, .int .i64 x.b, .int .i64 x.ca, .int .i64 x.cb, .int .i64 x.cp] 68)
    have hvn : vL.ownBlock ≠ some w10.heap.size := fun e => by have := (LA.out.2.1.lt _ e).2; omega
    have hsw : wc.heap.size ≤ w10.heap.size := HSW.out
    go_wp2_with fail
    refine (tinsert_any L x wc.heap.size w10.heap.size 1 i vL _ (LA.out.2.1.alloc _) (heap_alloc_new w10 _) (by omega) (by simp; omega) hvn HBS.out.le).mono ?_
    rintro e wd ⟨gN, cN, NN, og, hNN, rfl, hownD, hgD, hog0⟩
    have hgs : w10.grownBy wd og := grown_trans (gal og) hgD
    have hog : ∀ b, some b = og → wc.heap.size ≤ b := fun b e => hog0 b e.symm
    have AT : Hid (AP w ⟨R, L, pR, cR, pL, cL⟩ c wd) := Lib.hid ⟨kept_row LA.out.1.p.tb hgs (fun e => by have := hog _ e; omega), kept_row LA.out.1.p.cb hgs (fun e => by have := hog _ e; omega), kept_row LA.out.1.p.rb hgs (fun e => by have := hog _ e; omega), LA.out.1.p.t.grown hgs (fun b hb e => by have := hog _ e; omega), grown_any LA.out.1.p.gr hgs (fun b hb e => by have := hog _ e; omega), Nat.le_trans LA.out.1.p.sz hgs.size⟩
    have hlen : NN = (L.take i ++ x :: L.drop i).length := hNN
    have OL : Hid (wd.ownsRow wc.heap.size 68 5 (.slice (some ⟨gN, 0, none⟩) NN cN) (L.take i ++ x :: L.drop i).length ((L.take i ++ x :: L.drop i).flatMap lkC) ∧ w.heap.size + 3 ≤ wc.heap.size) := Lib.hid ⟨by rw [← hlen]; exact hownD, hwc⟩
    have HNN : Hid (NN = (L.take i ++ x :: L.drop i).length) := Lib.hid hlen
    have HCN : Hid (NN ≤ cN ∧ cN ≤ 9223372036854775807) := Lib.hid (own_caps hownD)
    clear hownD hgs hog hNN hlen LA
    try clear hgD gal
    try clear l0 l1 l2 l3 l4
    obtain ⟨c0, c1⟩ := row_cells AT.out.tb
    go_wp2_with fail
    refine (tcloneR_any R pR cR _ _ AT.out.t.r HPN.out.1 AT.out.t.cr (by omega)).mono ?_
    rintro e wt ⟨vR, rfl, hownR, hg⟩
    have AT2 := Lib.hid (AT.out.keep hg)
    have OL2 := Lib.hid (And.intro (OL.out.1.kept hg (.inr (fun e => by cases e))) OL.out.2)
    have hsz := AT.out.sz
    obtain ⟨pr', cr', rfl, hr1, hr2⟩ := own_shape hownR
    have HOR := Lib.hid hownR
    clear hownR hg AT OL c0 c1
    obtain ⟨z0, z1⟩ := row_cells AT2.out.rb
    have y0 := frozen_of_row _ _ 0 _ _ AT2.out.rb
    have y1 := frozen_of_row _ _ 1 _ _ AT2.out.rb
    go_wp2_with fail
    refine bodyPost_ret (res_topo_err rfl _ _ (w.heap.size + 2) _ _ rfl AT2.out.out.1) rfl ?_
    try rw [if_pos rfl, if_pos rfl]
    rw [HLN.out]
    have g9 := grown_store2 wt (w.heap.size + 2) (.slice pr' R.length cr') (.slice (some ⟨gN, 0, none⟩) NN cN)
    have hlr : NN = (L.take i ++ x :: L.drop i).length := HNN.out
    refine ⟨pr', cr', (some ⟨gN, 0, none⟩), cN, (by rw [← hlr]; rfl), ⟨?_, ?_, ⟨hr1, hr2⟩, (by rw [← hlr]; exact HCN.out)⟩, AT2.out.out.2⟩
    · exact ((rdf_of_own HOR.out).grown g9 (fun b hb e => by have h1 := Option.some.inj e; omega)).mono (fun b hb => by have h1 : _ ≤ b := hb; have h3 := OL2.out.2; show _ ≤ b; omega)
    · have h2 := ((rdf_of_own OL2.out.1).grown g9 (fun b hb e => by have h1 := Option.some.inj e; have h3 := OL2.out.2; omega)).mono (q' := (w.heap.size ≤ ·)) (fun b hb => by have h1 : _ ≤ b := hb; have h3 := OL2.out.2; show _ ≤ b; omega)
      obtain ⟨p9, c9, e9, hx9⟩ := h2
      injection e9 with e91 e92 e93
      subst e91
      subst e93
      exact ⟨_, _, rfl, hx9⟩
  · obtain ⟨l, hl, e1, e2⟩ := (bs_link HO.out HBS.out).1 rfl
    have HLK := Lib.hid (And.intro hl (And.intro e1 e2))
    have hil := (List.getElem?_eq_some_iff.1 hl).1
    obtain ⟨gl, cap, rfl, hgl, hcap⟩ := LA.out.2.1.form (by omega)
    have hgl2 := (LA.out.2.1.lt gl rfl).2
    have HLN : Hid (linksV L c = L.set i ⟨l.a, l.b, x.ca, x.cb, l.cp⟩) := Lib.hid (by
      unfold linksV
      rw [HG.out, HX.out, HF.out]
      exact set_links HO.out hl e1 e2)
    have i0 : (0 : Int) ≤ (i : Int) := by omega
    have i1 : (i : Int) < (L.length : Int) := by omega
    have HS : Hid (∀ u : World, Hid (w10.grownBy u (some gl)) → u.heap[g]? = some (.cells #[.int .i64 (lkOf c).a, .int .i64 (lkOf c).b, .int .i64 (lkOf c).ca, .int .i64 (lkOf c).cb, .int .i64 (lkOf c).cp] 68 (0, 0))) := Lib.hid (fun u hu => kept_row LA.out.1.lb hu.out (fun e => by
      have : g = gl := Option.some.inj e
      have h1 := LA.out.2.1.lt gl rfl
      have h3 := LA.out.2.2
      omega))
    clear hl e1 e2
    go_upto_region 21 with fail
    refine wp_region_held_drew (S := fun w' => Hid (w10.grownBy w' (some gl))) (by kernel_rfl) (Lib.hid (grown_drew (grown_refl _ _))) (fun hHeld => ?_)
    refine wpAnyH_take (i := 0) (oi := { dst := some 97, op := Op.move (Operand.tmp 10), type := 24, pos := "topology.go:113", after := #[], guard := none }) (v := ?_) rfl (by kernel_rfl) (by kernel_rfl) (by kernel_rfl) (fun _ _ _ h => h) (Or.inl ⟨by rfl, ?_⟩) hHeld ?_
    rotate_left 1
    · intro u hSu
      obtain ⟨l0, l1, l2, l3, l4⟩ := lk_facts (HS.out _ hSu)
      rw [HX.out] at l0 l1 l2 l3 l4
      go_simp
      first | done | with_reducible rfl
    (try simp only [Act.put, List.setIfInBounds_toArray, List.set_cons_zero, List.set_cons_succ])
    refine wpAnyH_take (i := 1) (oi := { dst := some 98, op := Op.move (Operand.tmp 7), type := 3, pos := "topology.go:113", after := #[], guard := none }) (v := ?_) rfl (by kernel_rfl) (by kernel_rfl) (by kernel_rfl) (fun _ _ _ h => h) (Or.inl ⟨by rfl, ?_⟩) hHeld ?_
    rotate_left 1
    · intro u hSu
      obtain ⟨l0, l1, l2, l3, l4⟩ := lk_facts (HS.out _ hSu)
      rw [HX.out] at l0 l1 l2 l3 l4
      go_simp
      first | done | with_reducible rfl
    (try simp only [Act.put, List.setIfInBounds_toArray, List.set_cons_zero, List.set_cons_succ])
    refine wpAnyH_take (i := 2) (oi := { dst := some 99, op := Op.move (Operand.tmp 10), type := 24, pos := "topology.go:113", after := #[{ on := 10, ground := Ground.gcOnly Departure.lateStores }], guard := none }) (v := ?_) rfl (by kernel_rfl) (by kernel_rfl) (by kernel_rfl) (fun _ _ _ h => h) (Or.inl ⟨by rfl, ?_⟩) hHeld ?_
    rotate_left 1
    · intro u hSu
      obtain ⟨l0, l1, l2, l3, l4⟩ := lk_facts (HS.out _ hSu)
      rw [HX.out] at l0 l1 l2 l3 l4
      go_simp
      first | done | with_reducible rfl
    (try simp only [Act.put, List.setIfInBounds_toArray, List.set_cons_zero, List.set_cons_succ])
    refine wpAnyH_take (i := 3) (oi := { dst := some 100, op := Op.move (Operand.tmp 7), type := 3, pos := "topology.go:113", after := #[{ on := 10, ground := Ground.gcOnly Departure.lateStores }], guard := none }) (v := ?_) rfl (by kernel_rfl) (by kernel_rfl) (by kernel_rfl) (fun _ _ _ h => h) (Or.inl ⟨by rfl, ?_⟩) hHeld ?_
    rotate_left 1
    · intro u hSu
      obtain ⟨l0, l1, l2, l3, l4⟩ := lk_facts (HS.out _ hSu)
      rw [HX.out] at l0 l1 l2 l3 l4
      go_simp
      first | done | with_reducible rfl
    (try simp only [Act.put, List.setIfInBounds_toArray, List.set_cons_zero, List.set_cons_succ])
    refine wpAnyH_take (i := 4) (oi := { dst := some 101, op := Op.fieldAddr 68 (Operand.tmp 6) 2, type := 0, pos := "topology.go:113", after := #[], guard := none }) (v := ?_) rfl (by kernel_rfl) (by kernel_rfl) (by kernel_rfl) (fun _ _ _ h => h) (Or.inl ⟨by rfl, ?_⟩) hHeld ?_
    rotate_left 1
    · intro u hSu
      obtain ⟨l0, l1, l2, l3, l4⟩ := lk_facts (HS.out _ hSu)
      rw [HX.out] at l0 l1 l2 l3 l4
      go_simp
      first | done | with_reducible rfl
    (try simp only [Act.put, List.setIfInBounds_toArray, List.set_cons_zero, List.set_cons_succ])
    refine wpAnyH_take (i := 5) (oi := { dst := some 102, op := Op.load 3 (Operand.tmp 101), type := 3, pos := "topology.go:113", after := #[{ on := 4, ground := Ground.data }], guard := none }) (v := ?_) rfl (by kernel_rfl) (by kernel_rfl) (by kernel_rfl) (fun _ _ _ h => h) (Or.inl ⟨by rfl, ?_⟩) hHeld ?_
    rotate_left 1
    · intro u hSu
      obtain ⟨l0, l1, l2, l3, l4⟩ := lk_facts (HS.out _ hSu)
      rw [HX.out] at l0 l1 l2 l3 l4
      go_simp
      first | done | with_reducible rfl
    (try simp only [Act.put, List.setIfInBounds_toArray, List.set_cons_zero, List.set_cons_succ])
    refine wpAnyH_take (i := 6) (oi := { dst := some 103, op := Op.fieldAddr 68 (Operand.tmp 6) 3, type := 0, pos := "topology.go:113", after := #[{ on := 10, ground := Ground.gcOnly Departure.lateStores }], guard := none }) (v := ?_) rfl (by kernel_rfl) (by kernel_rfl) (by kernel_rfl) (fun _ _ _ h => h) (Or.inl ⟨by rfl, ?_⟩) hHeld ?_
    rotate_left 1
    · intro u hSu
      obtain ⟨l0, l1, l2, l3, l4⟩ := lk_facts (HS.out _ hSu)
      rw [HX.out] at l0 l1 l2 l3 l4
      go_simp
      first | done | with_reducible rfl
    (try simp only [Act.put, List.setIfInBounds_toArray, List.set_cons_zero, List.set_cons_succ])
    refine wpAnyH_take (i := 7) (oi := { dst := some 104, op := Op.load 3 (Operand.tmp 103), type := 3, pos := "topology.go:113", after := #[{ on := 6, ground := Ground.data }, { on := 10, ground := Ground.gcOnly Departure.lateStores }], guard := none }) (v := ?_) rfl (by kernel_rfl) (by kernel_rfl) (by kernel_rfl) (fun _ _ _ h => h) (Or.inl ⟨by rfl, ?_⟩) hHeld ?_
    rotate_left 1
    · intro u hSu
      obtain ⟨l0, l1, l2, l3, l4⟩ := lk_facts (HS.out _ hSu)
      rw [HX.out] at l0 l1 l2 l3 l4
      go_simp
      first | done | with_reducible rfl
    (try simp only [Act.put, List.setIfInBounds_toArray, List.set_cons_zero, List.set_cons_succ])
    refine wpAnyH_take (i := 8) (oi := { dst := some 105, op := Op.indexAddr 24 (Operand.tmp 97) (Operand.tmp 98), type := 0, pos := "topology.go:113", after := #[{ on := 0, ground := Ground.data }, { on := 1, ground := Ground.data }, { on := 0, ground := Ground.phase }, { on := 1, ground := Ground.phase }, { on := 2, ground := Ground.textOnly Departure.lateStores }, { on := 3, ground := Ground.textOnly Departure.lateStores }, { on := 4, ground := Ground.phase }, { on := 5, ground := Ground.phase }, { on := 6, ground := Ground.textOnly Departure.lateStores }, { on := 7, ground := Ground.textOnly Departure.lateStores }], guard := none }) (v := ?_) rfl (by kernel_rfl) (by kernel_rfl) (by kernel_rfl) (fun _ _ _ h => h) (Or.inl ⟨by rfl, ?_⟩) hHeld ?_
    rotate_left 1
    · intro u hSu
      obtain ⟨l0, l1, l2, l3, l4⟩ := lk_facts (HS.out _ hSu)
      rw [HX.out] at l0 l1 l2 l3 l4
      go_simp
      first | done | with_reducible rfl
    (try simp only [Act.put, List.setIfInBounds_toArray, List.set_cons_zero, List.set_cons_succ])
    refine wpAnyH_take (i := 9) (oi := { dst := some 106, op := Op.fieldAddr 68 (Operand.tmp 105) 2, type := 0, pos := "topology.go:113", after := #[{ on := 8, ground := Ground.data }, { on := 0, ground := Ground.phase }, { on := 1, ground := Ground.phase }, { on := 2, ground := Ground.textOnly Departure.lateStores }, { on := 3, ground := Ground.textOnly Departure.lateStores }, { on := 4, ground := Ground.phase }, { on := 5, ground := Ground.phase }, { on := 6, ground := Ground.textOnly Departure.lateStores }, { on := 7, ground := Ground.textOnly Departure.lateStores }], guard := none }) (v := ?_) rfl (by kernel_rfl) (by kernel_rfl) (by kernel_rfl) (fun _ _ _ h => h) (Or.inl ⟨by rfl, ?_⟩) hHeld ?_
    rotate_left 1
    · intro u hSu
      obtain ⟨l0, l1, l2, l3, l4⟩ := lk_facts (HS.out _ hSu)
      rw [HX.out] at l0 l1 l2 l3 l4
      go_simp
      first | done | with_reducible rfl
    (try simp only [Act.put, List.setIfInBounds_toArray, List.set_cons_zero, List.set_cons_succ])
    refine wpAnyH_ready (rs := [10]) (by kernel_rfl) (by simp) ?_
    refine AllReadyH.cons (o := { dst := none, op := Op.store 3 (Operand.tmp 106) (Operand.tmp 102), type := 0, pos := "topology.go:113", after := #[{ on := 9, ground := Ground.data }, { on := 5, ground := Ground.data }, { on := 0, ground := Ground.phase }, { on := 1, ground := Ground.phase }, { on := 2, ground := Ground.textOnly Departure.lateStores }, { on := 3, ground := Ground.textOnly Departure.lateStores }, { on := 4, ground := Ground.phase }, { on := 5, ground := Ground.phase }, { on := 6, ground := Ground.textOnly Departure.lateStores }, { on := 7, ground := Ground.textOnly Departure.lateStores }], guard := none }) rfl (fun Kz hK => ?_) AllReadyH.nil
    have z2 : w10.cell? ⟨gl, i * 5 + 2, none⟩ = some (.int .i64 l.ca) := (LA.out.2.1.cellAt (i * 5 + 2) (by omega)).trans (flat_at lkC 5 (fun _ => rfl) L i 2 l HLK.out.1 (by decide))
    have y2 := LA.out.2.1.frozenAt (i * 5 + 2)
    go_simp
    refine hK.out _ _ (Lib.hid (grown_trans hHeld.out (grown_setCell _ ⟨gl, i * 5 + 2, none⟩ _))) (fun hH2 => ?_)
    clear hK Kz hHeld
    have hHeld := hH2
    clear hH2
    (try simp only [Act.put, List.setIfInBounds_toArray, List.set_cons_zero, List.set_cons_succ])
    refine wpAnyH_take (i := 11) (oi := { dst := some 107, op := Op.indexAddr 24 (Operand.tmp 99) (Operand.tmp 100), type := 0, pos := "topology.go:113", after := #[{ on := 2, ground := Ground.data }, { on := 3, ground := Ground.data }, { on := 0, ground := Ground.phase }, { on := 1, ground := Ground.phase }, { on := 2, ground := Ground.phase }, { on := 3, ground := Ground.phase }, { on := 4, ground := Ground.phase }, { on := 5, ground := Ground.phase }, { on := 6, ground := Ground.phase }, { on := 7, ground := Ground.phase }, { on := 8, ground := Ground.phase }, { on := 9, ground := Ground.phase }, { on := 10, ground := Ground.phase }], guard := none }) (v := ?_) rfl (by kernel_rfl) (by kernel_rfl) (by kernel_rfl) (fun _ _ _ h => h) (Or.inl ⟨by rfl, ?_⟩) hHeld ?_
    rotate_left 1
    · intro u hSu
      obtain ⟨l0, l1, l2, l3, l4⟩ := lk_facts (HS.out _ hSu)
      rw [HX.out] at l0 l1 l2 l3 l4
      go_simp
      first | done | with_reducible rfl
    (try simp only [Act.put, List.setIfInBounds_toArray, List.set_cons_zero, List.set_cons_succ])
    refine wpAnyH_take (i := 12) (oi := { dst := some 108, op := Op.fieldAddr 68 (Operand.tmp 107) 3, type := 0, pos := "topology.go:113", after := #[{ on := 11, ground := Ground.data }, { on := 0, ground := Ground.phase }, { on := 1, ground := Ground.phase }, { on := 2, ground := Ground.phase }, { on := 3, ground := Ground.phase }, { on := 4, ground := Ground.phase }, { on := 5, ground := Ground.phase }, { on := 6, ground := Ground.phase }, { on := 7, ground := Ground.phase }, { on := 8, ground := Ground.phase }, { on := 9, ground := Ground.phase }, { on := 10, ground := Ground.phase }], guard := none }) (v := ?_) rfl (by kernel_rfl) (by kernel_rfl) (by kernel_rfl) (fun _ _ _ h => h) (Or.inl ⟨by rfl, ?_⟩) hHeld ?_
    rotate_left 1
    · intro u hSu
      obtain ⟨l0, l1, l2, l3, l4⟩ := lk_facts (HS.out _ hSu)
      rw [HX.out] at l0 l1 l2 l3 l4
      go_simp
      first | done | with_reducible rfl
    (try simp only [Act.put, List.setIfInBounds_toArray, List.set_cons_zero, List.set_cons_succ])
    refine wpAnyH_ready (rs := [13]) (by kernel_rfl) (by simp) ?_
    refine AllReadyH.cons (o := { dst := none, op := Op.store 3 (Operand.tmp 108) (Operand.tmp 104), type := 0, pos := "topology.go:113", after := #[{ on := 12, ground := Ground.data }, { on := 7, ground := Ground.data }, { on := 10, ground := Ground.chain }, { on := 0, ground := Ground.phase }, { on := 1, ground := Ground.phase }, { on := 2, ground := Ground.phase }, { on := 3, ground := Ground.phase }, { on := 4, ground := Ground.phase }, { on := 5, ground := Ground.phase }, { on := 6, ground := Ground.phase }, { on := 7, ground := Ground.phase }, { on := 8, ground := Ground.phase }, { on := 9, ground := Ground.phase }, { on := 10, ground := Ground.phase }], guard := none }) rfl (fun Kz hK => ?_) AllReadyH.nil
    have z3 : w10.cell? ⟨gl, i * 5 + 3, none⟩ = some (.int .i64 l.cb) := (LA.out.2.1.cellAt (i * 5 + 3) (by omega)).trans (flat_at lkC 5 (fun _ => rfl) L i 3 l HLK.out.1 (by decide))
    have y3 := LA.out.2.1.frozenAt (i * 5 + 3)
    go_simp
    refine hK.out _ _ (Lib.hid (grown_trans hHeld.out (grown_setCell _ ⟨gl, i * 5 + 3, none⟩ _))) (fun hH2 => ?_)
    clear hK Kz hHeld
    have hHeld := hH2
    clear hH2
    (try simp only [Act.put, List.setIfInBounds_toArray, List.set_cons_zero, List.set_cons_succ])
    refine wpAnyH_done (by kernel_rfl) ?_ _
    have hset := own_set2 (x := x) LA.out.2.1 HLK.out.1
    have hgs : w10.grownBy ((w10.setCell ⟨gl, i * 5 + 2, none⟩ (.int .i64 x.ca)).setCell ⟨gl, i * 5 + 3, none⟩ (.int .i64 x.cb)) (some gl) := grown_trans (grown_setCell w10 ⟨gl, i * 5 + 2, none⟩ (.int .i64 x.ca)) (grown_setCell _ ⟨gl, i * 5 + 3, none⟩ (.int .i64 x.cb))
    have hg3 := LA.out.1.p.sz
    have AT : Hid (AP w ⟨R, L, pR, cR, pL, cL⟩ c ((w10.setCell ⟨gl, i * 5 + 2, none⟩ (.int .i64 x.ca)).setCell ⟨gl, i * 5 + 3, none⟩ (.int .i64 x.cb)).drew) := Lib.hid (AP.keep ⟨kept_row LA.out.1.p.tb hgs (fun e => by have := Option.some.inj e; omega), kept_row LA.out.1.p.cb hgs (fun e => by have := Option.some.inj e; omega), kept_row LA.out.1.p.rb hgs (fun e => by have := Option.some.inj e; omega), LA.out.1.p.t.grown hgs (fun b hb e => by have := Option.some.inj e; omega), grown_new LA.out.1.p.gr hgs (by omega), Nat.le_trans LA.out.1.p.sz hgs.size⟩ (grown_drew (grown_refl _ _)))
    have OL : Hid (((w10.setCell ⟨gl, i * 5 + 2, none⟩ (.int .i64 x.ca)).setCell ⟨gl, i * 5 + 3, none⟩ (.int .i64 x.cb)).drew.ownsRow wc.heap.size 68 5 (.slice (some ⟨gl, 0, none⟩) L.length cap) (L.set i ⟨l.a, l.b, x.ca, x.cb, l.cp⟩).length ((L.set i ⟨l.a, l.b, x.ca, x.cb, l.cp⟩).flatMap lkC) ∧ w.heap.size + 3 ≤ wc.heap.size) := Lib.hid ⟨hset.drew, hwc⟩
    have HNN : Hid (L.length = (L.set i ⟨l.a, l.b, x.ca, x.cb, l.cp⟩).length) := Lib.hid (by rw [List.length_set])
    have HCN : Hid (L.length ≤ cap ∧ cap ≤ 9223372036854775807) := Lib.hid (own_caps LA.out.2.1)
    clear hset hgs hg3 hHeld z2 y2 z3 y3 LA HS
    try clear l0 l1 l2 l3 l4
    generalize ((w10.setCell ⟨gl, i * 5 + 2, none⟩ (.int .i64 x.ca)).setCell ⟨gl, i * 5 + 3, none⟩ (.int .i64 x.cb)).drew = ws at *
    obtain ⟨c0, c1⟩ := row_cells AT.out.tb
    go_wp2_with fail
    refine (tcloneR_any R pR cR _ _ AT.out.t.r HPN.out.1 AT.out.t.cr (by omega)).mono ?_
    rintro e wt ⟨vR, rfl, hownR, hg⟩
    have AT2 := Lib.hid (AT.out.keep hg)
    have OL2 := Lib.hid (And.intro (OL.out.1.kept hg (.inr (fun e => by cases e))) OL.out.2)
    have hsz := AT.out.sz
    obtain ⟨pr', cr', rfl, hr1, hr2⟩ := own_shape hownR
    have HOR := Lib.hid hownR
    clear hownR hg AT OL c0 c1
    obtain ⟨z0, z1⟩ := row_cells AT2.out.rb
    have y0 := frozen_of_row _ _ 0 _ _ AT2.out.rb
    have y1 := frozen_of_row _ _ 1 _ _ AT2.out.rb
    go_wp2_with fail
    refine bodyPost_ret (res_topo_err rfl _ _ (w.heap.size + 2) _ _ rfl AT2.out.out.1) rfl ?_
    try rw [if_pos rfl, if_pos rfl]
    rw [HLN.out]
    have g9 := grown_store2 wt (w.heap.size + 2) (.slice pr' R.length cr') (.slice (some ⟨gl, 0, none⟩) L.length cap)
    have hlr : L.length = (L.set i ⟨l.a, l.b, x.ca, x.cb, l.cp⟩).length := HNN.out
    refine ⟨pr', cr', (some ⟨gl, 0, none⟩), cap, (by rw [← hlr]; rfl), ⟨?_, ?_, ⟨hr1, hr2⟩, (by rw [← hlr]; exact HCN.out)⟩, AT2.out.out.2⟩
    · exact ((rdf_of_own HOR.out).grown g9 (fun b hb e => by have h1 := Option.some.inj e; omega)).mono (fun b hb => by have h1 : _ ≤ b := hb; have h3 := OL2.out.2; show _ ≤ b; omega)
    · have h2 := ((rdf_of_own OL2.out.1).grown g9 (fun b hb e => by have h1 := Option.some.inj e; have h3 := OL2.out.2; omega)).mono (q' := (w.heap.size ≤ ·)) (fun b hb => by have h1 : _ ≤ b := hb; have h3 := OL2.out.2; show _ ≤ b; omega)
      obtain ⟨p9, c9, e9, hx9⟩ := h2
      injection e9 with e91 e92 e93
      subst e91
      subst e93
      exact ⟨_, _, rfl, hx9⟩
end Go.Proofs.Ytiencdgmnkphjaa

/- Parts of the proof, packed: TaVal. -/
import Derived.Test.YtgofadmncgmhoaaGreatAl17
import Derived.Test.YtgofadmncgmhoaaGreatAl19
/- tables: what build makes is valid. -/
namespace Go.Proofs.YtgofadmncgmhoaaGreat
open Go.RowKit Bs
set_option maxRecDepth 100000 in
theorem price_pos {R : List Rt} {L : List Lk} (h : okT R L = true) {a b : Int} (hp : (priceV L a b).2 = true) : 1 ≤ (priceV L a b).1 := by
  unfold priceV at hp ⊢
  cases hf : L.findSome? (priceB a b) with
  | none => rw [hf] at hp; cases hp
  | some c =>
    obtain ⟨l, hl, hc⟩ := List.exists_of_findSome?_eq_some hf
    have hn := List.any_eq_false.1 (okT_all h).nm l hl
    unfold wrNum at hn
    simp only [Bool.not_eq_true, Bool.not_eq_false', decide_eq_true_eq] at hn
    unfold priceB at hc
    split at hc
    · have := Option.some.inj hc; show 1 ≤ c; have := hn.1; omega
    · split at hc
      · have := Option.some.inj hc; show 1 ≤ c; have := hn.2.1; omega
      · cases hc
set_option maxRecDepth 100000 in
theorem st_lt {R : List Rt} {L : List Lk} {D : Int → Int} (h : okT R L = true) {a b : Int} (hb : b ∈ stV R L D a) : atV R D b < atV R D a := by
  unfold stV at hb
  split at hb
  · cases hb
  · obtain ⟨h1, h2⟩ := List.mem_filter.1 hb
    unfold okS at h2
    rw [Bool.and_eq_true] at h2
    have h3 := of_decide_eq_true h2.2
    unfold nearR at h1
    obtain ⟨r, hr, rfl⟩ := List.mem_map.1 h1
    have := price_pos h (List.mem_filter.1 hr).2
    omega
set_option maxRecDepth 100000 in
/-- Each next hop is nearer. -/
theorem hop_lt {R : List Rt} {L : List Lk} {D : Int → Int} (h : okT R L = true) {x y : Int} (hy : HopM R L D x y) : atV R D y < atV R D x := by
  obtain ⟨s, hs, hy, -⟩ := hy
  have h1 := hs (fun a => atV R D a ≤ atV R D x) (Int.le_refl _) (fun a b ha hb _ => by have := st_lt h hb; omega)
  have h2 := st_lt h hy
  omega
set_option maxRecDepth 100000 in
theorem NxB.ok {R : List Rt} {L0 : List Lk} {ro r : Int} {X : List Int} (h : NxB R L0 ro r X) (hok : okT R L0 = true) (hro : ro ∈ ids R) : X.Pairwise (· < ·) ∧ (∀ y ∈ X, y ∈ ids R) ∧ (1 < X.length → ro ∉ X) := by
  unfold NxB at h
  split at h
  · subst h
    exact ⟨List.pairwise_singleton _ _, fun y hy => by rw [List.mem_singleton.1 hy]; exact hro, fun h => absurd h (by show ¬ 1 < 1; omega)⟩
  · split at h
    · refine ⟨h.1, h.2.1, fun _ hm => ?_⟩
      have h3 := h.2.2
      unfold HopsIs at h3
      split at h3
      · have := hop_lt hok ((h3 ro).1 hm); omega
      · subst h3; cases hm
    · subst h
      exact ⟨List.Pairwise.nil, fun y hy => (by cases hy), fun _ hm => (by cases hm)⟩
set_option maxRecDepth 100000 in
theorem bldM_congr {R : List Rt} {L0 : List Lk} {ro : Int} {E : List Ed} {L M : List Rw} (h : BldM R L0 ro E L) (hm : M.map rw0 = L.map rw0) : BldM R L0 ro E M := by
  have hl : M.length = L.length := by have := congrArg List.length hm; simpa using this
  refine ⟨hl.trans h.1, fun i e x he hx => ?_⟩
  have h1 : (M.map rw0)[i]? = some (rw0 x) := by rw [List.getElem?_map, hx]; rfl
  rw [hm, List.getElem?_map] at h1
  cases hy : L[i]? with
  | none => rw [hy] at h1; cases h1
  | some y =>
    rw [hy] at h1
    have h2 : rw0 y = rw0 x := Option.some.inj h1
    have h3 : y.id = x.id := congrArg Prod.fst h2
    have h4 : y.nx = x.nx := congrArg Prod.snd h2
    have := h.2 i e y he hy
    rw [← h3, ← h4]; exact this
set_option maxRecDepth 100000 in
theorem asc_ofW {α : Type} {f : α → α → Bool} : ∀ l : List α, l.Pairwise (fun a b => f a b = true) → ascB f l = true
  | [], _ => rfl
  | [a], _ => rfl
  | a :: b :: t, h => by
    have h1 := List.pairwise_cons.1 h
    rw [ascB, Bool.and_eq_true]
    exact ⟨h1.1 b (by simp), asc_ofW (b :: t) h1.2⟩
set_option maxRecDepth 100000 in
theorem asc_pairT : ∀ E : List Ed, ascB ltE E = true → E.Pairwise (fun x y => x.i < y.i)
  | [], _ => List.Pairwise.nil
  | [a], _ => List.pairwise_singleton _ _
  | a :: b :: t, h => by
    rw [ascB, Bool.and_eq_true] at h
    have ih := asc_pairT (b :: t) h.2
    have hab : a.i < b.i := of_decide_eq_true h.1
    refine List.pairwise_cons.2 ⟨fun y hy => ?_, ih⟩
    rcases List.mem_cons.1 hy with rfl | hy
    · exact hab
    · have := (List.pairwise_cons.1 ih).1 y hy; omega
set_option maxRecDepth 100000 in
theorem ids_inT {R : List Rt} {L0 : List Lk} (hok : okT R L0 = true) {y : Int} (hy : y ∈ ids R) : 1 ≤ y ∧ y ≤ 99 := by
  obtain ⟨r, hr, rfl⟩ := List.mem_map.1 hy
  have := List.any_eq_false.1 (okT_all hok).id r hr
  unfold wrId at this
  simpa using this
set_option maxRecDepth 100000 in
/-- What build makes of a valid topology and a valid plan is a valid table. -/
theorem tab_valid {R : List Rt} {L0 : List Lk} {ro s n : Int} {E : List Ed} {M : List Rw} (hB : BldM R L0 ro E M) (hok : okT R L0 = true) (hp : vPl s n E = true) (hro : ro ∈ ids R) : ckT ro s n M = 0 := by
  have hv := hp
  unfold vPl at hv
  simp only [Bool.and_eq_true, Bool.not_eq_true', decide_eq_true_eq, Bool.or_eq_true] at hv
  obtain ⟨⟨⟨⟨⟨v1, v2⟩, v3⟩, v4⟩, v5⟩, -⟩ := hv
  have hat : ∀ x ∈ M, ∃ e ∈ E, x.id = e.i ∧ NxB R L0 ro e.r x.nx := fun x hx => by
    obtain ⟨i, hi, rfl⟩ := List.getElem_of_mem hx
    have hi2 : i < E.length := by have := hB.1; omega
    exact ⟨E[i], List.getElem_mem hi2, hB.2 i E[i] M[i] (List.getElem?_eq_getElem hi2) (List.getElem?_eq_getElem hi)⟩
  have hE : ∀ e ∈ E, 1 ≤ e.i ∧ e.i ≤ 256 := fun e he => by
    have := List.any_eq_false.1 v4 e he
    unfold wrE inV at this
    simp only [Bool.not_eq_true, Bool.not_eq_false', Bool.and_eq_true, decide_eq_true_eq] at this
    exact this.2
  have hro2 := ids_inT hok hro
  have hnd : ∀ x ∈ M, x.nx.length ≤ 24 := fun x hx => by
    obtain ⟨e, he, -, h2⟩ := hat x hx
    obtain ⟨p1, p2, -⟩ := h2.ok hok hro
    have := nodup_leH x.nx (ids R) (p1.imp (fun h => by omega)) p2
    rw [ids_len] at this
    have := (okT_len hok).1
    omega
  have c1 : hdT ro s n M = false := by
    unfold hdT
    rw [Bool.not_eq_false']
    simp only [Bool.and_eq_true, Bool.or_eq_true, decide_eq_true_eq]
    refine ⟨⟨by unfold inV; simpa using hro2, v1⟩, ?_⟩
    rcases v2 with v2 | v2
    · exact Or.inl v2
    · exact Or.inr ⟨v2.1, by rw [hB.1]; exact v2.2⟩
  have c2 : M.any wrW = false := List.any_eq_false.2 fun x hx => by
    obtain ⟨e, he, h1, h2⟩ := hat x hx
    unfold wrW
    simp only [Bool.not_eq_true, Bool.or_eq_false_iff, Bool.not_eq_false']
    refine ⟨by unfold inV; have := hE e he; rw [h1]; simpa using this, List.any_eq_false.2 fun z hz => ?_⟩
    have := ids_inT hok ((h2.ok hok hro).2.1 z hz)
    unfold inV
    simpa using this
  have c4 : M.any lgW = false := List.any_eq_false.2 fun x hx => by
    unfold lgW
    have := hnd x hx
    simp only [decide_eq_true_eq]
    omega
  have c5 : ascB ltW M = true := by
    refine asc_ofW M (List.pairwise_iff_getElem.2 fun i j hi hj hij => ?_)
    have hi2 : i < E.length := by have := hB.1; omega
    have hj2 : j < E.length := by have := hB.1; omega
    have h1 := (hB.2 i E[i] M[i] (List.getElem?_eq_getElem hi2) (List.getElem?_eq_getElem hi)).1
    have h2 := (hB.2 j E[j] M[j] (List.getElem?_eq_getElem hj2) (List.getElem?_eq_getElem hj)).1
    have h3 := List.pairwise_iff_getElem.1 (asc_pairT E v5) i j hi2 hj2 hij
    unfold ltW
    simp only [decide_eq_true_eq]
    omega
  have c6 : M.any dsW = false := List.any_eq_false.2 fun x hx => by
    obtain ⟨e, he, -, h2⟩ := hat x hx
    unfold dsW
    have : ascB ltI x.nx = true := asc_ofW x.nx ((h2.ok hok hro).1.imp (fun h => by unfold ltI; simpa using h))
    rw [this]; decide
  have c7 : M.any (cfW ro) = false := List.any_eq_false.2 fun x hx => by
    obtain ⟨e, he, -, h2⟩ := hat x hx
    unfold cfW
    simp only [Bool.and_eq_true, decide_eq_true_eq, List.any_eq_true, not_and, not_exists]
    exact fun h1 z hz h3 => (h2.ok hok hro).2.2 h1 (h3 ▸ hz)
  have c3 : M.length ≤ 256 := by have := hB.1; omega
  unfold ckT
  rw [c1, c2, c4, c5, c6, c7]
  simp; omega
set_option maxRecDepth 100000 in
/-- All tables of All are valid. -/
theorem all_valid {R : List Rt} {L0 : List Lk} {s n : Int} {E : List Ed} {Ts : List Tb} (h : AllM R L0 s n E R Ts) (hok : okT R L0 = true) (hp : vPl s n E = true) {x : Tb} (hx : x ∈ Ts) : x.s = s ∧ x.n = n ∧ x.r ∈ ids R ∧ (∃ y ∈ R, y.cap = true ∧ y.id = x.r) ∧ BldM R L0 x.r E x.L := by
  have h1 : x.r ∈ Ts.map (·.r) := List.mem_map.2 ⟨x, hx, rfl⟩
  rw [h.1] at h1
  obtain ⟨y, hy, he⟩ := List.mem_map.1 h1
  obtain ⟨hy1, hy2⟩ := List.mem_filter.1 hy
  obtain ⟨h2, h3, h4⟩ := h.2 x hx
  exact ⟨h2, h3, List.mem_map.2 ⟨y, hy1, he⟩, ⟨y, hy1, hy2, he⟩, h4⟩
set_option maxRecDepth 100000 in
theorem chk_idsT {R R0 : List Rt} {L : List Lk} (h : R.map (·.id) = R0.map (·.id)) : chk R L = chk R0 L := by
  have h1 : R.length = R0.length := by have := congrArg List.length h; simpa using this
  have h2 : ∀ R : List Rt, R.any wrId = (R.map (·.id)).any (fun x => !decide (1 ≤ x ∧ x ≤ 99)) := fun R => by rw [List.any_map]; rfl
  have h3 : ∀ R : List Rt, ascB ltR R = ascB (fun x y : Int => decide (x < y)) (R.map (·.id)) := by
    intro R
    induction R with
    | nil => rfl
    | cons a t ih =>
      cases t with
      | nil => rfl
      | cons b t => rw [List.map_cons, List.map_cons, ascB, ascB, ih]; rfl
  have h4 : ∀ x, hasR R x = hasR R0 x := fun x => by
    have e : ∀ R : List Rt, hasR R x = (R.map (·.id)).any (fun y => decide (y = x)) := fun R => by unfold hasR; rw [List.any_map]; rfl
    rw [e, e, h]
  have h5 : unk R = unk R0 := by funext l; unfold unk; rw [h4, h4]
  unfold chk
  rw [h1, h2, h2, h3, h3, h, h5]
end Go.Proofs.YtgofadmncgmhoaaGreat

/- Parts of the proof, packed: ShDij, ShNear, ShMap, ToHasF, ToWiW. -/
import Derived.Test.YtahafijpcmphaaaGreatQr5
import Derived.Test.YtahafijpcmphaaaGreatQr4
import Derived.Test.YtahafijpcmphaaaGreatQr2
import Derived.Maps.OwnSet
import Derived.Maps.OwnOps
import Derived.Lib.SlKeysI
import Derived.BigQuiet
/- The program's way to the least costs: the nearest open router first. -/
namespace Go.Proofs.YtahafijpcmphaaaGreat
/-- The neighbours of a router, with the costs of the links to them. -/
def nbD (L : List Lk) (r : Int) : List (Int × Int) := L.flatMap fun l => (if l.b = r then [(l.a, l.cb)] else []) ++ (if l.a = r then [(l.b, l.ca)] else [])
set_option maxRecDepth 100000 in
theorem nbD_mem {L : List Lk} {r v c : Int} : (v, c) ∈ nbD L r ↔ edg L r v c := by
  unfold nbD edg
  rw [List.mem_flatMap]
  constructor
  · rintro ⟨l, hl, h⟩
    refine ⟨l, hl, ?_⟩
    rcases List.mem_append.1 h with h1 | h1
    · by_cases e : l.b = r
      · rw [if_pos e] at h1
        have := List.mem_singleton.1 h1
        injection this with e1 e2
        exact .inr ⟨e, e1.symm, e2.symm⟩
      · rw [if_neg e] at h1; cases h1
    · by_cases e : l.a = r
      · rw [if_pos e] at h1
        have := List.mem_singleton.1 h1
        injection this with e1 e2
        exact .inl ⟨e, e1.symm, e2.symm⟩
      · rw [if_neg e] at h1; cases h1
  · rintro ⟨l, hl, ⟨e1, e2, e3⟩ | ⟨e1, e2, e3⟩⟩
    · refine ⟨l, hl, List.mem_append.2 (.inr ?_)⟩
      rw [if_pos e1, e2, e3]
      exact List.mem_singleton.2 rfl
    · refine ⟨l, hl, List.mem_append.2 (.inl ?_)⟩
      rw [if_pos e1, e2, e3]
      exact List.mem_singleton.2 rfl
/-- One neighbour of router r is looked at: the open routers, the costs. -/
def rlxD (r : Int) (st : List Int × (Int → Option Int)) (n : Int × Int) : List Int × (Int → Option Int) :=
  match st.2 n.1 with
  | none => (st.1 ++ [n.1], fun u => if u = n.1 then some ((st.2 r).getD 0 + n.2) else st.2 u)
  | some x => if (st.2 r).getD 0 + n.2 < x then (st.1, fun u => if u = n.1 then some ((st.2 r).getD 0 + n.2) else st.2 u) else st
/-- How many routers have no cost. -/
def unkD (V : List Int) (f : Int → Option Int) : Nat := (V.filter (fun v => (f v).isNone)).length
/-- Between two routers. -/
structure DI (L : List Lk) (V : List Int) (s : Int) (o : List Int) (f : Int → Option Int) : Prop where
  s0 : f s = some 0
  wk : ∀ v d, f v = some d → Wk L s v d ∧ v ∈ V
  nd : o.Nodup
  dm : ∀ x ∈ o, ∃ e, f x = some e
  cl : ∀ v d, v ∉ o → f v = some d → ∀ u c, edg L v u c → ∃ e, f u = some e ∧ e ≤ d + c
  le : ∀ v d, v ∉ o → f v = some d → ∀ x ∈ o, ∀ e, f x = some e → d ≤ e
/-- While the neighbours of r are looked at: those of 'done' have been. -/
structure DJ (L : List Lk) (V : List Int) (s r dr : Int) (done : List (Int × Int)) (o : List Int) (f : Int → Option Int) : Prop where
  s0 : f s = some 0
  wk : ∀ v d, f v = some d → Wk L s v d ∧ v ∈ V
  nd : o.Nodup
  dm : ∀ x ∈ o, ∃ e, f x = some e
  fr : f r = some dr ∧ r ∉ o
  cl : ∀ v d, v ∉ o → v ≠ r → f v = some d → ∀ u c, edg L v u c → ∃ e, f u = some e ∧ e ≤ d + c
  clr : ∀ n ∈ done, ∃ e, f n.1 = some e ∧ e ≤ dr + n.2
  lo : ∀ v d, v ∉ o → f v = some d → d ≤ dr
  hi : ∀ x ∈ o, ∀ e, f x = some e → dr ≤ e
set_option maxRecDepth 100000 in
theorem DI.start (L : List Lk) (V : List Int) (s : Int) (hs : s ∈ V) : DI L V s [s] (fun u => if u = s then some 0 else none) := by
  have key : ∀ v d, (if v = s then some (0 : Int) else none) = some d → v = s ∧ d = 0 := fun v d h => by
    by_cases e : v = s
    · rw [if_pos e] at h; exact ⟨e, (Option.some.inj h).symm⟩
    · rw [if_neg e] at h; cases h
  refine ⟨by simp, fun v d h => ?_, by simp, fun x hx => ⟨0, by rw [List.mem_singleton.1 hx]; simp⟩, fun v d hv h => ?_, fun v d hv h => ?_⟩
  · obtain ⟨rfl, rfl⟩ := key v d h
    exact ⟨Wk.nil L v, hs⟩
  · obtain ⟨rfl, rfl⟩ := key v d h
    exact absurd (List.mem_singleton.2 rfl) hv
  · obtain ⟨rfl, rfl⟩ := key v d h
    exact absurd (List.mem_singleton.2 rfl) hv
set_option maxRecDepth 100000 in
theorem unkD_le {V : List Int} {f g : Int → Option Int} (h : ∀ v, f v ≠ none → g v ≠ none) : unkD V g ≤ unkD V f := by
  unfold unkD
  induction V with
  | nil => exact Nat.le_refl _
  | cons a t ih =>
    rw [List.filter_cons, List.filter_cons]
    cases hg : g a with
    | some x =>
      rw [if_neg (by simp)]
      cases hf : f a with
      | some y => rw [if_neg (by simp)]; exact ih
      | none => rw [if_pos (by simp), List.length_cons]; omega
    | none =>
      have hf : f a = none := by
        cases hf : f a with
        | none => rfl
        | some y => exact absurd hg (h a (by rw [hf]; simp))
      rw [hf, if_pos (by simp), if_pos (by simp), List.length_cons, List.length_cons]
      omega
set_option maxRecDepth 100000 in
theorem unkD_lt {V : List Int} {f g : Int → Option Int} (h : ∀ v, f v ≠ none → g v ≠ none) {x : Int} (hx : x ∈ V) (hf : f x = none) (hg : g x ≠ none) : unkD V g < unkD V f := by
  induction V with
  | nil => cases hx
  | cons a t ih =>
    have hle := unkD_le (V := t) h
    unfold unkD at hle ih ⊢
    rw [List.filter_cons, List.filter_cons]
    by_cases ha : a = x
    · subst ha
      rw [if_neg (by cases hga : g a with | none => exact absurd hga hg | some y => simp), if_pos (by rw [hf]; rfl), List.length_cons]
      omega
    · have hxt : x ∈ t := by
        rcases List.mem_cons.1 hx with h1 | h1
        · exact absurd h1.symm ha
        · exact h1
      have i1 := ih hxt
      cases hga : g a with
      | some y =>
        rw [if_neg (by simp)]
        cases hfa : f a with
        | some z => rw [if_neg (by simp)]; exact i1
        | none => rw [if_pos (by simp), List.length_cons]; omega
      | none =>
        have hfa : f a = none := by
          cases hfa : f a with
          | none => rfl
          | some y => exact absurd hga (h a (by rw [hfa]; simp))
        rw [hfa, if_pos (by simp), if_pos (by simp), List.length_cons, List.length_cons]
        omega
set_option maxRecDepth 100000 in
/-- One neighbour. -/
theorem DJ.step {L : List Lk} (hp : Pos L) {V : List Int} (hV : Ends L V) {s r dr : Int} {done : List (Int × Int)} {o : List Int} {f : Int → Option Int} (h : DJ L V s r dr done o f) {n : Int × Int} (e : edg L r n.1 n.2) :
    DJ L V s r dr (done ++ [n]) (rlxD r (o, f) n).1 (rlxD r (o, f) n).2 ∧ 2 * unkD V (rlxD r (o, f) n).2 + (rlxD r (o, f) n).1.length ≤ 2 * unkD V f + o.length := by
  obtain ⟨v, c⟩ := n
  have hc := hp.edg e
  have hcr : (f r).getD 0 = dr := by rw [h.fr.1]; rfl
  have hwr := (h.wk r dr h.fr.1).1.step e
  have hvV := (hV.edg e).2
  simp only at e hc hwr hvV
  -- what setting v to dr + c keeps
  have set : ∀ (g : Int → Option Int), g = (fun u => if u = v then some (dr + c) else f u) → (∀ x, f v = some x → dr + c < x) →
      g s = some 0 ∧ (∀ u d, g u = some d → Wk L s u d ∧ u ∈ V) ∧ g r = some dr ∧ (∀ u d, f u = some d → ∃ d', g u = some d' ∧ d' ≤ d) ∧ (∀ u, u ≠ v → g u = f u) ∧ g v = some (dr + c) := by
    intro g hg hlt
    have hvr : v ≠ r := fun e1 => by
      have := hlt dr (by rw [e1]; exact h.fr.1)
      omega
    have hvs : v ≠ s := fun e1 => by
      have h1 := hlt 0 (by rw [e1]; exact h.s0)
      have h2 := (h.wk r dr h.fr.1).1.ge hp
      omega
    have gne : ∀ u, u ≠ v → g u = f u := fun u hu => by rw [hg]; show (if u = v then _ else _) = _; rw [if_neg hu]
    have gv : g v = some (dr + c) := by rw [hg]; show (if v = v then _ else _) = _; rw [if_pos rfl]
    refine ⟨by rw [gne s (Ne.symm hvs)]; exact h.s0, fun u d hu => ?_, by rw [gne r (Ne.symm hvr)]; exact h.fr.1, fun u d hu => ?_, gne, gv⟩
    · by_cases e1 : u = v
      · subst e1
        rw [gv] at hu
        obtain rfl := Option.some.inj hu
        exact ⟨hwr, hvV⟩
      · rw [gne u e1] at hu
        exact h.wk u d hu
    · by_cases e1 : u = v
      · subst e1
        exact ⟨dr + c, gv, by have := hlt d hu; omega⟩
      · exact ⟨d, by rw [gne u e1]; exact hu, Int.le_refl _⟩
  unfold rlxD
  simp only
  rw [hcr]
  cases hfv : f v with
  | none =>
    simp only
    obtain ⟨g, hg⟩ : ∃ g : Int → Option Int, g = (fun u => if u = v then some (dr + c) else f u) := ⟨_, rfl⟩
    obtain ⟨k1, k2, k3, k4, k5, k6⟩ := set g hg (fun x hx => by rw [hfv] at hx; cases hx)
    rw [← hg]
    have hvo : v ∉ o := fun hv => by obtain ⟨x, hx⟩ := h.dm v hv; rw [hfv] at hx; cases hx
    have hvr : r ≠ v := fun e1 => by have := h.fr.1; rw [e1, hfv] at this; cases this
    have hnv : ∀ u, u ∉ o ++ [v] → u ∉ o ∧ u ≠ v := fun u hu => ⟨fun h1 => hu (List.mem_append.2 (.inl h1)), fun h1 => hu (List.mem_append.2 (.inr (List.mem_singleton.2 h1)))⟩
    refine ⟨⟨k1, k2, ?_, fun x hx => ?_, ⟨k3, fun hr => ?_⟩, fun u d hu hur hd u2 c2 e2 => ?_, fun m hm => ?_, fun u d hu hd => ?_, fun x hx y hy => ?_⟩, ?_⟩
    · rw [List.nodup_append]
      refine ⟨h.nd, by simp, fun a ha b hb => ?_⟩
      rw [List.mem_singleton.1 hb]
      exact fun e1 => hvo (e1 ▸ ha)
    · rcases List.mem_append.1 hx with h1 | h1
      · obtain ⟨y, hy⟩ := h.dm x h1
        obtain ⟨y2, hy2, -⟩ := k4 x y hy
        exact ⟨y2, hy2⟩
      · rw [List.mem_singleton.1 h1]
        exact ⟨_, k6⟩
    · rcases List.mem_append.1 hr with h1 | h1
      · exact h.fr.2 h1
      · exact hvr (List.mem_singleton.1 h1)
    · obtain ⟨h1, h2⟩ := hnv u hu
      rw [k5 u h2] at hd
      obtain ⟨y, hy, hyl⟩ := h.cl u d h1 hur hd u2 c2 e2
      obtain ⟨y2, hy2, hle⟩ := k4 u2 y hy
      exact ⟨y2, hy2, by omega⟩
    · rcases List.mem_append.1 hm with h1 | h1
      · obtain ⟨y, hy, hyl⟩ := h.clr m h1
        obtain ⟨y2, hy2, hle⟩ := k4 _ y hy
        exact ⟨y2, hy2, by omega⟩
      · rw [List.mem_singleton.1 h1]
        exact ⟨_, k6, Int.le_refl _⟩
    · obtain ⟨h1, h2⟩ := hnv u hu
      rw [k5 u h2] at hd
      exact h.lo u d h1 hd
    · rcases List.mem_append.1 hx with h1 | h1
      · have h2 : x ≠ v := fun e1 => hvo (e1 ▸ h1)
        rw [k5 x h2] at hy
        exact h.hi x h1 y hy
      · rw [List.mem_singleton.1 h1, k6] at hy
        have := Option.some.inj hy
        omega
    · have h1 := unkD_lt (V := V) (f := f) (g := g) (fun u hu => by
        cases hfu : f u with
        | none => exact absurd hfu hu
        | some d => obtain ⟨y, hy, -⟩ := k4 u d hfu; rw [hy]; simp) hvV hfv (by rw [k6]; simp)
      rw [List.length_append, List.length_singleton]
      omega
  | some x =>
    simp only
    by_cases hlt : dr + c < x
    · rw [if_pos hlt]
      simp only
      obtain ⟨g, hg⟩ : ∃ g : Int → Option Int, g = (fun u => if u = v then some (dr + c) else f u) := ⟨_, rfl⟩
      obtain ⟨k1, k2, k3, k4, k5, k6⟩ := set g hg (fun y hy => by rw [hfv] at hy; have := Option.some.inj hy; omega)
      rw [← hg]
      -- v is open
      have hvo : v ∈ o := Classical.byContradiction fun hv => by have := h.lo v x hv hfv; omega
      have hnv : ∀ u, u ∉ o → u ≠ v := fun u hu e1 => hu (e1 ▸ hvo)
      refine ⟨⟨k1, k2, h.nd, fun y hy => ?_, ⟨k3, h.fr.2⟩, fun u d hu hur hd u2 c2 e2 => ?_, fun m hm => ?_, fun u d hu hd => ?_, fun y hy z hz => ?_⟩, ?_⟩
      · obtain ⟨z, hz⟩ := h.dm y hy
        obtain ⟨z2, hz2, -⟩ := k4 y z hz
        exact ⟨z2, hz2⟩
      · rw [k5 u (hnv u hu)] at hd
        obtain ⟨y, hy, hyl⟩ := h.cl u d hu hur hd u2 c2 e2
        obtain ⟨y2, hy2, hle⟩ := k4 u2 y hy
        exact ⟨y2, hy2, by omega⟩
      · rcases List.mem_append.1 hm with h1 | h1
        · obtain ⟨y, hy, hyl⟩ := h.clr m h1
          obtain ⟨y2, hy2, hle⟩ := k4 _ y hy
          exact ⟨y2, hy2, by omega⟩
        · rw [List.mem_singleton.1 h1]
          exact ⟨_, k6, Int.le_refl _⟩
      · rw [k5 u (hnv u hu)] at hd
        exact h.lo u d hu hd
      · by_cases e1 : y = v
        · rw [e1, k6] at hz
          have := Option.some.inj hz
          omega
        · rw [k5 y e1] at hz
          exact h.hi y hy z hz
      · have h1 := unkD_le (V := V) (f := f) (g := g) (fun u hu => by
          cases hfu : f u with
          | none => exact absurd hfu hu
          | some d => obtain ⟨y, hy, -⟩ := k4 u d hfu; rw [hy]; simp)
        omega
    · rw [if_neg hlt]
      refine ⟨⟨h.s0, h.wk, h.nd, h.dm, h.fr, h.cl, fun m hm => ?_, h.lo, h.hi⟩, Nat.le_refl _⟩
      rcases List.mem_append.1 hm with h1 | h1
      · exact h.clr m h1
      · rw [List.mem_singleton.1 h1]
        exact ⟨x, hfv, by simp only; omega⟩
set_option maxRecDepth 100000 in
/-- The nearest open router is taken out. -/
theorem DI.take {L : List Lk} {V : List Int} {s : Int} {o : List Int} {f : Int → Option Int} (h : DI L V s o f) {i : Nat} {r dr : Int} (hr : o[i]? = some r) (hd : f r = some dr) (hmin : ∀ x ∈ o, ∀ e, f x = some e → dr ≤ e) : DJ L V s r dr [] (o.eraseIdx i) f := by
  have hi := (List.getElem?_eq_some_iff.1 hr).1
  have hro : r ∈ o := List.mem_of_getElem? hr
  have hmem : ∀ x, x ∈ o.eraseIdx i ↔ x ∈ o ∧ x ≠ r := fun x => by
    have e1 : o[i] = r := (List.getElem?_eq_some_iff.1 hr).2
    rw [List.mem_eraseIdx_iff_getElem?]
    constructor
    · rintro ⟨j, hj, hx⟩
      refine ⟨List.mem_of_getElem? hx, fun e2 => hj ?_⟩
      obtain ⟨hjl, hje⟩ := List.getElem?_eq_some_iff.1 hx
      have hq := List.pairwise_iff_getElem.1 h.nd
      rcases Nat.lt_trichotomy j i with h1 | h1 | h1
      · exact absurd (hje.trans (e2.trans e1.symm)) (hq j i hjl hi h1)
      · exact h1
      · exact absurd ((e1.trans e2.symm).trans hje.symm) (hq i j hi hjl h1)
    · rintro ⟨h1, h2⟩
      obtain ⟨j, hjl, hje⟩ := List.mem_iff_getElem.1 h1
      exact ⟨j, fun e2 => h2 (by subst e2; rw [← hje, e1]), by rw [List.getElem?_eq_getElem hjl, hje]⟩
  have hnot : ∀ v, v ∉ o.eraseIdx i → v ∉ o ∨ v = r := fun v hv => by
    rcases Classical.em (v ∈ o) with h1 | h1
    · rcases Classical.em (v = r) with h2 | h2
      · exact .inr h2
      · exact absurd ((hmem v).2 ⟨h1, h2⟩) hv
    · exact .inl h1
  refine ⟨h.s0, h.wk, h.nd.sublist (List.eraseIdx_sublist _ _), fun x hx => h.dm x ((hmem x).1 hx).1, ⟨hd, fun hx => ((hmem r).1 hx).2 rfl⟩, fun v d hv hvr hf => ?_, fun n hn => (by cases hn), fun v d hv hf => ?_, fun x hx e he => hmin x ((hmem x).1 hx).1 e he⟩
  · rcases hnot v hv with h1 | h1
    · exact h.cl v d h1 hf
    · exact absurd h1 hvr
  · rcases hnot v hv with h1 | h1
    · exact h.le v d h1 hf r hro dr hd
    · subst h1
      rw [hd] at hf
      have := Option.some.inj hf
      omega
set_option maxRecDepth 100000 in
/-- All neighbours have been looked at. -/
theorem DJ.fin {L : List Lk} {V : List Int} {s r dr : Int} {o : List Int} {f : Int → Option Int} (h : DJ L V s r dr (nbD L r) o f) : DI L V s o f := by
  refine ⟨h.s0, h.wk, h.nd, h.dm, fun v d hv hf u c e => ?_, fun v d hv hf x hx y hy => ?_⟩
  · by_cases e1 : v = r
    · subst e1
      rw [h.fr.1] at hf
      obtain rfl := Option.some.inj hf
      exact h.clr (u, c) (nbD_mem.2 e)
    · exact h.cl v d hv e1 hf u c e
  · have := h.lo v d hv hf
    have := h.hi x hx y hy
    omega
set_option maxRecDepth 100000 in
/-- Nothing is open: the costs are the least. -/
theorem DI.done {L : List Lk} {V : List Int} {s : Int} {f : Int → Option Int} (h : DI L V s [] f) (v d : Int) : f v = some d ↔ IsD L s v d :=
  closed_D h.s0 (fun v d hf => (h.wk v d hf).1) (fun u d v c hf e => h.cl u d (by simp) hf v c e) v d
end Go.Proofs.YtahafijpcmphaaaGreat

/- shortest.nearby. -/
namespace Go.Proofs.YtahafijpcmphaaaGreat
open Go.RowKit Bs
def dsC (d : Int × Int) : List Value := [.int .i64 d.1, .int .i64 d.2]
set_option maxRecDepth 100000 in
theorem info_dst : (Tryz.prog.info? 131).map (fun i => (i.zero, i.size, i.bytes)) = some (some (.agg #[.int .i64 0, .int .i64 0]), 2, 16) := by kernel_rfl
def nb1D (x : Int) (l : Lk) : List (Int × Int) := (if l.b = x then [(l.a, l.cb)] else []) ++ (if l.a = x then [(l.b, l.ca)] else [])
set_option maxRecDepth 100000 in
theorem nbD_snoc {L : List Lk} {k : Nat} {l : Lk} (x : Int) (h : L[k]? = some l) : nbD (L.take (k + 1)) x = nbD (L.take k) x ++ nb1D x l := by
  unfold nbD nb1D
  rw [List.take_add_one, h]
  simp
set_option maxRecDepth 100000 in
theorem nbD_len (x : Int) : ∀ L : List Lk, (nbD L x).length ≤ 2 * L.length
  | [] => by simp [nbD]
  | l :: L => by
    have h1 : (nb1D x l).length ≤ 2 := by unfold nb1D; split <;> split <;> simp
    have h2 := nbD_len x L
    unfold nbD at *
    unfold nb1D at h1
    rw [List.flatMap_cons, List.length_append, List.length_cons]
    omega
/-- Distances in a row of the call's own. -/
structure ND (w : World) (v : Value) (l : List (Int × Int)) (wr : World) : Prop where
  own : wr.ownsRow w.heap.size 131 2 v l.length (l.flatMap dsC)
  gr : w.grownBy wr none
set_option maxRecDepth 100000 in
theorem ND.keep {w wr w' : World} {v : Value} {l : List (Int × Int)} (h : ND w v l wr) (g : wr.grownBy w' none) : ND w v l w' :=
  ⟨h.own.kept g (by cases hv : v.ownBlock <;> simp), grown_trans h.gr g⟩
set_option maxRecDepth 100000 in
theorem ND.more {w wr wy w1 : World} {v v' : Value} {l : List (Int × Int)} {x : Int × Int} {o : Obj} (h : ND w v l wr) (g : wr.grownBy wy none) (hown' : w1.ownsRow w.heap.size 131 2 v' (l.length + 1) (l.flatMap dsC ++ dsC x)) (hg : (wy.alloc o).grownBy w1 v.ownBlock) :
    ND w v' (l ++ [x]) w1 ∧ (∀ b ob, wr.heap.size ≤ b → wy.heap[b]? = some ob → w1.heap[b]? = some ob) := by
  have hy := h.keep g
  have k0 := World.grownBy_alloc wy o none
  refine ⟨⟨?_, grown_any (grown_trans hy.gr k0) hg (fun b hb e => by have := (hy.own.lt b e.symm).1; omega)⟩, fun b ob hb he => ?_⟩
  · rw [List.length_append, List.flatMap_append, List.flatMap_singleton]; exact hown'
  · refine kept_row (kept_row he k0 (by simp)) hg (fun e => ?_)
    have := (h.own.lt b e.symm).2
    omega
/-- What returns distances that can be read. -/
def TRetD (l : List (Int × Int)) (w : World) (e : Ending) (w' : World) : Prop := ∃ v, e = .returned v ∧ w'.ownsRow w.heap.size 131 2 v l.length (l.flatMap dsC) ∧ w.grownBy w' none
set_option maxRecDepth 100000 in
set_option maxHeartbeats 6400000 in
theorem tnearby_any (L : List Lk) (x : Int) (p : Option Addr) (c : Nat) (q : Nat → Prop) (w : World) (hR : RdL5 w q (.slice p L.length c) L) (hm : L.length ≤ 1000) :
    Calls Tryz.prog 118 #[.slice p L.length c, .int .i64 x] w fun e w' => TRetD (nbD L x) w e w' := by
  obtain ⟨i0, hi, hz0, hz1, hz2⟩ := info_parts info_dst
  have HR := Lib.hid hR
  clear hR
  have N0 : Hid (ND w (.slice none 0 0) (nbD (L.take 0) x) w) := Lib.hid ⟨World.ownsRow_nil _ _ _ _, grown_refl _ _⟩
  go_enter Tryz.func118, Tryz.ntmps118
  go_wp2_with fail
  go_loopw [5, 10] (fun v a wr => ∃ k : Nat, k ≤ L.length ∧ a = .int .i64 (k : Int) ∧ Hid (ND w v (nbD (L.take k) x) wr)) (fun _ a _ => L.length - (RowKit.intOf a).toNat)
  case atStart => exact ⟨0, Nat.zero_le _, rfl, N0⟩
  case round =>
    obtain ⟨k, hk, rfl, N⟩ := hrel
    clear N0
    by_cases hlt : k < L.length
    · obtain ⟨-, b, off, rfl, hq, hc⟩ := rdl_cells (HR.out.keep N.out.gr) (by omega)
      obtain ⟨y, hy⟩ : ∃ y, L[k]? = some y := ⟨_, List.getElem?_eq_getElem hlt⟩
      obtain ⟨a0, a1, a2, a3, a4⟩ := hc k y hy
      have gal := World.grownBy_alloc wr (.cells #[.int .i64 y.a, .int .i64 y.b, .int .i64 y.ca, .int .i64 y.cb, .int .i64 y.cp] 94) none
      have hbx := heap_alloc_new wr (.cells #[.int .i64 y.a, .int .i64 y.b, .int .i64 y.ca, .int .i64 y.cb, .int .i64 y.cp] 94)
      have HG := Lib.hid gal
      have HB := Lib.hid hbx
      have HL : Hid (nbD (L.take (k + 1)) x = nbD (L.take k) x ++ nb1D x y) := Lib.hid (nbD_snoc x hy)
      have hln := nbD_len x (L.take k)
      have hlt2 : (L.take k).length ≤ k := List.length_take_le _ _
      clear hc hy gal hbx
      go_upto_region 5 with fail
      clear a0 a1 a2 a3 a4
      generalize wr.alloc _ = wy at *
      have hsz : w.heap.size ≤ wy.heap.size := Nat.le_trans N.out.gr.size HG.out.size
      have hown := (N.out.keep HG.out).own
      obtain ⟨d0, d1, d2, d3, d4⟩ := lk_facts HB.out
      obtain ⟨M, hM⟩ : ∃ M, nbD (L.take k) x = M := ⟨_, rfl⟩
      rw [hM] at N HL hln hown
      have hMl : M.length ≤ 2000 := by omega
      clear hM hln hlt2
      by_cases e1 : y.b = x
      · have e1' : (y.b == x) = true := by simpa using e1
        have HE1 := Lib.hid e1
        clear e1
        go_wp2_with (at_builtin; refine hold_on ?_)
        refine Lib.hid ?_
        refine wpList_append_lies _ rfl _ _ 128 rfl w.heap.size 131 i0 (.agg #[.int .i64 0, .int .i64 0]) 2 16 Tryz.underlying128 hi hz0 hz1 hz2 rfl (by decide) _ _ _ rfl (hown.alloc _) ⟨wy.heap.size, 0, none⟩ 1 1 [.int .i64 y.a, .int .i64 y.cb] rfl rfl ?c1 ?c2 (by decide) ?c3 ?c4 ?c5 _ rfl ?_
        try (case c1 => exact cells2 _ _ _ _)
        case c2 => (intro u hu; simp at hu; rcases hu with rfl | rfl <;> rfl)
        case c3 => first | omega | (unfold maxLen; omega)
        case c4 => omega
        case c5 => first | omega | (simp; omega)
        intro gq capq w1 hown' hg hat6 hlt6
        obtain ⟨v', hvq⟩ : ∃ vq, Value.slice (some ⟨gq, 0, none⟩) (M.length + 1) capq = vq := ⟨_, rfl⟩
        rw [hvq] at hown' ⊢
        clear hvq hat6 hlt6
        obtain ⟨n1, n2⟩ := N.out.more (x := (y.a, y.cb)) HG.out hown' hg
        have N1 := Lib.hid n1
        have HB1 := Lib.hid (n2 wr.heap.size _ (Nat.le_refl _) HB.out)
        clear hown' hg n1 n2 hown d0 d1 d2 d3 d4
        obtain ⟨d0, d1, d2, d3, d4⟩ := lk_facts HB1.out
        by_cases e2 : y.a = x
        · have e2' : (y.a == x) = true := by simpa using e2
          have HE2 := Lib.hid e2
          have hown := N1.out.own
          have hsz1 := N1.out.gr.size
          have hMl1 : (M ++ [(y.a, y.cb)]).length ≤ 2001 := by rw [List.length_append]; simp; omega
          clear e2
          obtain ⟨M1, hM1⟩ : ∃ M1, M ++ [(y.a, y.cb)] = M1 := ⟨_, rfl⟩
          have HM1 := Lib.hid hM1
          rw [hM1] at N1 hown hMl1
          clear hM1
          go_wp2_with (at_builtin; refine hold_on ?_)
          refine Lib.hid ?_
          refine wpList_append_lies _ rfl _ _ 128 rfl w.heap.size 131 i0 (.agg #[.int .i64 0, .int .i64 0]) 2 16 Tryz.underlying128 hi hz0 hz1 hz2 rfl (by decide) _ _ _ rfl (hown.alloc _) ⟨w1.heap.size, 0, none⟩ 1 1 [.int .i64 y.b, .int .i64 y.ca] rfl rfl ?c1 ?c2 (by decide) ?c3 ?c4 ?c5 _ rfl ?_
          try (case c1 => exact cells2 _ _ _ _)
          case c2 => (intro u hu; simp at hu; rcases hu with rfl | rfl <;> rfl)
          case c3 => first | omega | (unfold maxLen; omega)
          case c4 => omega
          case c5 => first | omega | (simp; omega)
          intro gq capq w2 hown' hg hat6 hlt6
          obtain ⟨v2, hv2⟩ : ∃ vq, Value.slice (some ⟨gq, 0, none⟩) (M1.length + 1) capq = vq := ⟨_, rfl⟩
          rw [hv2] at hown' ⊢
          clear hv2 hat6 hlt6
          obtain ⟨n1, -⟩ := N1.out.more (x := (y.b, y.ca)) (grown_refl _ _) hown' hg
          have N2 : Hid (ND w v2 (nbD (L.take (k + 1)) x) w2) := Lib.hid (by rw [HL.out]; unfold nb1D; rw [if_pos HE1.out, if_pos HE2.out, ← List.append_assoc, HM1.out]; exact n1)
          clear hown' hg n1 hown d0 d1 d2 d3 d4
          go_wp2_with fail
          exact ⟨⟨k + 1, by omega, congrArg _ (by omega), N2⟩, by simp only [RowKit.intOf]; omega⟩
        · have e2' : (y.a == x) = false := by simpa using e2
          have N2 : Hid (ND w v' (nbD (L.take (k + 1)) x) w1) := Lib.hid (by rw [HL.out]; unfold nb1D; rw [if_pos HE1.out, if_neg e2, List.append_nil]; exact N1.out)
          clear e2
          go_wp2_with fail
          exact ⟨⟨k + 1, by omega, congrArg _ (by omega), N2⟩, by simp only [RowKit.intOf]; omega⟩
      · have e1' : (y.b == x) = false := by simpa using e1
        have HE1 := Lib.hid e1
        clear e1
        by_cases e2 : y.a = x
        · have e2' : (y.a == x) = true := by simpa using e2
          have HE2 := Lib.hid e2
          clear e2
          go_wp2_with (at_builtin; refine hold_on ?_)
          refine Lib.hid ?_
          refine wpList_append_lies _ rfl _ _ 128 rfl w.heap.size 131 i0 (.agg #[.int .i64 0, .int .i64 0]) 2 16 Tryz.underlying128 hi hz0 hz1 hz2 rfl (by decide) _ _ _ rfl (hown.alloc _) ⟨wy.heap.size, 0, none⟩ 1 1 [.int .i64 y.b, .int .i64 y.ca] rfl rfl ?c1 ?c2 (by decide) ?c3 ?c4 ?c5 _ rfl ?_
          try (case c1 => exact cells2 _ _ _ _)
          case c2 => (intro u hu; simp at hu; rcases hu with rfl | rfl <;> rfl)
          case c3 => first | omega | (unfold maxLen; omega)
          case c4 => omega
          case c5 => first | omega | (simp; omega)
          intro gq capq w2 hown' hg hat6 hlt6
          obtain ⟨v2, hv2⟩ : ∃ vq, Value.slice (some ⟨gq, 0, none⟩) (M.length + 1) capq = vq := ⟨_, rfl⟩
          rw [hv2] at hown' ⊢
          clear hv2 hat6 hlt6
          obtain ⟨n1, -⟩ := N.out.more (x := (y.b, y.ca)) HG.out hown' hg
          have N2 : Hid (ND w v2 (nbD (L.take (k + 1)) x) w2) := Lib.hid (by rw [HL.out]; unfold nb1D; rw [if_neg HE1.out, if_pos HE2.out, List.nil_append]; exact n1)
          clear hown' hg n1 hown d0 d1 d2 d3 d4
          go_wp2_with fail
          exact ⟨⟨k + 1, by omega, congrArg _ (by omega), N2⟩, by simp only [RowKit.intOf]; omega⟩
        · have e2' : (y.a == x) = false := by simpa using e2
          have N2 : Hid (ND w u5 (nbD (L.take (k + 1)) x) wy) := Lib.hid (by rw [HL.out]; unfold nb1D; rw [if_neg HE1.out, if_neg e2, List.append_nil, List.append_nil]; exact N.out.keep HG.out)
          clear e2
          go_wp2_with fail
          exact ⟨⟨k + 1, by omega, congrArg _ (by omega), N2⟩, by simp only [RowKit.intOf]; omega⟩
    · obtain rfl : k = L.length := by omega
      have hN := N.out
      rw [List.take_length] at hN
      have H9 := Lib.hid hN
      clear hN N
      go_wp2_with fail
      go_ret
      exact ⟨_, rfl, H9.out.own, H9.out.gr⟩
end Go.Proofs.YtahafijpcmphaaaGreat

/- Maps of costs. -/
namespace Go.Proofs.YtahafijpcmphaaaGreat
open Go.RowKit Go.Maps Bs
def kZ (x : Int) : Lit := .int .i64 x
set_option maxRecDepth 100000 in
theorem kZ_key (x : Int) : WideAt.IsKeyLit (kZ x) := by unfold kZ WideAt.IsKeyLit; trivial
set_option maxRecDepth 100000 in
theorem kZ_ne {x y : Int} (h : x ≠ y) : kZ x ≠ kZ y := fun e => h (by unfold kZ at e; injection e)
/-- A map that holds f. -/
structure MF (D : DataW Unit) (f : Int → Option Int) : Prop where
  td : Tidy D
  hs : ∀ x, Maps.has D (kZ x) = (f x).isSome
  at1_ : ∀ x, D.atKey (kZ x) (.lit (kZ 0)) = .lit (kZ ((f x).getD 0))
def putF (f : Int → Option Int) (x d : Int) : Int → Option Int := fun u => if u = x then some d else f u
set_option maxRecDepth 100000 in
theorem putF_same (f : Int → Option Int) (x d : Int) : putF f x d x = some d := by unfold putF; rw [if_pos rfl]
set_option maxRecDepth 100000 in
theorem putF_other (f : Int → Option Int) (x d : Int) {y : Int} (h : y ≠ x) : putF f x d y = f y := by unfold putF; rw [if_neg h]
set_option maxRecDepth 100000 in
theorem MF.nil : MF (.map []) (fun _ => none) := ⟨tidy_empty, fun _ => rfl, fun _ => rfl⟩
set_option maxRecDepth 100000 in
theorem MF.put {D : DataW Unit} {f : Int → Option Int} (h : MF D f) (x d : Int) : MF (D.put (kZ x) (.lit (kZ d))) (putF f x d) := by
  refine ⟨h.td.put (kZ_key x) _, fun y => ?_, fun y => ?_⟩
  · by_cases e : y = x
    · subst e
      rw [has_put_same h.td.isMap (kZ_key y), putF_same]
      rfl
    · rw [has_put_other (kZ_ne e), h.hs, putF_other f x d e]
  · by_cases e : y = x
    · subst e
      rw [putF_same]
      exact atKey_put_same h.td.isMap (kZ_key y) _ _
    · rw [atKey_put_other (kZ_ne e), h.at1_, putF_other f x d e]
set_option maxRecDepth 100000 in
theorem lawZ : Keyed Tryz.prog 3 := int_keyed Tryz.underlying3
set_option maxRecDepth 100000 in
theorem zeroZ (w : World) : (zeroValue 3).run Tryz.prog w = .ok (.int .i64 0) w := by kernel_rfl
set_option maxRecDepth 100000 in
theorem wfZ {x : Int} (h : I64 x) : (Lit.int .i64 x).wf = true := by
  unfold I64 at h
  simp [Lit.wf, IntKind.min, IntKind.max, IntKind.bits, IntKind.signed]
  omega
/-- Block b is a map that holds f, written at most n times. -/
def OMp (w : World) (b n : Nat) (f : Int → Option Int) : Prop := ∃ D : DataW Unit, w.ownsMap Tryz.prog 3 (plainElem Tryz.prog 3) b n D ∧ MF D f
set_option maxRecDepth 100000 in
theorem OMp.kept {w w' : World} {b n : Nat} {f : Int → Option Int} {r : Option Nat} (h : OMp w b n f) (g : w.grownBy w' r) (hr : some b ≠ r) : OMp w' b n f := by
  obtain ⟨D, h1, h2⟩ := h
  exact ⟨D, h1.kept g hr, h2⟩
set_option maxRecDepth 100000 in
theorem OMp.lt {w : World} {b n : Nat} {f : Int → Option Int} (h : OMp w b n f) : b < w.heap.size := by
  obtain ⟨D, h1, h2⟩ := h
  exact h1.lt
set_option maxRecDepth 100000 in
theorem OMp.mono {w : World} {b n m : Nat} {f : Int → Option Int} (h : OMp w b n f) (hn : n ≤ m) : OMp w b m f := by
  obtain ⟨D, h1, h2⟩ := h
  exact ⟨D, h1.mono hn, h2⟩
set_option maxRecDepth 100000 in
theorem OMp.made (w : World) : OMp (w.alloc (.map #[] 0)) w.heap.size 0 (fun _ => none) := ⟨_, World.ownsMap_made w _ _ _, MF.nil⟩
set_option maxRecDepth 100000 in
theorem OMp.put {w : World} {b n : Nat} {f : Int → Option Int} (h : OMp w b n f) (hn : n ≤ 1000000) {x d : Int} (hx : I64 x) (hd : I64 d) :
    ∃ w', (Instr.mapUpdate 114 (.map (some b)) (.int .i64 x) (.int .i64 d)).run Tryz.prog w = .ok () w' ∧ OMp w' b (n + 1) (putF f x d) ∧ w.grownBy w' (some b) := by
  obtain ⟨D, h1, h2⟩ := h
  obtain ⟨w', r1, r2, r3⟩ := h1.update (t := 114) lawZ Tryz.underlying114 (by unfold maxLen; omega) (keyOf_int_mk Tryz.underlying3 (wfZ hx)) (plainElem_int Tryz.underlying3 (wfZ hd))
  exact ⟨w', r1, ⟨_, r2, h2.put x d⟩, r3⟩
/-- A map value: nil, or a block that meets q. -/
def MV (w : World) (q : Nat → Prop) (v : Value) (f : Int → Option Int) : Prop :=
  (v = .map none ∧ ∀ x, f x = none) ∨ ∃ b n, v = .map (some b) ∧ q b ∧ n ≤ 1000000 ∧ OMp w b n f
set_option maxRecDepth 100000 in
theorem MV.grown {w w' : World} {q : Nat → Prop} {v : Value} {f : Int → Option Int} {r : Option Nat} (h : MV w q v f) (g : w.grownBy w' r) (hr : ∀ b, q b → some b ≠ r) : MV w' q v f := by
  rcases h with h | ⟨b, n, e, hq, hn, h⟩
  · exact .inl h
  · exact .inr ⟨b, n, e, hq, hn, h.kept g (hr b hq)⟩
set_option maxRecDepth 100000 in
theorem MV.keep {w w' : World} {q : Nat → Prop} {v : Value} {f : Int → Option Int} (h : MV w q v f) (g : w.grownBy w' none) : MV w' q v f := h.grown g (fun _ _ => by simp)
set_option maxRecDepth 100000 in
theorem MV.mono {w : World} {q q' : Nat → Prop} {v : Value} {f : Int → Option Int} (h : MV w q v f) (hq : ∀ b, q b → b < w.heap.size → q' b) : MV w q' v f := by
  rcases h with h | ⟨b, n, e, h1, hn, h⟩
  · exact .inl h
  · exact .inr ⟨b, n, e, hq b h1 h.lt, hn, h⟩
set_option maxRecDepth 100000 in
theorem OMp.look {w : World} {b n : Nat} {f : Int → Option Int} (h : OMp w b n f) {x : Int} (hx : I64 x) :
    (Instr.lookup 114 (.map (some b)) (.int .i64 x) false).run Tryz.prog w = .ok (.int .i64 ((f x).getD 0)) w ∧ (Instr.lookup 114 (.map (some b)) (.int .i64 x) true).run Tryz.prog w = .ok (.tuple #[.int .i64 ((f x).getD 0), .bool (f x).isSome]) w := by
  obtain ⟨D, h1, h2⟩ := h
  have hk := keyOf_int_mk Tryz.underlying3 (wfZ hx)
  have ha := h2.at1_ x
  constructor
  · obtain ⟨c, hrun, hat, -⟩ := h1.lookup_int (t := 114) lawZ Tryz.underlying114 Tryz.underlying3 (zeroZ _) hk
    rw [show (DataW.lit (kZ 0) : DataW Unit) = .lit (.int .i64 0) from rfl, show kZ x = .int .i64 x from rfl, hat] at ha
    unfold kZ at ha
    injection ha with ha
    injection ha with _ ha
    rw [hrun, ha]
  · obtain ⟨v, ps, hrun, hv⟩ := h1.look_ok (t := 114) lawZ Tryz.underlying114 (zeroZ _) (plainElem_int Tryz.underlying3 (q := .i64) (a := 0) (by decide)) hk
    obtain ⟨c, rfl, hc, -⟩ := plainElem_int_inv Tryz.underlying3 hv
    have hc1 := congrArg Prod.fst hc
    simp only at hc1
    rw [show (DataW.lit (kZ 0) : DataW Unit) = .lit (.int .i64 0) from rfl, show kZ x = .int .i64 x from rfl, hc1] at ha
    unfold kZ at ha
    injection ha with ha
    injection ha with _ ha
    rw [hrun, ← ha, ← h2.hs x]
    rfl
set_option maxRecDepth 100000 in
theorem MV.look {w : World} {q : Nat → Prop} {v : Value} {f : Int → Option Int} (h : MV w q v f) {x : Int} (hx : I64 x) :
    (Instr.lookup 114 v (.int .i64 x) false).run Tryz.prog w = .ok (.int .i64 ((f x).getD 0)) w ∧ (Instr.lookup 114 v (.int .i64 x) true).run Tryz.prog w = .ok (.tuple #[.int .i64 ((f x).getD 0), .bool (f x).isSome]) w := by
  rcases h with ⟨rfl, hn⟩ | ⟨b, n, rfl, -, -, h⟩
  · have hk := keyOf_int_mk Tryz.underlying3 (wfZ hx)
    rw [hn x]
    exact ⟨look_nil false lawZ Tryz.underlying114 (zeroZ w) hk, look_nil true lawZ Tryz.underlying114 (zeroZ w) hk⟩
  · exact h.look hx
end Go.Proofs.YtahafijpcmphaaaGreat

/- The reference's Has and Named; Same of equal topologies. -/
namespace Go.Proofs.YtahafijpcmphaaaGreat
open Go.RowKit Bs
end Go.Proofs.YtahafijpcmphaaaGreat

/- empty -/
namespace Go.Proofs.YtahafijpcmphaaaGreat
end Go.Proofs.YtahafijpcmphaaaGreat

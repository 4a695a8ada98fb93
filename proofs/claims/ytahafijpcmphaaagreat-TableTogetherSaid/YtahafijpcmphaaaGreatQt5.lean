/- Parts of the proof, packed: ShDij, ShNear, ShMap, ToHasF, ToWiW, ToSort, ToSrt2. -/
import Derived.Test.YtahafijpcmphaaaGreatQt4
import Derived.Test.YtahafijpcmphaaaGreatQt3
import Derived.Test.YtahafijpcmphaaaGreatQt2
import Derived.Maps.OwnSet
import Derived.Maps.OwnOps
import Derived.Lib.SlKeysI
import Derived.BigQuiet
/- The program's way to the least costs: the nearest open router first. -/
namespace Go.Proofs.YtahafijpcmphaaaGreat
set_option maxRecDepth 100000
def nbD (L : List Lk) (r : Int) : List (Int × Int) := L.flatMap fun l => (if l.b = r then [(l.a, l.cb)] else []) ++ (if l.a = r then [(l.b, l.ca)] else [])
theorem nbD_mem {L : List Lk} {r v c : Int} : (v, c) ∈ nbD L r ↔ edg L r v c := by
 unfold nbD edg
 rw [List.mem_flatMap]
 constructor
 ·rintro ⟨l, hl, h⟩
  refine ⟨l, hl, ?_⟩
  rcases List.mem_append.1 h with h1 | h1
  ·by_cases e : l.b = r
   ·rw [if_pos e] at h1
    have := List.mem_singleton.1 h1
    injection this with e1 e2
    exact .inr ⟨e, e1.symm, e2.symm⟩
   ·rw [if_neg e] at h1; cases h1
  ·by_cases e : l.a = r
   ·rw [if_pos e] at h1
    have := List.mem_singleton.1 h1
    injection this with e1 e2
    exact .inl ⟨e, e1.symm, e2.symm⟩
   ·rw [if_neg e] at h1; cases h1
 ·rintro ⟨l, hl, ⟨e1, e2, e3⟩ | ⟨e1, e2, e3⟩⟩
  ·refine ⟨l, hl, List.mem_append.2 (.inr ?_)⟩
   rw [if_pos e1, e2, e3]
   exact List.mem_singleton.2 rfl
  ·refine ⟨l, hl, List.mem_append.2 (.inl ?_)⟩
   rw [if_pos e1, e2, e3]
   exact List.mem_singleton.2 rfl
def rlxD (r : Int) (st : List Int × (Int → Option Int)) (n : Int × Int) : List Int × (Int → Option Int) :=
 match st.2 n.1 with
 | none => (st.1 ++ [n.1], fun u => if u = n.1 then some ((st.2 r).getD 0 + n.2) else st.2 u)
 | some x => if (st.2 r).getD 0 + n.2 < x then (st.1, fun u => if u = n.1 then some ((st.2 r).getD 0 + n.2) else st.2 u) else st
def unkD (V : List Int) (f : Int → Option Int) : Nat := (V.filter (fun v => (f v).isNone)).length
structure DI (L : List Lk) (V : List Int) (s : Int) (o : List Int) (f : Int → Option Int) : Prop where
 s0 : f s = some 0
 wk : ∀ v d, f v = some d → Wk L s v d ∧ v ∈ V
 nd : o.Nodup
 dm : ∀ x ∈ o, ∃ e, f x = some e
 cl : ∀ v d, v ∉ o → f v = some d → ∀ u c, edg L v u c → ∃ e, f u = some e ∧ e ≤ d + c
 le : ∀ v d, v ∉ o → f v = some d → ∀ x ∈ o, ∀ e, f x = some e → d ≤ e
structure DJ (L : List Lk) (V : List Int) (s r dr : Int) (done : List (Int × Int)) (o : List Int) (f : Int → Option Int) : Prop where
 s0 : f s = some 0
 wk : ∀ v d, f v = some d → Wk L s v d ∧ v ∈ V
 nd : o.Nodup
 dm : ∀ x ∈ o, ∃ e, f x = some e
 fr : f r = some dr ∧ r ∉ o
 cl : ∀ v d, v ∉ o → v ≠ r → f v = some d → ∀ u c, edg L v u c → ∃ e, f u = some e ∧ e ≤ d + c
 clr : ∀ n ∈ done, ∃ e, f n.1 = some e ∧ e ≤ dr + n.2
 lo : ∀ v d, v ∉ o → f v = some d → d ≤ dr
 hi : ∀ x ∈ o, ∀ e, f x = some e → dr ≤ e
theorem DI.start (L : List Lk) (V : List Int) (s : Int) (hs : s ∈ V) : DI L V s [s] (fun u => if u = s then some 0 else none) := by
 have key : ∀ v d, (if v = s then some (0 : Int) else none) = some d → v = s ∧ d = 0 := fun v d h => by
  by_cases e : v = s
  ·rw [if_pos e] at h; exact ⟨e, (Option.some.inj h).symm⟩
  ·rw [if_neg e] at h; cases h
 refine ⟨by simp, fun v d h => ?_, by simp, fun x hx => ⟨0, by rw [List.mem_singleton.1 hx]; simp⟩, fun v d hv h => ?_, fun v d hv h => ?_⟩
 ·obtain ⟨rfl, rfl⟩ := key v d h
  exact ⟨Wk.nil L v, hs⟩
 ·obtain ⟨rfl, rfl⟩ := key v d h
  exact absurd (List.mem_singleton.2 rfl) hv
 ·obtain ⟨rfl, rfl⟩ := key v d h
  exact absurd (List.mem_singleton.2 rfl) hv
theorem unkD_le {V : List Int} {f g : Int → Option Int} (h : ∀ v, f v ≠ none → g v ≠ none) : unkD V g ≤ unkD V f := by
 unfold unkD
 induction V with
 | nil => exact Nat.le_refl _
 | cons a t ih =>
  rw [List.filter_cons, List.filter_cons]
  cases hg : g a with
  | some x =>
   rw [if_neg (by simp)]
   cases hf : f a with
   | some y => rw [if_neg (by simp)]; exact ih
   | none => rw [if_pos (by simp), List.length_cons]; omega
  | none =>
   have hf : f a = none := by
    cases hf : f a with
    | none => rfl
    | some y => exact absurd hg (h a (by rw [hf]; simp))
   rw [hf, if_pos (by simp), if_pos (by simp), List.length_cons, List.length_cons]
   omega
theorem unkD_lt {V : List Int} {f g : Int → Option Int} (h : ∀ v, f v ≠ none → g v ≠ none) {x : Int} (hx : x ∈ V) (hf : f x = none) (hg : g x ≠ none) : unkD V g < unkD V f := by
 induction V with
 | nil => cases hx
 | cons a t ih =>
  have hle := unkD_le (V := t) h
  unfold unkD at hle ih ⊢
  rw [List.filter_cons, List.filter_cons]
  by_cases ha : a = x
  ·subst ha
   rw [if_neg (by cases hga : g a with | none => exact absurd hga hg | some y => simp), if_pos (by rw [hf]; rfl), List.length_cons]
   omega
  ·have hxt : x ∈ t := by
    rcases List.mem_cons.1 hx with h1 | h1
    ·exact absurd h1.symm ha
    ·exact h1
   have i1 := ih hxt
   cases hga : g a with
   | some y =>
    rw [if_neg (by simp)]
    cases hfa : f a with
    | some z => rw [if_neg (by simp)]; exact i1
    | none => rw [if_pos (by simp), List.length_cons]; omega
   | none =>
    have hfa : f a = none := by
     cases hfa : f a with
     | none => rfl
     | some y => exact absurd hga (h a (by rw [hfa]; simp))
    rw [hfa, if_pos (by simp), if_pos (by simp), List.length_cons, List.length_cons]
    omega
theorem DJ.step {L : List Lk} (hp : Pos L) {V : List Int} (hV : Ends L V) {s r dr : Int} {done : List (Int × Int)} {o : List Int} {f : Int → Option Int} (h : DJ L V s r dr done o f) {n : Int × Int} (e : edg L r n.1 n.2) :
  DJ L V s r dr (done ++ [n]) (rlxD r (o, f) n).1 (rlxD r (o, f) n).2 ∧ 2 * unkD V (rlxD r (o, f) n).2 + (rlxD r (o, f) n).1.length ≤ 2 * unkD V f + o.length := by
 obtain ⟨v, c⟩ := n
 have hc := hp.edg e
 have hcr : (f r).getD 0 = dr := by rw [h.fr.1]; rfl
 have hwr := (h.wk r dr h.fr.1).1.step e
 have hvV := (hV.edg e).2
 simp only at e hc hwr hvV
 -- what setting v to dr + c keeps
 have set : ∀ (g : Int → Option Int), g = (fun u => if u = v then some (dr + c) else f u) → (∀ x, f v = some x → dr + c < x) →
   g s = some 0 ∧ (∀ u d, g u = some d → Wk L s u d ∧ u ∈ V) ∧ g r = some dr ∧ (∀ u d, f u = some d → ∃ d', g u = some d' ∧ d' ≤ d) ∧ (∀ u, u ≠ v → g u = f u) ∧ g v = some (dr + c) := by
  intro g hg hlt
  have hvr : v ≠ r := fun e1 => by
   have := hlt dr (by rw [e1]; exact h.fr.1)
   omega
  have hvs : v ≠ s := fun e1 => by
   have h1 := hlt 0 (by rw [e1]; exact h.s0)
   have h2 := (h.wk r dr h.fr.1).1.ge hp
   omega
  have gne : ∀ u, u ≠ v → g u = f u := fun u hu => by rw [hg]; show (if u = v then _ else _) = _; rw [if_neg hu]
  have gv : g v = some (dr + c) := by rw [hg]; show (if v = v then _ else _) = _; rw [if_pos rfl]
  refine ⟨by rw [gne s (Ne.symm hvs)]; exact h.s0, fun u d hu => ?_, by rw [gne r (Ne.symm hvr)]; exact h.fr.1, fun u d hu => ?_, gne, gv⟩
  ·by_cases e1 : u = v
   ·subst e1
    rw [gv] at hu
    obtain rfl := Option.some.inj hu
    exact ⟨hwr, hvV⟩
   ·rw [gne u e1] at hu
    exact h.wk u d hu
  ·by_cases e1 : u = v
   ·subst e1
    exact ⟨dr + c, gv, by have := hlt d hu; omega⟩
   ·exact ⟨d, by rw [gne u e1]; exact hu, Int.le_refl _⟩
 unfold rlxD
 simp only
 rw [hcr]
 cases hfv : f v with
 | none =>
  simp only
  obtain ⟨g, hg⟩ : ∃ g : Int → Option Int, g = (fun u => if u = v then some (dr + c) else f u) := ⟨_, rfl⟩
  obtain ⟨k1, k2, k3, k4, k5, k6⟩ := set g hg (fun x hx => by rw [hfv] at hx; cases hx)
  rw [← hg]
  have hvo : v ∉ o := fun hv => by obtain ⟨x, hx⟩ := h.dm v hv; rw [hfv] at hx; cases hx
  have hvr : r ≠ v := fun e1 => by have := h.fr.1; rw [e1, hfv] at this; cases this
  have hnv : ∀ u, u ∉ o ++ [v] → u ∉ o ∧ u ≠ v := fun u hu => ⟨fun h1 => hu (List.mem_append.2 (.inl h1)), fun h1 => hu (List.mem_append.2 (.inr (List.mem_singleton.2 h1)))⟩
  refine ⟨⟨k1, k2, ?_, fun x hx => ?_, ⟨k3, fun hr => ?_⟩, fun u d hu hur hd u2 c2 e2 => ?_, fun m hm => ?_, fun u d hu hd => ?_, fun x hx y hy => ?_⟩, ?_⟩
  ·rw [List.nodup_append]
   refine ⟨h.nd, by simp, fun a ha b hb => ?_⟩
   rw [List.mem_singleton.1 hb]
   exact fun e1 => hvo (e1 ▸ ha)
  ·rcases List.mem_append.1 hx with h1 | h1
   ·obtain ⟨y, hy⟩ := h.dm x h1
    obtain ⟨y2, hy2, -⟩ := k4 x y hy
    exact ⟨y2, hy2⟩
   ·rw [List.mem_singleton.1 h1]
    exact ⟨_, k6⟩
  ·rcases List.mem_append.1 hr with h1 | h1
   ·exact h.fr.2 h1
   ·exact hvr (List.mem_singleton.1 h1)
  ·obtain ⟨h1, h2⟩ := hnv u hu
   rw [k5 u h2] at hd
   obtain ⟨y, hy, hyl⟩ := h.cl u d h1 hur hd u2 c2 e2
   obtain ⟨y2, hy2, hle⟩ := k4 u2 y hy
   exact ⟨y2, hy2, by omega⟩
  ·rcases List.mem_append.1 hm with h1 | h1
   ·obtain ⟨y, hy, hyl⟩ := h.clr m h1
    obtain ⟨y2, hy2, hle⟩ := k4 _ y hy
    exact ⟨y2, hy2, by omega⟩
   ·rw [List.mem_singleton.1 h1]
    exact ⟨_, k6, Int.le_refl _⟩
  ·obtain ⟨h1, h2⟩ := hnv u hu
   rw [k5 u h2] at hd
   exact h.lo u d h1 hd
  ·rcases List.mem_append.1 hx with h1 | h1
   ·have h2 : x ≠ v := fun e1 => hvo (e1 ▸ h1)
    rw [k5 x h2] at hy
    exact h.hi x h1 y hy
   ·rw [List.mem_singleton.1 h1, k6] at hy
    have := Option.some.inj hy
    omega
  ·have h1 := unkD_lt (V := V) (f := f) (g := g) (fun u hu => by
    cases hfu : f u with
    | none => exact absurd hfu hu
    | some d => obtain ⟨y, hy, -⟩ := k4 u d hfu; rw [hy]; simp) hvV hfv (by rw [k6]; simp)
   rw [List.length_append, List.length_singleton]
   omega
 | some x =>
  simp only
  by_cases hlt : dr + c < x
  ·rw [if_pos hlt]
   simp only
   obtain ⟨g, hg⟩ : ∃ g : Int → Option Int, g = (fun u => if u = v then some (dr + c) else f u) := ⟨_, rfl⟩
   obtain ⟨k1, k2, k3, k4, k5, k6⟩ := set g hg (fun y hy => by rw [hfv] at hy; have := Option.some.inj hy; omega)
   rw [← hg]
   -- v is open
   have hvo : v ∈ o := Classical.byContradiction fun hv => by have := h.lo v x hv hfv; omega
   have hnv : ∀ u, u ∉ o → u ≠ v := fun u hu e1 => hu (e1 ▸ hvo)
   refine ⟨⟨k1, k2, h.nd, fun y hy => ?_, ⟨k3, h.fr.2⟩, fun u d hu hur hd u2 c2 e2 => ?_, fun m hm => ?_, fun u d hu hd => ?_, fun y hy z hz => ?_⟩, ?_⟩
   ·obtain ⟨z, hz⟩ := h.dm y hy
    obtain ⟨z2, hz2, -⟩ := k4 y z hz
    exact ⟨z2, hz2⟩
   ·rw [k5 u (hnv u hu)] at hd
    obtain ⟨y, hy, hyl⟩ := h.cl u d hu hur hd u2 c2 e2
    obtain ⟨y2, hy2, hle⟩ := k4 u2 y hy
    exact ⟨y2, hy2, by omega⟩
   ·rcases List.mem_append.1 hm with h1 | h1
    ·obtain ⟨y, hy, hyl⟩ := h.clr m h1
     obtain ⟨y2, hy2, hle⟩ := k4 _ y hy
     exact ⟨y2, hy2, by omega⟩
    ·rw [List.mem_singleton.1 h1]
     exact ⟨_, k6, Int.le_refl _⟩
   ·rw [k5 u (hnv u hu)] at hd
    exact h.lo u d hu hd
   ·by_cases e1 : y = v
    ·rw [e1, k6] at hz
     have := Option.some.inj hz
     omega
    ·rw [k5 y e1] at hz
     exact h.hi y hy z hz
   ·have h1 := unkD_le (V := V) (f := f) (g := g) (fun u hu => by
     cases hfu : f u with
     | none => exact absurd hfu hu
     | some d => obtain ⟨y, hy, -⟩ := k4 u d hfu; rw [hy]; simp)
    omega
  ·rw [if_neg hlt]
   refine ⟨⟨h.s0, h.wk, h.nd, h.dm, h.fr, h.cl, fun m hm => ?_, h.lo, h.hi⟩, Nat.le_refl _⟩
   rcases List.mem_append.1 hm with h1 | h1
   ·exact h.clr m h1
   ·rw [List.mem_singleton.1 h1]
    exact ⟨x, hfv, by simp only; omega⟩
theorem DI.take {L : List Lk} {V : List Int} {s : Int} {o : List Int} {f : Int → Option Int} (h : DI L V s o f) {i : Nat} {r dr : Int} (hr : o[i]? = some r) (hd : f r = some dr) (hmin : ∀ x ∈ o, ∀ e, f x = some e → dr ≤ e) : DJ L V s r dr [] (o.eraseIdx i) f := by
 have hi := (List.getElem?_eq_some_iff.1 hr).1
 have hro : r ∈ o := List.mem_of_getElem? hr
 have hmem : ∀ x, x ∈ o.eraseIdx i ↔ x ∈ o ∧ x ≠ r := fun x => by
  have e1 : o[i] = r := (List.getElem?_eq_some_iff.1 hr).2
  rw [List.mem_eraseIdx_iff_getElem?]
  constructor
  ·rintro ⟨j, hj, hx⟩
   refine ⟨List.mem_of_getElem? hx, fun e2 => hj ?_⟩
   obtain ⟨hjl, hje⟩ := List.getElem?_eq_some_iff.1 hx
   have hq := List.pairwise_iff_getElem.1 h.nd
   rcases Nat.lt_trichotomy j i with h1 | h1 | h1
   ·exact absurd (hje.trans (e2.trans e1.symm)) (hq j i hjl hi h1)
   ·exact h1
   ·exact absurd ((e1.trans e2.symm).trans hje.symm) (hq i j hi hjl h1)
  ·rintro ⟨h1, h2⟩
   obtain ⟨j, hjl, hje⟩ := List.mem_iff_getElem.1 h1
   exact ⟨j, fun e2 => h2 (by subst e2; rw [← hje, e1]), by rw [List.getElem?_eq_getElem hjl, hje]⟩
 have hnot : ∀ v, v ∉ o.eraseIdx i → v ∉ o ∨ v = r := fun v hv => by
  rcases Classical.em (v ∈ o) with h1 | h1
  ·rcases Classical.em (v = r) with h2 | h2
   ·exact .inr h2
   ·exact absurd ((hmem v).2 ⟨h1, h2⟩) hv
  ·exact .inl h1
 refine ⟨h.s0, h.wk, h.nd.sublist (List.eraseIdx_sublist _ _), fun x hx => h.dm x ((hmem x).1 hx).1, ⟨hd, fun hx => ((hmem r).1 hx).2 rfl⟩, fun v d hv hvr hf => ?_, fun n hn => (by cases hn), fun v d hv hf => ?_, fun x hx e he => hmin x ((hmem x).1 hx).1 e he⟩
 ·rcases hnot v hv with h1 | h1
  ·exact h.cl v d h1 hf
  ·exact absurd h1 hvr
 ·rcases hnot v hv with h1 | h1
  ·exact h.le v d h1 hf r hro dr hd
  ·subst h1
   rw [hd] at hf
   have := Option.some.inj hf
   omega
theorem DJ.fin {L : List Lk} {V : List Int} {s r dr : Int} {o : List Int} {f : Int → Option Int} (h : DJ L V s r dr (nbD L r) o f) : DI L V s o f := by
 refine ⟨h.s0, h.wk, h.nd, h.dm, fun v d hv hf u c e => ?_, fun v d hv hf x hx y hy => ?_⟩
 ·by_cases e1 : v = r
  ·subst e1
   rw [h.fr.1] at hf
   obtain rfl := Option.some.inj hf
   exact h.clr (u, c) (nbD_mem.2 e)
  ·exact h.cl v d hv e1 hf u c e
 ·have := h.lo v d hv hf
  have := h.hi x hx y hy
  omega
theorem DI.done {L : List Lk} {V : List Int} {s : Int} {f : Int → Option Int} (h : DI L V s [] f) (v d : Int) : f v = some d ↔ IsD L s v d :=
 closed_D h.s0 (fun v d hf => (h.wk v d hf).1) (fun u d v c hf e => h.cl u d (by simp) hf v c e) v d
end Go.Proofs.YtahafijpcmphaaaGreat

/- shortest.nearby. -/
namespace Go.Proofs.YtahafijpcmphaaaGreat
set_option maxRecDepth 100000
open Go.RowKit Bs
def dsC (d : Int × Int) : List Value := [.int .i64 d.1, .int .i64 d.2]
theorem info_dst : (Tryz.prog.info? 131).map (fun i => (i.zero, i.size, i.bytes)) = some (some (.agg #[.int .i64 0, .int .i64 0]), 2, 16) := by kernel_rfl
def nb1D (x : Int) (l : Lk) : List (Int × Int) := (if l.b = x then [(l.a, l.cb)] else []) ++ (if l.a = x then [(l.b, l.ca)] else [])
theorem nbD_snoc {L : List Lk} {k : Nat} {l : Lk} (x : Int) (h : L[k]? = some l) : nbD (L.take (k + 1)) x = nbD (L.take k) x ++ nb1D x l := by
 unfold nbD nb1D
 rw [List.take_add_one, h]
 simp
theorem nbD_len (x : Int) : ∀ L : List Lk, (nbD L x).length ≤ 2 * L.length
 | [] => by simp [nbD]
 | l :: L => by
  have h1 : (nb1D x l).length ≤ 2 := by unfold nb1D; split <;> split <;> simp
  have h2 := nbD_len x L
  unfold nbD at *
  unfold nb1D at h1
  rw [List.flatMap_cons, List.length_append, List.length_cons]
  omega
structure ND (w : World) (v : Value) (l : List (Int × Int)) (wr : World) : Prop where
 own : wr.ownsRow w.heap.size 131 2 v l.length (l.flatMap dsC)
 gr : w.grownBy wr none
theorem ND.keep {w wr w' : World} {v : Value} {l : List (Int × Int)} (h : ND w v l wr) (g : wr.grownBy w' none) : ND w v l w' :=
 ⟨h.own.kept g (by cases hv : v.ownBlock <;> simp), grown_trans h.gr g⟩
theorem ND.more {w wr wy w1 : World} {v v' : Value} {l : List (Int × Int)} {x : Int × Int} {o : Obj} (h : ND w v l wr) (g : wr.grownBy wy none) (hown' : w1.ownsRow w.heap.size 131 2 v' (l.length + 1) (l.flatMap dsC ++ dsC x)) (hg : (wy.alloc o).grownBy w1 v.ownBlock) :
  ND w v' (l ++ [x]) w1 ∧ (∀ b ob, wr.heap.size ≤ b → wy.heap[b]? = some ob → w1.heap[b]? = some ob) := by
 have hy := h.keep g
 have k0 := World.grownBy_alloc wy o none
 refine ⟨⟨?_, grown_any (grown_trans hy.gr k0) hg (fun b hb e => by have := (hy.own.lt b e.symm).1; omega)⟩, fun b ob hb he => ?_⟩
 ·rw [List.length_append, List.flatMap_append, List.flatMap_singleton]; exact hown'
 ·refine kept_row (kept_row he k0 (by simp)) hg (fun e => ?_)
  have := (h.own.lt b e.symm).2
  omega
def TRetD (l : List (Int × Int)) (w : World) (e : Ending) (w' : World) : Prop := ∃ v, e = .returned v ∧ w'.ownsRow w.heap.size 131 2 v l.length (l.flatMap dsC) ∧ w.grownBy w' none
set_option maxHeartbeats 6400000 in
theorem tnearby_any (L : List Lk) (x : Int) (p : Option Addr) (c : Nat) (q : Nat → Prop) (w : World) (hR : RdL5 w q (.slice p L.length c) L) (hm : L.length ≤ 1000) :
  Calls Tryz.prog 118 #[.slice p L.length c, .int .i64 x] w fun e w' => TRetD (nbD L x) w e w' := by
 obtain ⟨i0, hi, hz0, hz1, hz2⟩ := info_parts info_dst
 have HR := Lib.hid hR
 clear hR
 have N0 : Hid (ND w (.slice none 0 0) (nbD (L.take 0) x) w) := Lib.hid ⟨World.ownsRow_nil _ _ _ _, grown_refl _ _⟩
 go_enter Tryz.func118, Tryz.ntmps118
 go_wp2_with fail
 go_loopw [5, 10] (fun v a wr => ∃ k : Nat, k ≤ L.length ∧ a = .int .i64 (k : Int) ∧ Hid (ND w v (nbD (L.take k) x) wr)) (fun _ a _ => L.length - (RowKit.intOf a).toNat)
 case atStart => exact ⟨0, Nat.zero_le _, rfl, N0⟩
 case round =>
  obtain ⟨k, hk, rfl, N⟩ := hrel
  clear N0
  by_cases hlt : k < L.length
  ·obtain ⟨-, b, off, rfl, hq, hc⟩ := rdl_cells (HR.out.keep N.out.gr) (by omega)
   obtain ⟨y, hy⟩ : ∃ y, L[k]? = some y := ⟨_, List.getElem?_eq_getElem hlt⟩
   obtain ⟨a0, a1, a2, a3, a4⟩ := hc k y hy
   have gal := World.grownBy_alloc wr (.cells #[.int .i64 y.a, .int .i64 y.b, .int .i64 y.ca, .int .i64 y.cb, .int .i64 y.cp] 94) none
   have hbx := heap_alloc_new wr (.cells #[.int .i64 y.a, .int .i64 y.b, .int .i64 y.ca, .int .i64 y.cb, .int .i64 y.cp] 94)
   have HG := Lib.hid gal
   have HB := Lib.hid hbx
   have HL : Hid (nbD (L.take (k + 1)) x = nbD (L.take k) x ++ nb1D x y) := Lib.hid (nbD_snoc x hy)
   have hln := nbD_len x (L.take k)
   have hlt2 : (L.take k).length ≤ k := List.length_take_le _ _
   clear hc hy gal hbx
   go_upto_region 5 with fail
   clear a0 a1 a2 a3 a4
   generalize wr.alloc _ = wy at *
   have hsz : w.heap.size ≤ wy.heap.size := Nat.le_trans N.out.gr.size HG.out.size
   have hown := (N.out.keep HG.out).own
   obtain ⟨d0, d1, d2, d3, d4⟩ := lk_facts HB.out
   obtain ⟨M, hM⟩ : ∃ M, nbD (L.take k) x = M := ⟨_, rfl⟩
   rw [hM] at N HL hln hown
   have hMl : M.length ≤ 2000 := by omega
   clear hM hln hlt2
   by_cases e1 : y.b = x
   ·have e1' : (y.b == x) = true := by simpa using e1
    have HE1 := Lib.hid e1
    clear e1
    go_wp2_with (at_builtin; refine hold_on ?_)
    refine Lib.hid ?_
    refine wpList_append_lies _ rfl _ _ 128 rfl w.heap.size 131 i0 (.agg #[.int .i64 0, .int .i64 0]) 2 16 Tryz.underlying128 hi hz0 hz1 hz2 rfl (by decide) _ _ _ rfl (hown.alloc _) ⟨wy.heap.size, 0, none⟩ 1 1 [.int .i64 y.a, .int .i64 y.cb] rfl rfl ?c1 ?c2 (by decide) ?c3 ?c4 ?c5 _ rfl ?_
    try (case c1 => exact cells2 _ _ _ _)
    case c2 => (intro u hu; simp at hu; rcases hu with rfl | rfl <;> rfl)
    case c3 => first | omega | (unfold maxLen; omega)
    case c4 => omega
    case c5 => first | omega | (simp; omega)
    intro gq capq w1 hown' hg hat6 hlt6
    obtain ⟨v', hvq⟩ : ∃ vq, Value.slice (some ⟨gq, 0, none⟩) (M.length + 1) capq = vq := ⟨_, rfl⟩
    rw [hvq] at hown' ⊢
    clear hvq hat6 hlt6
    obtain ⟨n1, n2⟩ := N.out.more (x := (y.a, y.cb)) HG.out hown' hg
    have N1 := Lib.hid n1
    have HB1 := Lib.hid (n2 wr.heap.size _ (Nat.le_refl _) HB.out)
    clear hown' hg n1 n2 hown d0 d1 d2 d3 d4
    obtain ⟨d0, d1, d2, d3, d4⟩ := lk_facts HB1.out
    by_cases e2 : y.a = x
    ·have e2' : (y.a == x) = true := by simpa using e2
     have HE2 := Lib.hid e2
     have hown := N1.out.own
     have hsz1 := N1.out.gr.size
     have hMl1 : (M ++ [(y.a, y.cb)]).length ≤ 2001 := by rw [List.length_append]; simp; omega
     clear e2
     obtain ⟨M1, hM1⟩ : ∃ M1, M ++ [(y.a, y.cb)] = M1 := ⟨_, rfl⟩
     have HM1 := Lib.hid hM1
     rw [hM1] at N1 hown hMl1
     clear hM1
     go_wp2_with (at_builtin; refine hold_on ?_)
     refine Lib.hid ?_
     refine wpList_append_lies _ rfl _ _ 128 rfl w.heap.size 131 i0 (.agg #[.int .i64 0, .int .i64 0]) 2 16 Tryz.underlying128 hi hz0 hz1 hz2 rfl (by decide) _ _ _ rfl (hown.alloc _) ⟨w1.heap.size, 0, none⟩ 1 1 [.int .i64 y.b, .int .i64 y.ca] rfl rfl ?c1 ?c2 (by decide) ?c3 ?c4 ?c5 _ rfl ?_
     try (case c1 => exact cells2 _ _ _ _)
     case c2 => (intro u hu; simp at hu; rcases hu with rfl | rfl <;> rfl)
     case c3 => first | omega | (unfold maxLen; omega)
     case c4 => omega
     case c5 => first | omega | (simp; omega)
     intro gq capq w2 hown' hg hat6 hlt6
     obtain ⟨v2, hv2⟩ : ∃ vq, Value.slice (some ⟨gq, 0, none⟩) (M1.length + 1) capq = vq := ⟨_, rfl⟩
     rw [hv2] at hown' ⊢
     clear hv2 hat6 hlt6
     obtain ⟨n1, -⟩ := N1.out.more (x := (y.b, y.ca)) (grown_refl _ _) hown' hg
     have N2 : Hid (ND w v2 (nbD (L.take (k + 1)) x) w2) := Lib.hid (by rw [HL.out]; unfold nb1D; rw [if_pos HE1.out, if_pos HE2.out, ← List.append_assoc, HM1.out]; exact n1)
     clear hown' hg n1 hown d0 d1 d2 d3 d4
     go_wp2_with fail
     exact ⟨⟨k + 1, by omega, congrArg _ (by omega), N2⟩, by simp only [RowKit.intOf]; omega⟩
    ·have e2' : (y.a == x) = false := by simpa using e2
     have N2 : Hid (ND w v' (nbD (L.take (k + 1)) x) w1) := Lib.hid (by rw [HL.out]; unfold nb1D; rw [if_pos HE1.out, if_neg e2, List.append_nil]; exact N1.out)
     clear e2
     go_wp2_with fail
     exact ⟨⟨k + 1, by omega, congrArg _ (by omega), N2⟩, by simp only [RowKit.intOf]; omega⟩
   ·have e1' : (y.b == x) = false := by simpa using e1
    have HE1 := Lib.hid e1
    clear e1
    by_cases e2 : y.a = x
    ·have e2' : (y.a == x) = true := by simpa using e2
     have HE2 := Lib.hid e2
     clear e2
     go_wp2_with (at_builtin; refine hold_on ?_)
     refine Lib.hid ?_
     refine wpList_append_lies _ rfl _ _ 128 rfl w.heap.size 131 i0 (.agg #[.int .i64 0, .int .i64 0]) 2 16 Tryz.underlying128 hi hz0 hz1 hz2 rfl (by decide) _ _ _ rfl (hown.alloc _) ⟨wy.heap.size, 0, none⟩ 1 1 [.int .i64 y.b, .int .i64 y.ca] rfl rfl ?c1 ?c2 (by decide) ?c3 ?c4 ?c5 _ rfl ?_
     try (case c1 => exact cells2 _ _ _ _)
     case c2 => (intro u hu; simp at hu; rcases hu with rfl | rfl <;> rfl)
     case c3 => first | omega | (unfold maxLen; omega)
     case c4 => omega
     case c5 => first | omega | (simp; omega)
     intro gq capq w2 hown' hg hat6 hlt6
     obtain ⟨v2, hv2⟩ : ∃ vq, Value.slice (some ⟨gq, 0, none⟩) (M.length + 1) capq = vq := ⟨_, rfl⟩
     rw [hv2] at hown' ⊢
     clear hv2 hat6 hlt6
     obtain ⟨n1, -⟩ := N.out.more (x := (y.b, y.ca)) HG.out hown' hg
     have N2 : Hid (ND w v2 (nbD (L.take (k + 1)) x) w2) := Lib.hid (by rw [HL.out]; unfold nb1D; rw [if_neg HE1.out, if_pos HE2.out, List.nil_append]; exact n1)
     clear hown' hg n1 hown d0 d1 d2 d3 d4
     go_wp2_with fail
     exact ⟨⟨k + 1, by omega, congrArg _ (by omega), N2⟩, by simp only [RowKit.intOf]; omega⟩
    ·have e2' : (y.a == x) = false := by simpa using e2
     have N2 : Hid (ND w u5 (nbD (L.take (k + 1)) x) wy) := Lib.hid (by rw [HL.out]; unfold nb1D; rw [if_neg HE1.out, if_neg e2, List.append_nil, List.append_nil]; exact N.out.keep HG.out)
     clear e2
     go_wp2_with fail
     exact ⟨⟨k + 1, by omega, congrArg _ (by omega), N2⟩, by simp only [RowKit.intOf]; omega⟩
  ·obtain rfl : k = L.length := by omega
   have hN := N.out
   rw [List.take_length] at hN
   have H9 := Lib.hid hN
   clear hN N
   go_wp2_with fail
   go_ret
   exact ⟨_, rfl, H9.out.own, H9.out.gr⟩
end Go.Proofs.YtahafijpcmphaaaGreat

/- Maps of costs. -/
namespace Go.Proofs.YtahafijpcmphaaaGreat
set_option maxRecDepth 100000
open Go.RowKit Go.Maps Bs
def kZ (x : Int) : Lit := .int .i64 x
theorem kZ_key (x : Int) : WideAt.IsKeyLit (kZ x) := by unfold kZ WideAt.IsKeyLit; trivial
theorem kZ_ne {x y : Int} (h : x ≠ y) : kZ x ≠ kZ y := fun e => h (by unfold kZ at e; injection e)
structure MF (D : DataW Unit) (f : Int → Option Int) : Prop where
 td : Tidy D
 hs : ∀ x, Maps.has D (kZ x) = (f x).isSome
 at1_ : ∀ x, D.atKey (kZ x) (.lit (kZ 0)) = .lit (kZ ((f x).getD 0))
def putF (f : Int → Option Int) (x d : Int) : Int → Option Int := fun u => if u = x then some d else f u
theorem putF_same (f : Int → Option Int) (x d : Int) : putF f x d x = some d := by unfold putF; rw [if_pos rfl]
theorem putF_other (f : Int → Option Int) (x d : Int) {y : Int} (h : y ≠ x) : putF f x d y = f y := by unfold putF; rw [if_neg h]
theorem MF.nil : MF (.map []) (fun _ => none) := ⟨tidy_empty, fun _ => rfl, fun _ => rfl⟩
theorem MF.put {D : DataW Unit} {f : Int → Option Int} (h : MF D f) (x d : Int) : MF (D.put (kZ x) (.lit (kZ d))) (putF f x d) := by
 refine ⟨h.td.put (kZ_key x) _, fun y => ?_, fun y => ?_⟩
 ·by_cases e : y = x
  ·subst e
   rw [has_put_same h.td.isMap (kZ_key y), putF_same]
   rfl
  ·rw [has_put_other (kZ_ne e), h.hs, putF_other f x d e]
 ·by_cases e : y = x
  ·subst e
   rw [putF_same]
   exact atKey_put_same h.td.isMap (kZ_key y) _ _
  ·rw [atKey_put_other (kZ_ne e), h.at1_, putF_other f x d e]
theorem lawZ : Keyed Tryz.prog 3 := int_keyed Tryz.underlying3
theorem zeroZ (w : World) : (zeroValue 3).run Tryz.prog w = .ok (.int .i64 0) w := by kernel_rfl
theorem wfZ {x : Int} (h : I64 x) : (Lit.int .i64 x).wf = true := by
 unfold I64 at h
 simp [Lit.wf, IntKind.min, IntKind.max, IntKind.bits, IntKind.signed]
 omega
def OMp (w : World) (b n : Nat) (f : Int → Option Int) : Prop := ∃ D : DataW Unit, w.ownsMap Tryz.prog 3 (plainElem Tryz.prog 3) b n D ∧ MF D f
theorem OMp.kept {w w' : World} {b n : Nat} {f : Int → Option Int} {r : Option Nat} (h : OMp w b n f) (g : w.grownBy w' r) (hr : some b ≠ r) : OMp w' b n f := by
 obtain ⟨D, h1, h2⟩ := h
 exact ⟨D, h1.kept g hr, h2⟩
theorem OMp.lt {w : World} {b n : Nat} {f : Int → Option Int} (h : OMp w b n f) : b < w.heap.size := by
 obtain ⟨D, h1, h2⟩ := h
 exact h1.lt
theorem OMp.mono {w : World} {b n m : Nat} {f : Int → Option Int} (h : OMp w b n f) (hn : n ≤ m) : OMp w b m f := by
 obtain ⟨D, h1, h2⟩ := h
 exact ⟨D, h1.mono hn, h2⟩
theorem OMp.made (w : World) : OMp (w.alloc (.map #[] 0)) w.heap.size 0 (fun _ => none) := ⟨_, World.ownsMap_made w _ _ _, MF.nil⟩
theorem OMp.put {w : World} {b n : Nat} {f : Int → Option Int} (h : OMp w b n f) (hn : n ≤ 1000000) {x d : Int} (hx : I64 x) (hd : I64 d) :
  ∃ w', (Instr.mapUpdate 114 (.map (some b)) (.int .i64 x) (.int .i64 d)).run Tryz.prog w = .ok () w' ∧ OMp w' b (n + 1) (putF f x d) ∧ w.grownBy w' (some b) := by
 obtain ⟨D, h1, h2⟩ := h
 obtain ⟨w', r1, r2, r3⟩ := h1.update (t := 114) lawZ Tryz.underlying114 (by unfold maxLen; omega) (keyOf_int_mk Tryz.underlying3 (wfZ hx)) (plainElem_int Tryz.underlying3 (wfZ hd))
 exact ⟨w', r1, ⟨_, r2, h2.put x d⟩, r3⟩
def MV (w : World) (q : Nat → Prop) (v : Value) (f : Int → Option Int) : Prop :=
 (v = .map none ∧ ∀ x, f x = none) ∨ ∃ b n, v = .map (some b) ∧ q b ∧ n ≤ 1000000 ∧ OMp w b n f
theorem MV.grown {w w' : World} {q : Nat → Prop} {v : Value} {f : Int → Option Int} {r : Option Nat} (h : MV w q v f) (g : w.grownBy w' r) (hr : ∀ b, q b → some b ≠ r) : MV w' q v f := by
 rcases h with h | ⟨b, n, e, hq, hn, h⟩
 ·exact .inl h
 ·exact .inr ⟨b, n, e, hq, hn, h.kept g (hr b hq)⟩
theorem MV.keep {w w' : World} {q : Nat → Prop} {v : Value} {f : Int → Option Int} (h : MV w q v f) (g : w.grownBy w' none) : MV w' q v f := h.grown g (fun _ _ => by simp)
theorem MV.mono {w : World} {q q' : Nat → Prop} {v : Value} {f : Int → Option Int} (h : MV w q v f) (hq : ∀ b, q b → b < w.heap.size → q' b) : MV w q' v f := by
 rcases h with h | ⟨b, n, e, h1, hn, h⟩
 ·exact .inl h
 ·exact .inr ⟨b, n, e, hq b h1 h.lt, hn, h⟩
theorem OMp.look {w : World} {b n : Nat} {f : Int → Option Int} (h : OMp w b n f) {x : Int} (hx : I64 x) :
  (Instr.lookup 114 (.map (some b)) (.int .i64 x) false).run Tryz.prog w = .ok (.int .i64 ((f x).getD 0)) w ∧ (Instr.lookup 114 (.map (some b)) (.int .i64 x) true).run Tryz.prog w = .ok (.tuple #[.int .i64 ((f x).getD 0), .bool (f x).isSome]) w := by
 obtain ⟨D, h1, h2⟩ := h
 have hk := keyOf_int_mk Tryz.underlying3 (wfZ hx)
 have ha := h2.at1_ x
 constructor
 ·obtain ⟨c, hrun, hat, -⟩ := h1.lookup_int (t := 114) lawZ Tryz.underlying114 Tryz.underlying3 (zeroZ _) hk
  rw [show (DataW.lit (kZ 0) : DataW Unit) = .lit (.int .i64 0) from rfl, show kZ x = .int .i64 x from rfl, hat] at ha
  unfold kZ at ha
  injection ha with ha
  injection ha with _ ha
  rw [hrun, ha]
 ·obtain ⟨v, ps, hrun, hv⟩ := h1.look_ok (t := 114) lawZ Tryz.underlying114 (zeroZ _) (plainElem_int Tryz.underlying3 (q := .i64) (a := 0) (by decide)) hk
  obtain ⟨c, rfl, hc, -⟩ := plainElem_int_inv Tryz.underlying3 hv
  have hc1 := congrArg Prod.fst hc
  simp only at hc1
  rw [show (DataW.lit (kZ 0) : DataW Unit) = .lit (.int .i64 0) from rfl, show kZ x = .int .i64 x from rfl, hc1] at ha
  unfold kZ at ha
  injection ha with ha
  injection ha with _ ha
  rw [hrun, ← ha, ← h2.hs x]
  rfl
theorem MV.look {w : World} {q : Nat → Prop} {v : Value} {f : Int → Option Int} (h : MV w q v f) {x : Int} (hx : I64 x) :
  (Instr.lookup 114 v (.int .i64 x) false).run Tryz.prog w = .ok (.int .i64 ((f x).getD 0)) w ∧ (Instr.lookup 114 v (.int .i64 x) true).run Tryz.prog w = .ok (.tuple #[.int .i64 ((f x).getD 0), .bool (f x).isSome]) w := by
 rcases h with ⟨rfl, hn⟩ | ⟨b, n, rfl, -, -, h⟩
 ·have hk := keyOf_int_mk Tryz.underlying3 (wfZ hx)
  rw [hn x]
  exact ⟨look_nil false lawZ Tryz.underlying114 (zeroZ w) hk, look_nil true lawZ Tryz.underlying114 (zeroZ w) hk⟩
 ·exact h.look hx
end Go.Proofs.YtahafijpcmphaaaGreat

/- The reference's Has and Named; Same of equal topologies. -/
namespace Go.Proofs.YtahafijpcmphaaaGreat
set_option maxRecDepth 100000
open Go.RowKit Bs
set_option maxHeartbeats 1600000 in
theorem rhas4_any (X : List Int) (x : Int) (p : Option Addr) (c : Nat) (q : Nat → Prop) (w : World) (hR : Rd w q (.slice p X.length c) (X.map tv)) (hm : X.length ≤ 9223372036854775807) :
  Calls Tryz.prog 58 #[.slice p X.length c, .int .i64 x] w fun e w' => e = .returned (.bool (hasI X x)) ∧ w = w' := by
 have HR := Lib.hid hR
 have HN0 : Hid ((X.take 0).any (fun y => decide (y = x)) = false) := Lib.hid rfl
 clear hR
 go_enter Tryz.func58, Tryz.ntmps58
 go_wp2_with fail
 go_loopw [5] (fun a wr => ∃ k : Nat, k ≤ X.length ∧ a = .int .i64 (k : Int) ∧ Hid ((X.take k).any (fun y => decide (y = x)) = false) ∧ wr = w) (fun a _ => X.length - (RowKit.intOf a).toNat)
 case atStart => exact ⟨0, Nat.zero_le _, rfl, HN0, rfl⟩
 case round =>
  obtain ⟨k, hk, rfl, HN, rfl⟩ := hrel
  by_cases hlt : k < X.length
  ·obtain ⟨-, b, off, rfl, -, hc⟩ := rdi_at HR.out (by omega)
   obtain ⟨y, hy⟩ : ∃ y, X[k]? = some y := ⟨_, List.getElem?_eq_getElem hlt⟩
   have d0 := hc k y hy
   have HY := Lib.hid hy
   clear hc hy HN0
   by_cases hyx : y = x
   ·have HT : Hid (hasI X x = true) := Lib.hid (any_at HY.out (decide_eq_true hyx))
    subst hyx
    go_wp2_with fail
    go_ret
    rw [HT.out]
    exact ⟨rfl, rfl⟩
   ·have HN2 := Lib.hid (any_take HN.out HY.out (decide_eq_false hyx))
    have h' : (y == x) = false := by simpa using hyx
    go_wp2_with fail
    exact ⟨⟨k + 1, by omega, congrArg _ (by omega), HN2, (by first | rfl | trivial)⟩, by simp only [RowKit.intOf]; omega⟩
  ·have HT : Hid (hasI X x = false) := Lib.hid (any_end HN.out (by omega))
   obtain rfl : k = X.length := by omega
   go_wp2_with fail
   go_ret
   rw [HT.out]
   exact ⟨rfl, rfl⟩
end Go.Proofs.YtahafijpcmphaaaGreat

/- empty -/
namespace Go.Proofs.YtahafijpcmphaaaGreat
set_option maxRecDepth 100000
end Go.Proofs.YtahafijpcmphaaaGreat

/- slices.Sort of at most twelve numbers of the call's own. -/
namespace Go.Proofs.YtahafijpcmphaaaGreat
set_option maxRecDepth 100000
open Go.RowKit Bs
theorem tless_any (x y : Int) (w : World) :
  Calls Tryz.prog 131 #[.int .i64 x, .int .i64 y] w fun e w' => e = .returned (.bool (decide (x < y))) ∧ w = w' := by
 have N : ∀ (z : Int) (w : World), Calls Tryz.prog 161 #[.int .i64 z] w fun e w' => e = .returned (.bool false) ∧ w = w' := by
  intro z w
  go_enter Tryz.func161, Tryz.ntmps161
  go_wp2_with fail
  go_ret
  first | exact ⟨rfl, rfl⟩ | exact ⟨by simp, rfl⟩
 go_enter Tryz.func131, Tryz.ntmps131
 go_wp2_with (go_at_call 161; refine (N _ _).mono ?_; rintro e w' ⟨rfl, rfl⟩)
 go_ret
 exact ⟨by simp, rfl⟩
theorem getD_set (l : List Int) (i j : Nat) (a : Int) (hi : i < l.length) : (l.set i a).getD j 0 = if i = j then a else l.getD j 0 := by
 rw [List.getD_eq_getElem?_getD, List.getElem?_set, List.getD_eq_getElem?_getD]
 by_cases e : i = j
 ·subst e
  simp [hi]
 ·simp [e]
structure SK (w : World) (base g c n : Nat) (l d : List Int) (wr : World) : Prop where
 own : wr.ownsRow base 3 1 (.slice (some ⟨g, 0, none⟩) n c) n (d.map tv)
 gr : w.grownBy wr (some g)
 len : d.length = n
 perm : d.Perm l
theorem SK.drew {w wr : World} {base g c n : Nat} {l d : List Int} (h : SK w base g c n l d wr) : SK w base g c n l d wr.drew := ⟨h.own.drew, grown_drew h.gr, h.len, h.perm⟩
theorem SK.at1_ {w wr : World} {base g c n : Nat} {l d : List Int} (h : SK w base g c n l d wr) {j : Nat} (hj : j < n) : wr.cell? ⟨g, j, none⟩ = some (.int .i64 (d.getD j 0)) := by
 have h1 := h.own.cellAt j (by omega)
 rw [h1]
 have hl := h.len
 rw [List.getElem?_map, List.getD_eq_getElem?_getD, List.getElem?_eq_getElem (by omega)]
 rfl
def toS (d : List Int) (i : Nat) : Prop := ∀ p q, p < q → q < i → d.getD p 0 ≤ d.getD q 0
def almS (d : List Int) (i j : Nat) : Prop := ∀ p q, p < q → q ≤ i → q ≠ j → d.getD p 0 ≤ d.getD q 0
def swp (d : List Int) (j : Nat) : List Int := (d.set (j + 1) (d.getD j 0)).set j (d.getD (j + 1) 0)
theorem swp_len (d : List Int) (j : Nat) : (swp d j).length = d.length := by unfold swp; simp
theorem swp_getD {d : List Int} {j : Nat} (hj : j + 1 < d.length) (k : Nat) : (swp d j).getD k 0 = if j = k then d.getD (j + 1) 0 else if j + 1 = k then d.getD j 0 else d.getD k 0 := by
 unfold swp
 rw [getD_set _ _ _ _ (by rw [List.length_set]; omega), getD_set _ _ _ _ hj]
theorem swp_perm {d : List Int} {j : Nat} (hj : j + 1 < d.length) : (swp d j).Perm d := by
 unfold swp
 have e1 : d.getD j 0 = d[j]'(by omega) := by rw [List.getD_eq_getElem?_getD, List.getElem?_eq_getElem (by omega)]; rfl
 have e2 : d.getD (j + 1) 0 = d[j + 1]'hj := by rw [List.getD_eq_getElem?_getD, List.getElem?_eq_getElem hj]; rfl
 rw [e1, e2]
 exact List.set_set_perm hj (by omega)
theorem swp_alm {d : List Int} {i j : Nat} (hj : j + 1 ≤ i) (hi : i < d.length) (h : almS d i (j + 1)) (hlt : d.getD (j + 1) 0 < d.getD j 0) : almS (swp d j) i j := by
 intro p q hpq hq hqj
 have hjl : j + 1 < d.length := by omega
 have hP := swp_getD hjl p
 have hQ := swp_getD hjl q
 have hPQ : (swp d j).getD p 0 = (if p = j then d.getD (j + 1) 0 else if p = j + 1 then d.getD j 0 else d.getD p 0) := by
  rw [hP]
  by_cases e2 : j = p
  ·rw [if_pos e2, if_pos e2.symm]
  ·rw [if_neg e2, if_neg (show ¬ p = j from fun e => e2 e.symm)]
   by_cases e3 : j + 1 = p
   ·rw [if_pos e3, if_pos e3.symm]
   ·rw [if_neg e3, if_neg (show ¬ p = j + 1 from fun e => e3 e.symm)]
 rw [hPQ]
 clear hP hPQ
 by_cases e1 : j + 1 = q
 ·rw [if_neg (fun e => hqj e.symm), if_pos e1] at hQ
  rw [hQ]
  by_cases e2 : p = j
  ·rw [if_pos e2]; omega
  ·rw [if_neg e2, if_neg (by omega)]
   exact h p j (by omega) (by omega) (by omega)
 ·rw [if_neg (fun e => hqj e.symm), if_neg e1] at hQ
  rw [hQ]
  by_cases e2 : p = j
  ·rw [if_pos e2]
   exact h (j + 1) q (by omega) hq (fun e => e1 e.symm)
  ·rw [if_neg e2]
   by_cases e3 : p = j + 1
   ·rw [if_pos e3]
    exact h j q (by omega) hq (fun e => e1 e.symm)
   ·rw [if_neg e3]
    exact h p q hpq hq (fun e => e1 e.symm)
theorem alm_end {d : List Int} {i j : Nat} (h : almS d i j) (he : j = 0 ∨ d.getD (j - 1) 0 ≤ d.getD j 0) : toS d (i + 1) := by
 intro p q hpq hq
 by_cases e : q = j
 ·subst e
  rcases he with he | he
  ·omega
  ·by_cases e2 : p = q - 1
   ·rw [e2]; exact he
   ·exact Int.le_trans (h p (q - 1) (by omega) (by omega) (by omega)) he
 ·exact h p q hpq (by omega) e
theorem SK.swap {w wr : World} {base g c n : Nat} {l d : List Int} (h : SK w base g c n l d wr) {j : Nat} (hj : j + 1 < n) :
  SK w base g c n l (swp d j) ((wr.setCell ⟨g, j + 1, none⟩ (.int .i64 (d.getD j 0))).setCell ⟨g, j, none⟩ (.int .i64 (d.getD (j + 1) 0))) := by
 obtain ⟨k1, k2⟩ := h.own.stored (j + 1) (.int .i64 (d.getD j 0))
 obtain ⟨k3, k4⟩ := k1.stored j (.int .i64 (d.getD (j + 1) 0))
 refine ⟨?_, grown_trans (grown_trans h.gr k2) k4, by rw [swp_len]; exact h.len, (swp_perm (by rw [h.len]; exact hj)).trans h.perm⟩
 unfold swp
 rw [List.map_set, List.map_set]
 exact k3
def SrtPost (base g c n : Nat) (l : List Int) (w : World) (e : Ending) (w' : World) : Prop := ∃ d, Hid (SK w base g c n l d w' ∧ toS d n) ∧ e = .returned (.tuple #[])
set_option maxHeartbeats 6400000 in
theorem tins_any (base g c n : Nat) (l : List Int) (w : World) (hO : w.ownsRow base 3 1 (.slice (some ⟨g, 0, none⟩) n c) n (l.map tv)) (hl : l.length = n) (hn : n ≤ 12) :
  Calls Tryz.prog 125 #[.slice (some ⟨g, 0, none⟩) n c, .int .i64 0, .int .i64 (n : Int)] w fun e w' => SrtPost base g c n l w e w' := by
 have K0 : Hid (SK w base g c n l l w ∧ toS l 1) := Lib.hid ⟨⟨hO, grown_refl _ _, hl, List.Perm.refl _⟩, fun p q h1 h2 => by omega⟩
 clear hO hl
 go_enter Tryz.func125, Tryz.ntmps125
 go_wp2_with fail
 go_loopw [6] (fun a wr => ∃ i : Nat, 1 ≤ i ∧ (i ≤ n ∨ i = 1) ∧ a = .int .i64 (i : Int) ∧ ∃ d, Hid (SK w base g c n l d wr ∧ toS d i)) (fun a _ => n - (RowKit.intOf a).toNat)
 case atStart => exact ⟨1, by omega, Or.inr rfl, rfl, l, K0⟩
 case round =>
 obtain ⟨i, hi1, hi, rfl, d0, K⟩ := hrel
 clear K0
 by_cases hlt : i < n
 case neg =>
  have hz : ¬ (i : Int) < (n : Int) := by omega
  have K9 : Hid (SK w base g c n l d0 wr ∧ toS d0 n) := Lib.hid ⟨K.out.1, fun p q h1 h2 => K.out.2 p q h1 (by omega)⟩
  go_wp2_with fail
  exact bodyPost_end (results_none rfl _ _ _) rfl ⟨d0, K9, rfl⟩
 have KI : Hid (SK w base g c n l d0 wr ∧ almS d0 i i) := Lib.hid ⟨K.out.1, fun p q h1 h2 h3 => K.out.2 p q h1 (by omega)⟩
 clear K
 obtain ⟨wo, rfl⟩ : ∃ wo : World, wo = wr := ⟨_, rfl⟩
 go_wp2_with fail
 go_loopw [7] (fun a wr => ∃ j : Nat, j ≤ i ∧ a = .int .i64 (j : Int) ∧ ∃ d, Hid (SK w base g c n l d wr ∧ almS d i j)) (fun a _ => (RowKit.intOf a).toNat)
 case atStart => exact ⟨i, Nat.le_refl _, rfl, d0, KI⟩
 case round =>
 clear KI
 obtain ⟨j, hj, rfl, d, K⟩ := hrel
 have fin : Hid ((j = 0 ∨ d.getD (j - 1) 0 ≤ d.getD j 0)) → ∀ wz, Hid (SK w base g c n l d wz) → Hid (SK w base g c n l d wz ∧ toS d (i + 1)) := fun h wz k => Lib.hid ⟨k.out, alm_end K.out.2 h.out⟩
 have FIN := Lib.hid fin
 clear fin
 by_cases hj0 : j = 0
 ·subst hj0
  have H := FIN.out (Lib.hid (Or.inl rfl)) wr.drew (Lib.hid K.out.1.drew)
  have SD := Lib.hid K.out.1.drew
  clear K FIN
  go_upto_region 4 with fail
  refine wp_region_held_drew (S := fun w' => Hid (SK w base g c n l d w')) (by kernel_rfl) (SD) (fun hHeld => ?_)
  refine zT (i := 0) (v := ?_) rfl ?_ hHeld ?_
  rotate_left 1
  ·intro u hSu
   skip
   go_simp
   first | done | with_reducible rfl
  try simp only [Act.put, zA, zB, zC]
  refine zT (i := 1) (v := ?_) rfl ?_ hHeld ?_
  rotate_left 1
  ·intro u hSu
   skip
   go_simp
   first | done | with_reducible rfl
  try simp only [Act.put, zA, zB, zC]
  refine zT (i := 2) (v := ?_) rfl ?_ hHeld ?_
  rotate_left 1
  ·intro u hSu
   skip
   go_simp
   first | done | with_reducible rfl
  try simp only [Act.put, zA, zB, zC]
  refine zT (i := 3) (v := ?_) rfl ?_ hHeld ?_
  rotate_left 1
  ·intro u hSu
   skip
   go_simp
   first | done | with_reducible rfl
  try simp only [Act.put, zA, zB, zC]
  refine zS (i := 4) rfl hHeld ?_
  try simp only [Act.put, zA, zB, zC]
  refine zS (i := 5) rfl hHeld ?_
  try simp only [Act.put, zA, zB, zC]
  refine zS (i := 6) rfl hHeld ?_
  try simp only [Act.put, zA, zB, zC]
  refine zS (i := 7) rfl hHeld ?_
  try simp only [Act.put, zA, zB, zC]
  refine zS (i := 8) rfl hHeld ?_
  try simp only [Act.put, zA, zB, zC]
  refine zS (i := 9) rfl hHeld ?_
  try simp only [Act.put, zA, zB, zC]
  refine zS (i := 10) rfl hHeld ?_
  try simp only [Act.put, zA, zB, zC]
  refine zS (i := 11) rfl hHeld ?_
  try simp only [Act.put, zA, zB, zC]
  refine zS (i := 12) rfl hHeld ?_
  try simp only [Act.put, zA, zB, zC]
  refine zS (i := 13) rfl hHeld ?_
  try simp only [Act.put, zA, zB, zC]
  refine zT (i := 14) (v := ?_) rfl ?_ hHeld ?_
  rotate_left 1
  ·intro u hSu
   skip
   go_simp
   first | done | with_reducible rfl
  try simp only [Act.put, zA, zB, zC]
  refine wpAnyH_done (by kernel_rfl) ?_ _
  clear hHeld
  go_wp2_with fail
  exact ⟨⟨i + 1, by omega, Or.inl (by omega), congrArg _ (by omega), d, H⟩, by simp only [RowKit.intOf]; omega⟩
 ·obtain ⟨j, rfl⟩ : ∃ k, j = k + 1 := ⟨j - 1, by omega⟩
  have hcast : ((j + 1 : Nat) : Int) = (j : Int) + 1 := by omega
  have hj1 : j + 1 < n := by omega
  have hj0 : j < n := by omega
  have ew1 : ((j : Int) + 1 - 1) = (j : Int) := by omega
  have ew3 : IntKind.i64.wrap (j : Int) = (j : Int) := IntWalk.i64_in _ (by omega)
  have i0 : (0 : Int) ≤ (j : Int) := by omega
  have i1 : (0 : Int) ≤ (j : Int) + 1 := by omega
  have i2 : (j : Int) < (n : Int) := by omega
  have i3 : (j : Int) + 1 < (n : Int) := by omega
  have i4 : ((j : Int) + 1).toNat = j + 1 := by omega
  have i5 : (0 : Int) < (j : Int) + 1 := by omega
  rw [hcast]
  obtain ⟨x, hx⟩ : ∃ x, d.getD (j + 1) 0 = x := ⟨_, rfl⟩
  obtain ⟨y, hy⟩ : ∃ y, d.getD j 0 = y := ⟨_, rfl⟩
  have HX := Lib.hid (And.intro hx hy)
  have SD := Lib.hid K.out.1.drew
  clear hx hy
  by_cases hxy : x < y
  ·go_upto_region 4 with fail
   refine wp_region_held_drew (S := fun w' => Hid (SK w base g c n l d w')) (by kernel_rfl) (SD) (fun hHeld => ?_)
   refine zT (i := 0) (v := ?_) rfl ?_ hHeld ?_
   rotate_left 1
   ·intro u hSu
    have y0 := hSu.out.at1_ hj1
    have y1 := hSu.out.at1_ hj0
    rw [HX.out.1] at y0
    rw [HX.out.2] at y1
    go_simp
    first | done | with_reducible rfl
   try simp only [Act.put, zA, zB, zC]
   refine zT (i := 1) (v := ?_) rfl ?_ hHeld ?_
   rotate_left 1
   ·intro u hSu
    have y0 := hSu.out.at1_ hj1
    have y1 := hSu.out.at1_ hj0
    rw [HX.out.1] at y0
    rw [HX.out.2] at y1
    go_simp
    first | done | with_reducible rfl
   try simp only [Act.put, zA, zB, zC]
   refine zT (i := 2) (v := ?_) rfl ?_ hHeld ?_
   rotate_left 1
   ·intro u hSu
    have y0 := hSu.out.at1_ hj1
    have y1 := hSu.out.at1_ hj0
    rw [HX.out.1] at y0
    rw [HX.out.2] at y1
    go_simp
    first | done | with_reducible rfl
   try simp only [Act.put, zA, zB, zC]
   refine zT (i := 3) (v := ?_) rfl ?_ hHeld ?_
   rotate_left 1
   ·intro u hSu
    have y0 := hSu.out.at1_ hj1
    have y1 := hSu.out.at1_ hj0
    rw [HX.out.1] at y0
    rw [HX.out.2] at y1
    go_simp
    first | done | with_reducible rfl
   try simp only [Act.put, zA, zB, zC]
   refine zT (i := 4) (v := ?_) rfl ?_ hHeld ?_
   rotate_left 1
   ·intro u hSu
    have y0 := hSu.out.at1_ hj1
    have y1 := hSu.out.at1_ hj0
    rw [HX.out.1] at y0
    rw [HX.out.2] at y1
    go_simp
    first | done | with_reducible rfl
   try simp only [Act.put, zA, zB, zC]
   refine zT (i := 5) (v := ?_) rfl ?_ hHeld ?_
   rotate_left 1
   ·intro u hSu
    have y0 := hSu.out.at1_ hj1
    have y1 := hSu.out.at1_ hj0
    rw [HX.out.1] at y0
    rw [HX.out.2] at y1
    go_simp
    first | done | with_reducible rfl
   try simp only [Act.put, zA, zB, zC]
   refine zT (i := 6) (v := ?_) rfl ?_ hHeld ?_
   rotate_left 1
   ·intro u hSu
    have y0 := hSu.out.at1_ hj1
    have y1 := hSu.out.at1_ hj0
    rw [HX.out.1] at y0
    rw [HX.out.2] at y1
    go_simp
    first | done | with_reducible rfl
   try simp only [Act.put, zA, zB, zC]
   refine zT (i := 7) (v := ?_) rfl ?_ hHeld ?_
   rotate_left 1
   ·intro u hSu
    have y0 := hSu.out.at1_ hj1
    have y1 := hSu.out.at1_ hj0
    rw [HX.out.1] at y0
    rw [HX.out.2] at y1
    go_simp
    first | done | with_reducible rfl
   try simp only [Act.put, zA, zB, zC]
   refine zT (i := 8) (v := ?_) rfl ?_ hHeld ?_
   rotate_left 1
   ·intro u hSu
    have y0 := hSu.out.at1_ hj1
    have y1 := hSu.out.at1_ hj0
    rw [HX.out.1] at y0
    rw [HX.out.2] at y1
    go_simp
    first | done | with_reducible rfl
   try simp only [Act.put, zA, zB, zC]
   refine zT (i := 9) (v := ?_) rfl ?_ hHeld ?_
   rotate_left 1
   ·intro u hSu
    have y0 := hSu.out.at1_ hj1
    have y1 := hSu.out.at1_ hj0
    rw [HX.out.1] at y0
    rw [HX.out.2] at y1
    go_simp
    first | done | with_reducible rfl
   try simp only [Act.put, zA, zB, zC]
   refine zT (i := 10) (v := ?_) rfl ?_ hHeld ?_
   rotate_left 1
   ·intro u hSu
    have y0 := hSu.out.at1_ hj1
    have y1 := hSu.out.at1_ hj0
    rw [HX.out.1] at y0
    rw [HX.out.2] at y1
    go_simp
    first | done | with_reducible rfl
   try simp only [Act.put, zA, zB, zC]
   refine zT (i := 11) (v := ?_) rfl ?_ hHeld ?_
   rotate_left 1
   ·intro u hSu
    have y0 := hSu.out.at1_ hj1
    have y1 := hSu.out.at1_ hj0
    rw [HX.out.1] at y0
    rw [HX.out.2] at y1
    go_simp
    first | done | with_reducible rfl
   try simp only [Act.put, zA, zB, zC]
   refine zT (i := 12) (v := ?_) rfl ?_ hHeld ?_
   rotate_left 1
   ·intro u hSu
    have y0 := hSu.out.at1_ hj1
    have y1 := hSu.out.at1_ hj0
    rw [HX.out.1] at y0
    rw [HX.out.2] at y1
    go_simp
    first | done | with_reducible rfl
   try simp only [Act.put, zA, zB, zC]
   refine wpAnyH_ready (rs := [13]) (by kernel_rfl) (by simp) ?_
   refine AllReadyH.cons (o := ⟨_, _, _, _, _, _⟩) rfl (fun K hK => ?_) AllReadyH.nil
   go_simp
   go_at_call 131
   refine (tless_any x y _).mono ?_
   rintro e w' ⟨rfl, rfl⟩
   refine hK.out _ _ (hHeld) (fun hH2 => ?_)
   clear hK K hHeld
   have hHeld := hH2
   clear hH2
   try simp only [Act.put, zA, zB, zC]
   refine zT (i := 14) (v := ?_) rfl ?_ hHeld ?_
   rotate_left 1
   ·intro u hSu
    have y0 := hSu.out.at1_ hj1
    have y1 := hSu.out.at1_ hj0
    rw [HX.out.1] at y0
    rw [HX.out.2] at y1
    go_simp
    first | done | with_reducible rfl
   try simp only [Act.put, zA, zB, zC]
   refine wpAnyH_done (by kernel_rfl) ?_ _
   have SE := hHeld
   clear hHeld
   rw [decide_eq_true hxy]
   have y0 := K.out.1.at1_ hj1
   have y1 := K.out.1.at1_ hj0
   rw [HX.out.1] at y0
   rw [HX.out.2] at y1
   have z0 := K.out.1.own.frozenAt (j + 1)
   have z1 := K.out.1.own.frozenAt j
   go_upto_region 6 with fail
   have SW : Hid (SK w base g c n l (swp d j) ((wr.setCell ⟨g, j + 1, none⟩ (.int .i64 y)).setCell ⟨g, j, none⟩ (.int .i64 x)).drew.drew ∧ almS (swp d j) i j) := Lib.hid ⟨by have h := K.out.1.swap hj1; rw [HX.out.1, HX.out.2] at h; exact h.drew.drew, swp_alm (by omega) (by have := K.out.1.len; omega) K.out.2 (by rw [HX.out.1, HX.out.2]; exact hxy)⟩
   clear K SE
   go_region_law fail
   all_goals
    clear y0 y1 z0 z1
    go_wp2_with fail
    exact ⟨⟨j, by omega, rfl, swp d j, SW⟩, by simp only [RowKit.intOf]; omega⟩
  ·have hnd : decide (x < y) = false := decide_eq_false hxy
   have H := FIN.out (Lib.hid (Or.inr (by show d.getD j 0 ≤ d.getD (j + 1) 0; rw [HX.out.1, HX.out.2]; omega)))
   clear FIN
   go_upto_region 4 with fail
   refine wp_region_held_drew (S := fun w' => Hid (SK w base g c n l d w')) (by kernel_rfl) (SD) (fun hHeld => ?_)
   refine zT (i := 0) (v := ?_) rfl ?_ hHeld ?_
   rotate_left 1
   ·intro u hSu
    have y0 := hSu.out.at1_ hj1
    have y1 := hSu.out.at1_ hj0
    rw [HX.out.1] at y0
    rw [HX.out.2] at y1
    go_simp
    first | done | with_reducible rfl
   try simp only [Act.put, zA, zB, zC]
   refine zT (i := 1) (v := ?_) rfl ?_ hHeld ?_
   rotate_left 1
   ·intro u hSu
    have y0 := hSu.out.at1_ hj1
    have y1 := hSu.out.at1_ hj0
    rw [HX.out.1] at y0
    rw [HX.out.2] at y1
    go_simp
    first | done | with_reducible rfl
   try simp only [Act.put, zA, zB, zC]
   refine zT (i := 2) (v := ?_) rfl ?_ hHeld ?_
   rotate_left 1
   ·intro u hSu
    have y0 := hSu.out.at1_ hj1
    have y1 := hSu.out.at1_ hj0
    rw [HX.out.1] at y0
    rw [HX.out.2] at y1
    go_simp
    first | done | with_reducible rfl
   try simp only [Act.put, zA, zB, zC]
   refine zT (i := 3) (v := ?_) rfl ?_ hHeld ?_
   rotate_left 1
   ·intro u hSu
    have y0 := hSu.out.at1_ hj1
    have y1 := hSu.out.at1_ hj0
    rw [HX.out.1] at y0
    rw [HX.out.2] at y1
    go_simp
    first | done | with_reducible rfl
   try simp only [Act.put, zA, zB, zC]
   refine zT (i := 4) (v := ?_) rfl ?_ hHeld ?_
   rotate_left 1
   ·intro u hSu
    have y0 := hSu.out.at1_ hj1
    have y1 := hSu.out.at1_ hj0
    rw [HX.out.1] at y0
    rw [HX.out.2] at y1
    go_simp
    first | done | with_reducible rfl
   try simp only [Act.put, zA, zB, zC]
   refine zT (i := 5) (v := ?_) rfl ?_ hHeld ?_
   rotate_left 1
   ·intro u hSu
    have y0 := hSu.out.at1_ hj1
    have y1 := hSu.out.at1_ hj0
    rw [HX.out.1] at y0
    rw [HX.out.2] at y1
    go_simp
    first | done | with_reducible rfl
   try simp only [Act.put, zA, zB, zC]
   refine zT (i := 6) (v := ?_) rfl ?_ hHeld ?_
   rotate_left 1
   ·intro u hSu
    have y0 := hSu.out.at1_ hj1
    have y1 := hSu.out.at1_ hj0
    rw [HX.out.1] at y0
    rw [HX.out.2] at y1
    go_simp
    first | done | with_reducible rfl
   try simp only [Act.put, zA, zB, zC]
   refine zT (i := 7) (v := ?_) rfl ?_ hHeld ?_
   rotate_left 1
   ·intro u hSu
    have y0 := hSu.out.at1_ hj1
    have y1 := hSu.out.at1_ hj0
    rw [HX.out.1] at y0
    rw [HX.out.2] at y1
    go_simp
    first | done | with_reducible rfl
   try simp only [Act.put, zA, zB, zC]
   refine zT (i := 8) (v := ?_) rfl ?_ hHeld ?_
   rotate_left 1
   ·intro u hSu
    have y0 := hSu.out.at1_ hj1
    have y1 := hSu.out.at1_ hj0
    rw [HX.out.1] at y0
    rw [HX.out.2] at y1
    go_simp
    first | done | with_reducible rfl
   try simp only [Act.put, zA, zB, zC]
   refine zT (i := 9) (v := ?_) rfl ?_ hHeld ?_
   rotate_left 1
   ·intro u hSu
    have y0 := hSu.out.at1_ hj1
    have y1 := hSu.out.at1_ hj0
    rw [HX.out.1] at y0
    rw [HX.out.2] at y1
    go_simp
    first | done | with_reducible rfl
   try simp only [Act.put, zA, zB, zC]
   refine zT (i := 10) (v := ?_) rfl ?_ hHeld ?_
   rotate_left 1
   ·intro u hSu
    have y0 := hSu.out.at1_ hj1
    have y1 := hSu.out.at1_ hj0
    rw [HX.out.1] at y0
    rw [HX.out.2] at y1
    go_simp
    first | done | with_reducible rfl
   try simp only [Act.put, zA, zB, zC]
   refine zT (i := 11) (v := ?_) rfl ?_ hHeld ?_
   rotate_left 1
   ·intro u hSu
    have y0 := hSu.out.at1_ hj1
    have y1 := hSu.out.at1_ hj0
    rw [HX.out.1] at y0
    rw [HX.out.2] at y1
    go_simp
    first | done | with_reducible rfl
   try simp only [Act.put, zA, zB, zC]
   refine zT (i := 12) (v := ?_) rfl ?_ hHeld ?_
   rotate_left 1
   ·intro u hSu
    have y0 := hSu.out.at1_ hj1
    have y1 := hSu.out.at1_ hj0
    rw [HX.out.1] at y0
    rw [HX.out.2] at y1
    go_simp
    first | done | with_reducible rfl
   try simp only [Act.put, zA, zB, zC]
   refine wpAnyH_ready (rs := [13]) (by kernel_rfl) (by simp) ?_
   refine AllReadyH.cons (o := ⟨_, _, _, _, _, _⟩) rfl (fun K hK => ?_) AllReadyH.nil
   go_simp
   go_at_call 131
   refine (tless_any x y _).mono ?_
   rintro e w' ⟨rfl, rfl⟩
   refine hK.out _ _ (hHeld) (fun hH2 => ?_)
   clear hK K hHeld
   have hHeld := hH2
   clear hH2
   try simp only [Act.put, zA, zB, zC]
   refine zT (i := 14) (v := ?_) rfl ?_ hHeld ?_
   rotate_left 1
   ·intro u hSu
    have y0 := hSu.out.at1_ hj1
    have y1 := hSu.out.at1_ hj0
    rw [HX.out.1] at y0
    rw [HX.out.2] at y1
    go_simp
    first | done | with_reducible rfl
   try simp only [Act.put, zA, zB, zC]
   refine wpAnyH_done (by kernel_rfl) ?_ _
   have H2 := H _ hHeld
   clear hHeld H
   rw [hnd]
   go_wp2_with fail
   exact ⟨⟨i + 1, by omega, Or.inl (by omega), congrArg _ (by omega), d, H2⟩, by simp only [RowKit.intOf]; omega⟩
end Go.Proofs.YtahafijpcmphaaaGreat

/- slices.Sort of at most twelve numbers. -/
namespace Go.Proofs.YtahafijpcmphaaaGreat
set_option maxRecDepth 100000
open Go.RowKit Bs
def SomeI (w : World) (e : Ending) (w' : World) : Prop := ∃ k : Int, e = .returned (.int .i64 k) ∧ w = w'
set_option maxHeartbeats 3200000 in
theorem tlen64_any (n : Nat) (hn : n ≤ 12) (w : World) : Calls Tryz.prog 135 #[.int .u64 (n : Int)] w fun e w' => SomeI w e w' := by
 rcases (show n = 0 ∨ n = 1 ∨ n = 2 ∨ n = 3 ∨ n = 4 ∨ n = 5 ∨ n = 6 ∨ n = 7 ∨ n = 8 ∨ n = 9 ∨ n = 10 ∨ n = 11 ∨ n = 12 by omega) with rfl | rfl | rfl | rfl | rfl | rfl | rfl | rfl | rfl | rfl | rfl | rfl | rfl
 all_goals
  go_enter Tryz.func135, Tryz.ntmps135
  go_wp2_with fail
  go_ret
  exact ⟨_, rfl, rfl⟩
set_option maxHeartbeats 3200000 in
theorem tlen_any (n : Nat) (hn : n ≤ 12) (w : World) : Calls Tryz.prog 107 #[.int .u64 (n : Int)] w fun e w' => SomeI w e w' := by
 go_enter Tryz.func107, Tryz.ntmps107
 go_wp2_with fail
 refine (tlen64_any n hn w).mono ?_
 rintro e w' ⟨k, rfl, rfl⟩
 go_wp2_with fail
 go_ret
 exact ⟨k, rfl, rfl⟩
set_option maxHeartbeats 3200000 in
theorem tpdq_any (base g c n : Nat) (l : List Int) (k : Int) (w : World) (hO : w.ownsRow base 3 1 (.slice (some ⟨g, 0, none⟩) n c) n (l.map tv)) (hl : l.length = n) (hn : n ≤ 12) :
  Calls Tryz.prog 106 #[.slice (some ⟨g, 0, none⟩) n c, .int .i64 0, .int .i64 (n : Int), .int .i64 k] w fun e w' => SrtPost base g c n l w e w' := by
 have C := tins_any base g c n l w hO hl hn
 have HC := Lib.hid C
 clear C hO hl
 have h12 : (n : Int) ≤ 12 := by omega
 go_enter Tryz.func106, Tryz.ntmps106
 go_wp2_with fail
 refine wp_loop_rounds 1 ?_
 rw [rounds_succ]
 go_wp2_with fail
 refine HC.out.mono ?_
 rintro e w' ⟨d, hd, rfl⟩
 go_wp2_with fail
 exact bodyPost_ret (results_none rfl _ _ _) rfl ⟨d, hd, rfl⟩
set_option maxHeartbeats 3200000 in
theorem tsort_any (base g c n : Nat) (l : List Int) (w : World) (hO : w.ownsRow base 3 1 (.slice (some ⟨g, 0, none⟩) n c) n (l.map tv)) (hl : l.length = n) (hn : n ≤ 12) :
  Calls Tryz.prog 76 #[.slice (some ⟨g, 0, none⟩) n c] w fun e w' => SrtPost base g c n l w e w' := by
 have HC := Lib.hid (fun k => tpdq_any base g c n l k w hO hl hn)
 clear hO hl
 have hz : IntKind.u64.wrap (n : Int) = (n : Int) := by rw [IntKind.wrap_u64]; omega
 go_enter Tryz.func76, Tryz.ntmps76
 go_wp2_with fail
 refine (tlen_any n hn w).mono ?_
 rintro e w' ⟨k, rfl, rfl⟩
 go_wp2_with fail
 refine (HC.out k).mono ?_
 rintro e w' ⟨d, hd, rfl⟩
 go_wp2_with fail
 first | exact bodyPost_end (results_none rfl _ _ _) rfl ⟨d, hd, rfl⟩ | exact bodyPost_ret (results_none rfl _ _ _) rfl ⟨d, hd, rfl⟩
end Go.Proofs.YtahafijpcmphaaaGreat

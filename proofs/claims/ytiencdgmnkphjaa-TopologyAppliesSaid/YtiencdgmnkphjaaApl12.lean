/- Parts of the proof, packed: ToDfs, ToDfsK, ToDfsW, ToComp, ToComp2, ToCompW. -/
import Derived.Test.YtiencdgmnkphjaaApl11
import Derived.Deep.AppendLies
import Derived.Test.YtiencdgmnkphjaaApl6
/- topology: what Components' join visits; what memory holds while it runs. -/
namespace Go.Proofs.Ytiencdgmnkphjaa
open Go.RowKit Bs
/-- The routers that are visited from r on, behind those that are visited already. -/
def dfs (L : List Lk) : Nat → Int → List Int → List Int
  | 0, _, S => S
  | k + 1, r, S => (nbL L r).foldl (fun S n => if hasI S n then S else dfs L k n S) (S ++ [r])
def dstep (L : List Lk) (k : Nat) (S : List Int) (n : Int) : List Int := if hasI S n then S else dfs L k n S
theorem dfs_succ (L : List Lk) (k : Nat) (r : Int) (S : List Int) : dfs L (k + 1) r S = (nbL L r).foldl (dstep L k) (S ++ [r]) := rfl
theorem dstep_ext (L : List Lk) (k : Nat) (h : ∀ r S, ∃ T, dfs L k r S = S ++ T) (S : List Int) (n : Int) : ∃ T, dstep L k S n = S ++ T := by
  unfold dstep
  split
  · exact ⟨[], by simp⟩
  · exact h n S
theorem fold_ext {f : List Int → Int → List Int} (h : ∀ S n, ∃ T, f S n = S ++ T) : ∀ (N : List Int) (S : List Int), ∃ T, N.foldl f S = S ++ T
  | [], S => ⟨[], by simp⟩
  | n :: N, S => by
    obtain ⟨T, hT⟩ := h S n
    obtain ⟨U, hU⟩ := fold_ext h N (f S n)
    exact ⟨T ++ U, by rw [List.foldl_cons, hU, hT, List.append_assoc]⟩
theorem dfs_ext (L : List Lk) : ∀ (k : Nat) (r : Int) (S : List Int), ∃ T, dfs L k r S = S ++ T
  | 0, _, S => ⟨[], by simp [dfs]⟩
  | k + 1, r, S => by
    obtain ⟨T, hT⟩ := fold_ext (dstep_ext L k (dfs_ext L k)) (nbL L r) (S ++ [r])
    exact ⟨[r] ++ T, by rw [dfs_succ, hT, List.append_assoc]⟩
theorem hasI_app (S T : List Int) (x : Int) : hasI (S ++ T) x = (hasI S x || hasI T x) := by
  unfold hasI
  rw [List.any_append]
/-- How many of the numbers are not visited. -/
def notS (S : List Int) (i : Nat) : Bool := !hasI S (i : Int)
def uns (S : List Int) : Nat := (List.range 100).countP (notS S)
theorem notS_app (S T : List Int) (i : Nat) (h : notS (S ++ T) i = true) : notS S i = true := by
  unfold notS at *
  rw [hasI_app] at h
  cases h1 : hasI S (i : Int)
  · rfl
  · rw [h1] at h; simp at h
theorem count_le {p q : Nat → Bool} (h : ∀ i, q i = true → p i = true) : ∀ l : List Nat, l.countP q ≤ l.countP p
  | [] => Nat.le_refl _
  | a :: l => by
    have h1 := count_le h l
    rw [List.countP_cons, List.countP_cons]
    have h2 := h a
    cases hq : q a
    · simp; omega
    · rw [h2 hq]; simp; omega
theorem count_lt {p q : Nat → Bool} (h : ∀ i, q i = true → p i = true) {n : Nat} (hp : p n = true) (hq : q n = false) : ∀ l : List Nat, n ∈ l → l.countP q + 1 ≤ l.countP p
  | [], hn => by cases hn
  | a :: l, hn => by
    rw [List.countP_cons, List.countP_cons]
    rcases List.mem_cons.1 hn with e | hn
    · subst e
      rw [hp, hq]
      have := count_le h l
      simp; omega
    · have h1 := count_lt h hp hq l hn
      have h2 := h a
      cases hqa : q a
      · simp; omega
      · rw [h2 hqa]; simp; omega
theorem uns_app (S T : List Int) : uns (S ++ T) ≤ uns S :=
  count_le (notS_app S T) _
theorem uns_snoc {S : List Int} {n : Nat} (hn : n < 100) (h : hasI S (n : Int) = false) : uns (S ++ [(n : Int)]) + 1 ≤ uns S :=
  count_lt (notS_app S [(n : Int)]) (n := n) (by unfold notS; rw [h]; rfl) (by unfold notS; rw [hasI_app]; unfold hasI; simp) _ (by simpa using hn)
theorem uns_pos {S : List Int} {n : Nat} (hn : n < 100) (h : hasI S (n : Int) = false) : 0 < uns S := by
  have := uns_snoc hn h
  omega
/-- The cells that note who is visited. -/
def sn (S : List Int) : List Value := (List.range 100).map fun i : Nat => .bool (hasI S (i : Int))
theorem sn_at {S : List Int} {i : Nat} (hi : i < 100) : (sn S)[i]? = some (.bool (hasI S (i : Int))) := by
  unfold sn
  rw [List.getElem?_map, List.getElem?_eq_getElem (by simpa using hi), List.getElem_range]; rfl
theorem sn_snoc {S : List Int} {n : Nat} (hn : n < 100) : (sn S).set n (.bool true) = sn (S ++ [(n : Int)]) := by
  apply List.ext_getElem?
  intro i
  rw [List.getElem?_set]
  have hl : (sn S).length = 100 := by unfold sn; simp
  by_cases hi : i < 100
  · rw [sn_at hi, sn_at hi, hasI_app]
    have h1 : hasI [(n : Int)] (i : Int) = decide ((n : Int) = (i : Int)) := by unfold hasI; simp
    rw [h1]
    by_cases e : n = i
    · subst e
      rw [if_pos rfl, if_pos (by omega), decide_eq_true rfl, Bool.or_true]
    · rw [if_neg e]
      have : decide ((n : Int) = (i : Int)) = false := decide_eq_false (by omega)
      rw [this, Bool.or_false]
  · have e1 : (sn (S ++ [(n : Int)]))[i]? = none := List.getElem?_eq_none (by unfold sn; simp; omega)
    have e2 : (sn S)[i]? = none := List.getElem?_eq_none (by omega)
    rw [e1, e2, if_neg (by omega)]
/-- What a world keeps of another while a component grows: block H+1 is the component's slot, H+2 the array. -/
structure JF (H : Nat) (w : World) (vc : Value) (w' : World) (vc' : Value) : Prop where
  os : w'.os = w.os
  tape : w'.tape = w.tape
  output : w'.output = w.output
  size : w.heap.size ≤ w'.heap.size
  block : ∀ b, b < w.heap.size → b ≠ H + 1 → b ≠ H + 2 → vc.ownBlock ≠ some b → w'.heap[b]? = w.heap[b]?
  row : vc'.ownBlock = vc.ownBlock ∨ ∃ g, vc'.ownBlock = some g ∧ w.heap.size ≤ g
theorem JF.refl (H : Nat) (w : World) (vc : Value) : JF H w vc w vc := ⟨rfl, rfl, rfl, Nat.le_refl _, fun _ _ _ _ _ => rfl, .inl rfl⟩
theorem JF.trans {H : Nat} {w w1 w2 : World} {v v1 v2 : Value} (h : JF H w v w1 v1) (k : JF H w1 v1 w2 v2) : JF H w v w2 v2 := by
  refine ⟨k.os.trans h.os, k.tape.trans h.tape, k.output.trans h.output, Nat.le_trans h.size k.size, fun b hb h1 h2 h3 => ?_, ?_⟩
  · refine (k.block b (Nat.lt_of_lt_of_le hb h.size) h1 h2 (fun e => ?_)).trans (h.block b hb h1 h2 h3)
    rcases h.row with hr | ⟨g, hr, hg⟩
    · exact h3 (hr ▸ e)
    · rw [hr] at e
      have := Option.some.inj e
      omega
  · rcases k.row with hr | ⟨g, hr, hg⟩
    · rw [hr]; exact h.row
    · exact .inr ⟨g, hr, Nat.le_trans h.size hg⟩
theorem JF.grown {H : Nat} {w w1 : World} (v : Value) (g : w.grownBy w1 none) : JF H w v w1 v := ⟨g.os, g.tape, g.output, g.size, fun b hb _ _ _ => g.block b hb (by simp), .inl rfl⟩
theorem JF.to {H : Nat} {w w1 : World} {v v1 : Value} (h : JF H w v w1 v1) (w0 : World) (g : w0.grownBy w none) (h0 : w0.heap.size ≤ H) (hv : ∀ g, v.ownBlock = some g → H ≤ g) : w0.grownBy w1 none :=
  ⟨h.os.trans g.os, h.tape.trans g.tape, h.output.trans g.output, Nat.le_trans g.size h.size, fun b hb _ => (h.block b (Nat.lt_of_lt_of_le hb g.size) (by omega) (by omega) (fun e => by have := hv b e; omega)).trans (g.block b hb (by simp))⟩
theorem Rd.jf {H : Nat} {w w1 : World} {v v1 x : Value} {q : Nat → Prop} {vs : List Value} (hr : Rd w q x vs) (h : JF H w v w1 v1) (hq : ∀ b, q b → b < w.heap.size → b ≠ H + 1 ∧ b ≠ H + 2 ∧ v.ownBlock ≠ some b) : Rd w1 q x vs := by
  obtain ⟨p, c, hv, hc⟩ := hr
  refine ⟨p, c, hv, fun hne => ?_⟩
  obtain ⟨b, off, hp, hb, hx⟩ := hc hne
  refine ⟨b, off, hp, hb, fun i x hi => ?_⟩
  have hcell := hx i x hi
  have hlt : b < w.heap.size := by
    rcases Nat.lt_or_ge b w.heap.size with h1 | h1
    · exact h1
    · unfold World.cell? at hcell
      rw [Array.getElem?_eq_none h1] at hcell
      cases hcell
  obtain ⟨h1, h2, h3⟩ := hq b hb hlt
  rw [World.cell?_of_block (h.block b hlt h1 h2 h3)]
  exact hcell
theorem RdF.jf {H : Nat} {w w1 : World} {v v1 x : Value} {q : Nat → Prop} {n : Nat} {vs : List Value} (hr : RdF w q x n vs) (h : JF H w v w1 v1) (hq : ∀ b, q b → b < w.heap.size → b ≠ H + 1 ∧ b ≠ H + 2 ∧ v.ownBlock ≠ some b) : RdF w1 q x n vs := by
  obtain ⟨p, c, hv, hc⟩ := hr
  refine ⟨p, c, hv, fun hne => ?_⟩
  obtain ⟨b, off, hp, hb, hx⟩ := hc hne
  refine ⟨b, off, hp, hb, fun i x hi => ?_⟩
  have hcell := hx i x hi
  have hlt : b < w.heap.size := by
    rcases Nat.lt_or_ge b w.heap.size with h1 | h1
    · exact h1
    · unfold World.cell? at hcell
      rw [Array.getElem?_eq_none h1] at hcell
      cases hcell
  obtain ⟨h1, h2, h3⟩ := hq b hb hlt
  rw [World.cell?_of_block (h.block b hlt h1 h2 h3)]
  exact hcell
abbrev pt (b : Nat) : Value := .pointer (some ⟨b, 0, none⟩)
abbrev jfn (t H : Nat) : Value := .func (.func (83)) #[] #[pt (H + 2), pt (H + 1), pt t, pt (H + 3)]
/-- While the components are found: S is visited, from place d on the component at hand. -/
structure JS (t H d : Nat) (vR vL : Value) (L : List Lk) (S : List Int) (vc : Value) (w : World) : Prop where
  topo : w.heap[t]? = some (.cells #[vR, vL] 26 (0, 0))
  comp : w.heap[H + 1]? = some (.cells #[vc] 22 (0, 0))
  seen : TRow w (H + 2) 101 (sn S)
  jf : w.heap[H + 3]? = some (.cells #[jfn t H] 102 (0, 0))
  own : w.ownsRow (H + 4) 3 1 vc (S.drop d).length ((S.drop d).map tv)
  lnk : RdL5 w (· < H) vL L
  size : H + 4 ≤ w.heap.size
  fit : S.length + uns S ≤ 100
  d : d ≤ S.length
  tle : t ≤ H
end Go.Proofs.Ytiencdgmnkphjaa

/- topology: what memory keeps while a component grows. -/
namespace Go.Proofs.Ytiencdgmnkphjaa
open Go.RowKit Bs
theorem JS.vc {t H d : Nat} {vR vL vc : Value} {L : List Lk} {S : List Int} {w : World} (h : JS t H d vR vL L S vc w) : ∀ b, vc.ownBlock = some b → H + 4 ≤ b ∧ b < w.heap.size := h.own.lt
theorem JS.keep {t H d : Nat} {vR vL vc : Value} {L : List Lk} {S : List Int} {w w' : World} (h : JS t H d vR vL L S vc w) (g : w.grownBy w' none) : JS t H d vR vL L S vc w' :=
  ⟨kept_row h.topo g (by simp), kept_row h.comp g (by simp), h.seen.kept g (by simp), kept_row h.jf g (by simp), h.own.kept g (by cases hv : vc.ownBlock <;> simp), h.lnk.keep g, Nat.le_trans h.size g.size, h.fit, h.d, h.tle⟩
theorem JS.comp1 {t H d : Nat} {vR vL vc : Value} {L : List Lk} {S : List Int} {w w1 : World} {n : Nat} {u : Value} {o : Obj} (h : JS t H d vR vL L S vc w) (hg : ((w.setCell ⟨H + 2, n, none⟩ u).alloc o).grownBy w1 vc.ownBlock) :
    w1.heap[H + 1]? = some (.cells #[vc] 22 (0, 0)) := by
  have k1 := grown_setCell w ⟨H + 2, n, none⟩ u
  have k2 := World.grownBy_alloc (w.setCell ⟨H + 2, n, none⟩ u) o none
  refine kept_row (kept_row (kept_row h.comp k1 (fun e => ?_)) k2 (by simp)) hg (fun e => ?_)
  · have : H + 1 = H + 2 := Option.some.inj e
    omega
  · have := (h.vc _ e.symm).1
    omega
theorem JS.add {t H d : Nat} {vR vL vc : Value} {L : List Lk} {S : List Int} {w w1 : World} {n g cap : Nat} {o : Obj} (h : JS t H d vR vL L S vc w) (hn : n < 100) (hu : hasI S (n : Int) = false)
    (hown : w1.ownsRow (H + 4) 3 1 (.slice (some ⟨g, 0, none⟩) ((S.drop d).length + 1) cap) ((S.drop d).length + 1) ((S.drop d).map tv ++ [.int .i64 (n : Int)]))
    (hg : ((w.setCell ⟨H + 2, n, none⟩ (.bool true)).alloc o).grownBy w1 vc.ownBlock)
    (hat : vc.ownBlock = some g ∨ g = ((w.setCell ⟨H + 2, n, none⟩ (.bool true)).alloc o).heap.size) :
    JS t H d vR vL L (S ++ [(n : Int)]) (.slice (some ⟨g, 0, none⟩) ((S.drop d).length + 1) cap) (w1.setCell ⟨H + 1, 0, none⟩ (.slice (some ⟨g, 0, none⟩) ((S.drop d).length + 1) cap)) ∧
    JF H w vc (w1.setCell ⟨H + 1, 0, none⟩ (.slice (some ⟨g, 0, none⟩) ((S.drop d).length + 1) cap)) (.slice (some ⟨g, 0, none⟩) ((S.drop d).length + 1) cap) := by
  have c1 := h.comp1 hg
  have htl := h.tle
  obtain ⟨v', hv'⟩ : ∃ v', Value.slice (some ⟨g, 0, none⟩) ((S.drop d).length + 1) cap = v' := ⟨_, rfl⟩
  have ho' : v'.ownBlock = some g := by rw [← hv']; rfl
  rw [hv'] at hown ⊢
  have k1 := grown_setCell w ⟨H + 2, n, none⟩ (.bool true)
  have k2 := World.grownBy_alloc (w.setCell ⟨H + 2, n, none⟩ (.bool true)) o none
  have k4 := grown_setCell w1 ⟨H + 1, 0, none⟩ v'
  have hs1 := k1.size
  have hs2 := k2.size
  have hs3 := hg.size
  have hs4 := k4.size
  have hne : ∀ b, b < H + 4 → some b ≠ vc.ownBlock := fun b hb e => by
    have := (h.vc b e.symm).1
    omega
  have hgb := (hown.lt g ho').1
  have sb : ∀ (b c : Nat), b ≠ c → some b ≠ some c := fun b c h e => h (Option.some.inj e)
  have F : JF H w vc (w1.setCell ⟨H + 1, 0, none⟩ v') v' := by
    refine ⟨?_, ?_, ?_, by omega, fun b hb h1 h2 h3 => ?_, ?_⟩
    · exact k4.os.trans (hg.os.trans (k2.os.trans k1.os))
    · exact k4.tape.trans (hg.tape.trans (k2.tape.trans k1.tape))
    · exact k4.output.trans (hg.output.trans (k2.output.trans k1.output))
    · exact (k4.block b (by omega) (sb _ _ h1)).trans ((hg.block b (by omega) (fun e => h3 e.symm)).trans ((k2.block b (by omega) (by simp)).trans (k1.block b hb (sb _ _ h2))))
    · rcases hat with e | e
      · exact .inl (ho'.trans e.symm)
      · exact .inr ⟨g, ho', by omega⟩
  refine ⟨⟨?_, ?_, ?_, ?_, ?_, ?_, ?_, ?_, ?_, htl⟩, F⟩
  · exact kept_row (kept_row (kept_row (kept_row h.topo k1 (sb _ _ (by show t ≠ H + 2; omega))) k2 (by simp)) hg (hne _ (by omega))) k4 (sb _ _ (by show t ≠ H + 1; omega))
  · have := heap_setCell_same w1 (H + 1) 0 _ _ v' c1
    exact this
  · have h0 := h.seen.set n (.bool true)
    rw [sn_snoc hn] at h0
    exact ((h0.kept k2 (by simp)).kept hg (hne _ (by omega))).kept k4 (sb _ _ (by show H + 2 ≠ H + 1; omega))
  · exact kept_row (kept_row (kept_row (kept_row h.jf k1 (sb _ _ (by show H + 3 ≠ H + 2; omega))) k2 (by simp)) hg (hne _ (by omega))) k4 (sb _ _ (by show H + 3 ≠ H + 1; omega))
  · have e1 : (S ++ [(n : Int)]).drop d = S.drop d ++ [(n : Int)] := List.drop_append_of_le_length h.d
    rw [e1, List.length_append, List.map_append]
    exact hown.kept k4 (.inr (by rw [ho']; exact sb _ _ (by show g ≠ H + 1; omega)))
  · exact RdF.jf h.lnk F (fun b hb _ => ⟨by omega, by omega, fun e => hne b (by omega) e.symm⟩)
  · have := h.size
    omega
  · have h1 := uns_snoc hn hu
    have h2 := h.fit
    rw [List.length_append]
    simp only [List.length_cons, List.length_nil]
    omega
  · have := h.d
    rw [List.length_append]
    omega
theorem nbL_range {L : List Lk} (hL : ∀ l ∈ L, (1 ≤ l.a ∧ l.a ≤ 99) ∧ 1 ≤ l.b ∧ l.b ≤ 99) (x : Int) : ∀ y ∈ nbL L x, 1 ≤ y ∧ y ≤ 99 := by
  intro y hy
  obtain ⟨l, hl, h1⟩ := List.mem_flatMap.1 hy
  have := hL l hl
  unfold nb1 at h1
  rw [List.mem_append] at h1
  rcases h1 with h1 | h1
  · split at h1
    · rw [List.mem_singleton] at h1; subst h1; exact this.1
    · cases h1
  · split at h1
    · rw [List.mem_singleton] at h1; subst h1; exact this.2
    · cases h1
theorem fold_take {f : List Int → Int → List Int} {N : List Int} {j : Nat} {y : Int} (S : List Int) (h : N[j]? = some y) : (N.take (j + 1)).foldl f S = f ((N.take j).foldl f S) y := by
  rw [List.take_add_one, h, List.foldl_append]
  rfl
end Go.Proofs.Ytiencdgmnkphjaa

/- topology: join, the closure of Components. -/
namespace Go.Proofs.Ytiencdgmnkphjaa
open Go.RowKit Bs
def wa0c (w : World) (H n : Nat) (vc : Value) : Prop := (w.setCell ⟨H + 2, n, none⟩ (.bool true)).cell? ⟨H + 1, 0, none⟩ = some vc
def wa0f (w : World) (H n : Nat) : Prop := (w.setCell ⟨H + 2, n, none⟩ (.bool true)).frozen? ⟨H + 1, 0, none⟩ = false
set_option maxRecDepth 100000 in
set_option maxHeartbeats 6400000 in
theorem tjoin_any (t H d : Nat) (vR : Value) (L : List Lk) (pL : Option Addr) (cL : Nat) (hL : ∀ l ∈ L, (1 ≤ l.a ∧ l.a ≤ 99) ∧ 1 ≤ l.b ∧ l.b ≤ 99) (hm : L.length ≤ 1000) : ∀ (k : Nat) (S : List Int) (vc : Value) (n : Nat) (w : World), JS t H d vR (.slice pL L.length cL) L S vc w → uns S ≤ k → 1 ≤ n → n < 100 → hasI S (n : Int) = false →
    Calls Try.prog 83 #[.int .i64 (n : Int), pt (H + 2), pt (H + 1), pt t, pt (H + 3)] w fun e w' => e = .returned (.tuple #[]) ∧ ∃ v', JS t H d vR (.slice pL L.length cL) L (dfs L k (n : Int) S) v' w' ∧ JF H w vc w' v' := by
  intro k
  induction k with
  | zero =>
    intro S vc n w h hk h1 h2 hu
    have := uns_pos h2 hu
    omega
  | succ k ih =>
    intro S vc n w h hk h1 h2 hu
    obtain ⟨i0, hi, hz0, hz1, hz2⟩ := info_parts info_int
    have e0 : EnterF (83) := enters_of Try.func83 (by kernel_rfl) rfl
    have IH := Lib.hid ih
    have HJ := Lib.hid h
    have HU := Lib.hid hu
    have c2 := h.seen.cell (sn_at (S := S) h2)
    have f2 := h.seen.frozen n
    have n0 : (0 : Int) ≤ (n : Int) := by omega
    have n1 : (n : Int) < 100 := by omega
    have HK : Hid (uns (S ++ [(n : Int)]) ≤ k) := Lib.hid (by have := uns_snoc h2 hu; omega)
    have HN := Lib.hid (nbL_range hL (n : Int))
    have hfit := h.fit
    have hlen : (S.drop d).length ≤ 100 := by rw [List.length_drop]; omega
    have hsz := h.size
    have hown0 := h.own
    obtain ⟨C, hC⟩ : ∃ C, S.drop d = C := ⟨_, rfl⟩
    rw [hC] at hlen hown0
    have HC := Lib.hid hC
    clear ih h hk hu hC hfit
    go_enter Try.func83, Try.ntmps83
    go_upto_region 1 with fail
    have k1 := grown_setCell w ⟨H + 2, n, none⟩ (.bool true)
    have hcb : (w.setCell ⟨H + 2, n, none⟩ (.bool true)).heap[H + 1]? = some (.cells #[vc] 22 (0, 0)) := kept_row HJ.out.comp k1 (fun e => by have : H + 1 = H + 2 := Option.some.inj e; omega)
    have hown1 := hown0.kept k1 (by
      cases hv : vc.ownBlock with
      | none => exact .inl rfl
      | some b =>
        have := (HJ.out.vc b hv).1
        exact .inr (fun e => by have : b = H + 2 := Option.some.inj e; omega))
    have hsz1 := k1.size
    obtain ⟨c1, f1⟩ : wa0c w H n vc ∧ wa0f w H n := ⟨by unfold wa0c; rw [cell_of_row _ _ _ _ _ _ hcb]; rfl, frozen_of_row _ _ _ _ _ hcb⟩
    unfold wa0c at c1
    unfold wa0f at f1
    generalize hwa : w.setCell ⟨H + 2, n, none⟩ (.bool true) = wa at *
    have HWA := Lib.hid hwa
    clear hwa k1 hown0 c2 f2 hcb
    go_wp2_with (at_builtin; refine wpList_append_lies _ rfl _ _ 22 rfl (H + 4) 3 i0 (.int .i64 0) 1 8 Try.underlying22 hi hz0 hz1 hz2 rfl (by decide) _ _ _ rfl (hown1.alloc _) ⟨wa.heap.size, 0, none⟩ 1 1 [.int .i64 (n : Int)] rfl rfl ?c1 ?c2 (by decide) ?c3 ?c4 ?c5 _ rfl ?_)
    try (case c1 => exact cell_one _ _ _)
    case c2 => first | rfl | (intro u hu; simp at hu; subst hu; rfl)
    case c3 => first | omega | (unfold maxLen; omega)
    case c4 => omega
    case c5 => first | omega | (simp; omega)
    intro g cap w1 hown' hg hat hlt
    obtain ⟨c1', f1'⟩ : w1.cell? ⟨H + 1, 0, none⟩ = some vc ∧ w1.frozen? ⟨H + 1, 0, none⟩ = false := by
      have h0 := HWA.out
      subst h0
      have hb := HJ.out.comp1 hg
      exact ⟨by rw [cell_of_row _ _ _ _ _ _ hb]; rfl, frozen_of_row _ _ _ _ _ hb⟩
    have HA : Hid (JS t H d vR (.slice pL L.length cL) L (S ++ [(n : Int)]) (.slice (some ⟨g, 0, none⟩) (C.length + 1) cap) (w1.setCell ⟨H + 1, 0, none⟩ (.slice (some ⟨g, 0, none⟩) (C.length + 1) cap)) ∧
        JF H w vc (w1.setCell ⟨H + 1, 0, none⟩ (.slice (some ⟨g, 0, none⟩) (C.length + 1) cap)) (.slice (some ⟨g, 0, none⟩) (C.length + 1) cap)) := by
      have h0 := HWA.out
      have hc := HC.out
      subst h0
      subst hc
      exact Lib.hid (HJ.out.add h2 HU.out hown' hg (hat.imp id fun e => by rw [e]; simp))
    clear hown' hg hat hlt hown1 hsz1 c1 f1 HWA
    go_upto_region 2 with fail
    generalize w1.setCell _ _ = w2 at *
    generalize Value.slice (some ⟨g, 0, none⟩) (C.length + 1) cap = v2 at *
    obtain ⟨t0, t1⟩ := row_cells HA.out.1.topo
    have HL := Lib.hid HA.out.1.lnk
    clear c1' f1' hlen HC
    obtain ⟨N, hNe⟩ : ∃ N, nbL L (n : Int) = N := ⟨_, rfl⟩
    have HNE := Lib.hid hNe
    clear hNe
    go_wp2_with (go_at_call 70; refine (tnear_any L (n : Int) pL cL (· < H) _ HL.out hm).mono ?_; rw [HNE.out]; rintro e w3 ⟨pN, cN, rfl, hrd, hcN, hpN, hg3⟩; have HR3 := Lib.hid (And.intro hrd hg3); clear hrd hpN hg3; (try obtain ⟨hcN0, hcN1⟩ := hcN))
    have HJ2 := Lib.hid HA.out.1
    have HF2 := Lib.hid HA.out.2
    have hNl : N.length ≤ 9223372036854775807 := by omega
    clear HA t0 t1 HL hsz
    have J0 : Hid (JS t H d vR (.slice pL L.length cL) L (S ++ [(n : Int)]) v2 w3 ∧ JF H w3 v2 w3 v2) := Lib.hid ⟨HJ2.out.keep HR3.out.2, JF.refl _ _ _⟩
    have HN2 : Hid (∀ y ∈ N, 1 ≤ y ∧ y ≤ 99) := Lib.hid (by rw [← HNE.out]; exact HN.out)
    go_loopw [19] (fun a wr => ∃ (j : Nat) (T : List Int) (v' : Value), j ≤ N.length ∧ a = .int .i64 (j : Int) ∧ Hid (JS t H d vR (.slice pL L.length cL) L T v' wr ∧ JF H w3 v2 wr v') ∧ Hid (T = (N.take j).foldl (dstep L k) (S ++ [(n : Int)]) ∧ uns T ≤ k)) (fun a _ => N.length - (intOf a).toNat)
    case atStart => exact ⟨0, S ++ [(n : Int)], v2, Nat.zero_le _, rfl, J0, Lib.hid ⟨rfl, HK.out⟩⟩
    case round =>
      obtain ⟨j, T, v', hj, rfl, J, HT⟩ := hrel
      clear J0
      by_cases hlt : j < N.length
      · have hNr : Rd wr (fun x => w2.heap.size ≤ x) (.slice pN N.length cN) (N.map tv) := Rd.jf HR3.out.1 J.out.2 (fun b hb _ => by
          have := HJ2.out.size
          refine ⟨by omega, by omega, fun e => ?_⟩
          have := (HJ2.out.vc b e).2
          omega)
        obtain ⟨-, b, off, rfl, hq, hc⟩ := rdi_at hNr (by omega)
        obtain ⟨y, hy⟩ : ∃ y, N[j]? = some y := ⟨_, List.getElem?_eq_getElem hlt⟩
        have hyr := HN2.out y (List.mem_of_getElem? hy)
        obtain ⟨m, rfl⟩ : ∃ m : Nat, y = (m : Int) := ⟨y.toNat, by omega⟩
        have m2 : m < 100 := by omega
        have m1 : 1 ≤ m := by omega
        have a0 := hc j _ hy
        have s0 := J.out.1.seen.cell (sn_at (S := T) m2)
        have jf0 : wr.cell? ⟨H + 3, 0, none⟩ = some (jfn t H) := by rw [cell_of_row _ _ _ _ _ _ J.out.1.jf]; rfl
        have i0' : (0 : Int) ≤ (m : Int) := by omega
        have i1' : (m : Int) < 100 := by omega
        have HY := Lib.hid hy
        clear hc hy hyr hNr
        cases hh : hasI T (m : Int)
        · rw [hh] at s0
          have HH := Lib.hid hh
          have hcall := IH.out T v' m wr J.out.1 HT.out.2 m1 m2 HH.out
          clear hh
          go_wp2_with fail
          refine hcall.mono ?_
          rintro e w4 ⟨rfl, v4, h4, k4⟩
          have H4 := Lib.hid (And.intro h4 (J.out.2.trans k4))
          clear h4 k4 hcall
          go_wp2_with fail
          refine ⟨⟨j + 1, _, v4, by omega, congrArg _ (by omega), H4, Lib.hid ⟨?_, ?_⟩⟩, by simp only [intOf]; omega⟩
          · rw [fold_take _ HY.out, ← HT.out.1]
            unfold dstep
            rw [HH.out]
            rfl
          · obtain ⟨U, hU⟩ := dfs_ext L k (m : Int) T
            rw [hU]
            exact Nat.le_trans (uns_app T U) HT.out.2
        · rw [hh] at s0
          have HH := Lib.hid hh
          clear hh
          go_wp2_with fail
          refine ⟨⟨j + 1, T, v', by omega, congrArg _ (by omega), J, Lib.hid ⟨?_, HT.out.2⟩⟩, by simp only [intOf]; omega⟩
          rw [fold_take _ HY.out, ← HT.out.1]
          unfold dstep
          rw [HH.out]
          rfl
      · obtain rfl : j = N.length := by omega
        go_wp2_with fail
        have hT := HT.out.1
        rw [List.take_length] at hT
        refine bodyPost_end (results_none rfl _ _ _) rfl ⟨rfl, v', ?_, HF2.out.trans ((JF.grown v2 HR3.out.2).trans J.out.2)⟩
        rw [dfs_succ, HNE.out, ← hT]
        exact J.out.1
end Go.Proofs.Ytiencdgmnkphjaa

/- topology: Components: the mathematics; what memory holds while it runs. -/
namespace Go.Proofs.Ytiencdgmnkphjaa
open Go.RowKit Bs
def cstep (L : List Lk) (st : List (List Int) × List Int) (r : Rt) : List (List Int) × List Int :=
  if hasI st.2 r.id then st else (st.1 ++ [srt ((dfs L 100 r.id st.2).drop st.2.length)], dfs L 100 r.id st.2)
def compsF (L : List Lk) (R : List Rt) : List (List Int) × List Int := R.foldl (cstep L) ([], [])
/-- The components. -/
def comps (R : List Rt) (L : List Lk) : List (List Int) := if okT R L then (compsF L R).1 else []
theorem compsF_take {L : List Lk} {R : List Rt} {k : Nat} {r : Rt} (h : R[k]? = some r) : compsF L (R.take (k + 1)) = cstep L (compsF L (R.take k)) r := by
  unfold compsF
  rw [List.take_add_one, h, List.foldl_append]
  rfl
theorem ids_snoc {l : List Nat} {S : List Int} {n : Nat} (hn : n ∈ l) (h : hasI S (n : Int) = false) : l.countP (notS (S ++ [(n : Int)])) + 1 ≤ l.countP (notS S) :=
  count_lt (notS_app S [(n : Int)]) (n := n) (by unfold notS; rw [h]; rfl) (by unfold notS; rw [hasI_app]; unfold hasI; simp) _ hn
theorem dfs_fit (l : List Nat) (L : List Lk) (B : Nat) (hN : ∀ x, ∀ y ∈ nbL L x, ∃ m : Nat, y = (m : Int) ∧ m ∈ l) : ∀ (k n : Nat) (S : List Int), n ∈ l → hasI S (n : Int) = false → S.length + l.countP (notS S) ≤ B → (dfs L k (n : Int) S).length + l.countP (notS (dfs L k (n : Int) S)) ≤ B := by
  intro k
  induction k with
  | zero => intro n S _ _ h; exact h
  | succ k ih =>
    intro n S hn hu h
    have fold : ∀ (N : List Int) (T : List Int), (∀ y ∈ N, ∃ m : Nat, y = (m : Int) ∧ m ∈ l) → T.length + l.countP (notS T) ≤ B → (N.foldl (dstep L k) T).length + l.countP (notS (N.foldl (dstep L k) T)) ≤ B := by
      intro N
      induction N with
      | nil => intro T _ h; exact h
      | cons y N ihN =>
        intro T hy h
        rw [List.foldl_cons]
        refine ihN _ (fun z hz => hy z (List.mem_cons_of_mem _ hz)) ?_
        unfold dstep
        split
        · exact h
        · rename_i hh
          obtain ⟨m, rfl, hm⟩ := hy y List.mem_cons_self
          exact ih m T hm (by simpa using hh) h
    rw [dfs_succ]
    refine fold _ _ (hN _) ?_
    have := ids_snoc hn hu
    rw [List.length_append]
    simp only [List.length_cons, List.length_nil]
    omega
theorem Rd.lt {w : World} {q : Nat → Prop} {v : Value} {vs : List Value} (h : Rd w q v vs) : Rd w (fun b => q b ∧ b < w.heap.size) v vs := by
  obtain ⟨p, c, hv, hc⟩ := h
  refine ⟨p, c, hv, fun hne => ?_⟩
  obtain ⟨b, off, hp, hb, hx⟩ := hc hne
  refine ⟨b, off, hp, ⟨hb, ?_⟩, hx⟩
  cases vs with
  | nil => exact absurd rfl hne
  | cons x vs =>
    have hcell := hx 0 x rfl
    rcases Nat.lt_or_ge b w.heap.size with h1 | h1
    · exact h1
    · unfold World.cell? at hcell
      rw [Array.getElem?_eq_none h1] at hcell
      cases hcell
theorem own_jf {H : Nat} {w w' : World} {v v1 x : Value} {base size n : Nat} {e : TypeId} {xs : List Value} (h : w.ownsRow base e size x n xs) (k : JF H w v w' v1) (hb : ∀ b, x.ownBlock = some b → b ≠ H + 1 ∧ b ≠ H + 2 ∧ v.ownBlock ≠ some b) : w'.ownsRow base e size x n xs := by
  have hl := h.lt
  rcases h.2 with h0 | ⟨g, cap, cur, rfl, hbg, hg, hrest⟩
  · exact ⟨h.1, .inl h0⟩
  · obtain ⟨h1, h2, h3⟩ := hb g rfl
    exact ⟨h.1, .inr ⟨g, cap, cur, rfl, hbg, (k.block g (hl g rfl).2 h1 h2 h3).trans hg, hrest⟩⟩
theorem JF.sort {H : Nat} {w w1 w2 : World} {g n c : Nat} (h : JF H w (.slice none 0 0) w1 (.slice (some ⟨g, 0, none⟩) n c)) (k : w1.grownBy w2 (some g)) : JF H w (.slice none 0 0) w2 (.slice (some ⟨g, 0, none⟩) n c) := by
  have hg : w.heap.size ≤ g := by
    rcases h.row with e | ⟨g', e, hg⟩
    · cases e
    · have : g = g' := Option.some.inj e
      omega
  exact ⟨k.os.trans h.os, k.tape.trans h.tape, k.output.trans h.output, Nat.le_trans h.size k.size, fun b hb h1 h2 h3 => (k.block b (Nat.lt_of_lt_of_le hb h.size) (fun e => by have := Option.some.inj e; omega)).trans (h.block b hb h1 h2 h3), h.row⟩
/-- The slice value x reads as the numbers C. -/
def CC (w : World) (q : Nat → Prop) (x : Value) (C : List Int) : Prop := ∃ p c, x = .slice p C.length c ∧ Rd w q (.slice p C.length c) (C.map tv) ∧ (C.length ≤ c ∧ c ≤ 9223372036854775807)
/-- While the components are found: w0 is the world at the start. -/
structure CM (w0 : World) (t H : Nat) (vR vL : Value) (R : List Rt) (L : List Lk) (Cs : List (List Int)) (S : List Int) (va vc : Value) (vals : List Value) (w : World) : Prop where
  topo : w.heap[t]? = some (.cells #[vR, vL] 26 (0, 0))
  comp : w.heap[H + 1]? = some (.cells #[vc] 22 (0, 0))
  seen : TRow w (H + 2) 101 (sn S)
  jf : w.heap[H + 3]? = some (.cells #[jfn t H] 102 (0, 0))
  rts : RdR w (· < w0.heap.size) vR R
  lnk : RdL5 w (· < w0.heap.size) vL L
  size : H + 4 ≤ w.heap.size
  fit : S.length + uns S ≤ 100
  row : w.ownsRow (H + 4) 22 1 va vals.length vals
  len : vals.length = Cs.length
  at_ : ∀ (i : Nat) (C : List Int) (x : Value), Cs[i]? = some C → vals[i]? = some x → CC w (fun b => H + 4 ≤ b ∧ va.ownBlock ≠ some b) x C
  gr : w0.grownBy w none
  t0 : w0.heap.size ≤ t
  tle : t ≤ H
theorem CM.keep {w0 w w' : World} {t H : Nat} {vR vL va vc : Value} {R : List Rt} {L : List Lk} {Cs : List (List Int)} {S : List Int} {vals : List Value} (h : CM w0 t H vR vL R L Cs S va vc vals w) (g : w.grownBy w' none) : CM w0 t H vR vL R L Cs S va vc vals w' :=
  ⟨kept_row h.topo g (by simp), kept_row h.comp g (by simp), h.seen.kept g (by simp), kept_row h.jf g (by simp), h.rts.keep g, h.lnk.keep g, Nat.le_trans h.size g.size, h.fit, h.row.kept g (by cases hv : va.ownBlock <;> simp), h.len,
    fun i C x h1 h2 => by
      obtain ⟨p, c, e, hr, hc⟩ := h.at_ i C x h1 h2
      exact ⟨p, c, e, hr.grown g (by simp), hc⟩, grown_trans h.gr g, h.t0, h.tle⟩
/-- The component's slot is emptied: a component may begin. -/
theorem CM.empty {w0 w : World} {t H : Nat} {vR vL va vc : Value} {R : List Rt} {L : List Lk} {Cs : List (List Int)} {S : List Int} {vals : List Value} (h : CM w0 t H vR vL R L Cs S va vc vals w) :
    JS t H S.length vR vL L S (.slice none 0 0) (w.setCell ⟨H + 1, 0, none⟩ (.slice none 0 0)) ∧ CM w0 t H vR vL R L Cs S va (.slice none 0 0) vals (w.setCell ⟨H + 1, 0, none⟩ (.slice none 0 0)) := by
  have ht0 := h.t0
  have htl := h.tle
  have k := grown_setCell w ⟨H + 1, 0, none⟩ (.slice none 0 0)
  have sb : ∀ (b c : Nat), b ≠ c → some b ≠ some c := fun b c h e => h (Option.some.inj e)
  have ht := kept_row h.topo k (sb _ _ (by show t ≠ H + 1; omega))
  have hj := kept_row h.jf k (sb _ _ (by show H + 3 ≠ H + 1; omega))
  have hs := h.seen.kept k (sb _ _ (by show H + 2 ≠ H + 1; omega))
  have hc := heap_setCell_same w (H + 1) 0 _ _ (.slice none 0 0) h.comp
  have hl := RdF.grown h.lnk k (fun b hb => sb _ _ (by show b ≠ H + 1; omega))
  have hr := RdF.grown h.rts k (fun b hb => sb _ _ (by show b ≠ H + 1; omega))
  refine ⟨⟨ht, hc, hs, hj, ?_, hl.mono (fun b (hb : b < w0.heap.size) => (by omega : b < H)), Nat.le_trans h.size k.size, h.fit, Nat.le_refl _, h.tle⟩, ⟨ht, hc, hs, hj, hr, hl, Nat.le_trans h.size k.size, h.fit, ?_, h.len, ?_, grown_new h.gr k (by show _ ≤ H + 1; omega), h.t0, h.tle⟩⟩
  · rw [List.drop_length]
    exact World.ownsRow_nil _ _ _ _
  · refine h.row.kept k ?_
    cases hv : va.ownBlock with
    | none => exact .inl rfl
    | some b =>
      have := (h.row.lt b hv).1
      exact .inr (sb _ _ (by show b ≠ H + 1; omega))
  · intro i C x h1 h2
    obtain ⟨p, c, e, hr, hc⟩ := h.at_ i C x h1 h2
    exact ⟨p, c, e, hr.grown k (fun b hb => sb _ _ (by show b ≠ H + 1; omega)), hc⟩
/-- Behind join and Sort. -/
theorem CM.jf' {w0 w w' : World} {t H : Nat} {vR vL va v' : Value} {R : List Rt} {L : List Lk} {Cs : List (List Int)} {S T : List Int} {vals : List Value} (h : CM w0 t H vR vL R L Cs S va (.slice none 0 0) vals w) (k : JF H w (.slice none 0 0) w' v') (hc : w'.heap[H + 1]? = some (.cells #[v'] 22 (0, 0))) (hs : TRow w' (H + 2) 101 (sn T)) (hf : T.length + uns T ≤ 100) :
    CM w0 t H vR vL R L Cs T va v' vals w' := by
  have hsz := h.size
  have ht0 := h.t0
  have htl := h.tle
  have none_ : ∀ b, (Value.slice none 0 0).ownBlock ≠ some b := fun b e => by cases e
  refine ⟨(k.block _ (by omega) (by omega) (by omega) (none_ _)).trans h.topo, hc, hs, (k.block _ (by omega) (by omega) (by omega) (none_ _)).trans h.jf, RdF.jf h.rts k (fun b hb _ => ⟨by omega, by omega, none_ b⟩), RdF.jf h.lnk k (fun b hb _ => ⟨by omega, by omega, none_ b⟩), Nat.le_trans h.size k.size, hf, own_jf h.row k (fun b hb => ?_), h.len, ?_, JF.to k w0 h.gr (by omega) (fun g e => absurd e (none_ g)), h.t0, h.tle⟩
  · have := (h.row.lt b hb).1
    exact ⟨by omega, by omega, none_ b⟩
  · intro i C x h1 h2
    obtain ⟨p, c, e, hr, hcc⟩ := h.at_ i C x h1 h2
    exact ⟨p, c, e, Rd.jf hr k (fun b hb _ => ⟨by omega, by omega, none_ b⟩), hcc⟩
end Go.Proofs.Ytiencdgmnkphjaa

/- topology: Components: a component is appended; the beginning; a valid topology. -/
namespace Go.Proofs.Ytiencdgmnkphjaa
open Go.RowKit Bs
theorem CM.app {w0 w w1 : World} {t H : Nat} {vR vL va v' : Value} {R : List Rt} {L : List Lk} {Cs : List (List Int)} {T C : List Int} {vals : List Value} {o : Obj} {g n cap : Nat} (h : CM w0 t H vR vL R L Cs T va v' vals w) (hv : CC w (fun b => H + 4 ≤ b ∧ va.ownBlock ≠ some b) v' C)
    (hown : w1.ownsRow (H + 4) 22 1 (.slice (some ⟨g, 0, none⟩) n cap) (vals.length + 1) (vals ++ [v'])) (hg : (w.alloc o).grownBy w1 va.ownBlock) (hat : va.ownBlock = some g ∨ g = (w.alloc o).heap.size) :
    CM w0 t H vR vL R L (Cs ++ [C]) T (.slice (some ⟨g, 0, none⟩) n cap) v' (vals ++ [v']) w1 := by
  have ht0 := h.t0
  have htl := h.tle
  have k0 := World.grownBy_alloc w o none
  have hne : ∀ b, b < H + 4 → some b ≠ va.ownBlock := fun b hb e => by
    have := (h.row.lt b e.symm).1
    omega
  have hk := h.keep k0
  have hsz : (w.alloc o).heap.size = w.heap.size + 1 := by simp
  have rd : ∀ (x : Value) (D : List Int), CC w (fun b => H + 4 ≤ b ∧ va.ownBlock ≠ some b) x D → CC w1 (fun b => H + 4 ≤ b ∧ (Value.slice (some ⟨g, 0, none⟩) n cap).ownBlock ≠ some b) x D := by
    rintro x D ⟨p, c, e, hr, hc⟩
    refine ⟨p, c, e, ?_, hc⟩
    refine Rd.mono ((hr.lt.grown k0 (by simp)).grown hg (fun b hb e => hb.1.2 e.symm)) (fun b hb => ⟨hb.1.1, fun e => ?_⟩)
    have eg : g = b := Option.some.inj e
    subst eg
    rcases hat with e2 | e2
    · exact hb.1.2 e2
    · have := hb.2
      omega
  refine ⟨kept_row hk.topo hg (hne _ (by omega)), kept_row hk.comp hg (hne _ (by omega)), hk.seen.kept hg (hne _ (by omega)), kept_row hk.jf hg (hne _ (by omega)), hk.rts.grown hg (fun b hb => hne b (by omega)), hk.lnk.grown hg (fun b hb => hne b (by omega)), Nat.le_trans hk.size hg.size, h.fit, ?_, ?_, ?_, grown_any hk.gr hg (fun b hb => hne b (by omega)), h.t0, h.tle⟩
  · rw [List.length_append]
    exact hown
  · rw [List.length_append, List.length_append, h.len]
    rfl
  · intro i D x h1 h2
    have hl := h.len
    by_cases hi : i < Cs.length
    · rw [List.getElem?_append_left hi] at h1
      rw [List.getElem?_append_left (by omega)] at h2
      exact rd x D (h.at_ i D x h1 h2)
    · rw [List.getElem?_append_right (by omega)] at h1 h2
      rw [hl] at h2
      by_cases hi2 : i - Cs.length = 0
      · rw [hi2] at h1 h2
        obtain rfl : C = D := by simpa using h1
        obtain rfl : v' = x := by simpa using h2
        exact rd _ _ hv
      · rw [List.getElem?_eq_none (by simp; omega)] at h1
        cases h1
theorem boxes3 (w : World) (A B C : Array Value) (t u v : TypeId) : ∃ w3, w3 = ((w.alloc (.cells A t)).alloc (.cells B u)).alloc (.cells C v) ∧ w3.heap[w.heap.size]? = some (.cells A t (0, 0)) ∧ w3.heap[w.heap.size + 1]? = some (.cells B u (0, 0)) ∧ w3.heap[w.heap.size + 2]? = some (.cells C v (0, 0)) ∧ w.grownBy w3 none ∧ w3.heap.size = w.heap.size + 3 := by
  obtain ⟨k1, k2, k3, k4⟩ := two_boxes w A B t u
  have g := World.grownBy_alloc ((w.alloc (.cells A t)).alloc (.cells B u)) (.cells C v) none
  refine ⟨_, rfl, kept_row k1 g (by simp), kept_row k2 g (by simp), ?_, grown_trans k3 g, by simp⟩
  rw [← k4]; exact heap_alloc_new _ _
theorem sn_nil : sn [] = List.replicate 100 (.bool false) := by rfl
theorem okT_ids {R : List Rt} {L : List Lk} (h : okT R L = true) : R.any wrId = false ∧ L.any (unk R) = false := by
  unfold okT chk at h
  split at h
  · cases h
  split at h
  · cases h
  rename_i h1
  split at h
  · cases h
  split at h
  · cases h
  split at h
  · cases h
  rename_i h2
  exact ⟨by simpa using h1, by simpa using h2⟩
theorem unk_not {R : List Rt} {L : List Lk} (h : L.any (unk R) = false) : ∀ l ∈ L, hasR R l.a = true ∧ hasR R l.b = true := by
  intro l hl
  have := List.any_eq_false.1 h l hl
  unfold unk at this
  simpa using this
theorem okT_ends {R : List Rt} {L : List Lk} (h : okT R L = true) : ∀ l ∈ L, (1 ≤ l.a ∧ l.a ≤ 99) ∧ 1 ≤ l.b ∧ l.b ≤ 99 := by
  obtain ⟨h1, h2⟩ := okT_ids h
  intro l hl
  have := unk_not h2 l hl
  exact ⟨hasR_range h1 this.1, hasR_range h1 this.2⟩
def idsN (R : List Rt) : List Nat := R.map fun r => r.id.toNat
theorem idsN_of {R : List Rt} {x : Int} (h1 : R.any wrId = false) (h : hasR R x = true) : ∃ m : Nat, x = (m : Int) ∧ m ∈ idsN R := by
  have hr := hasR_range h1 h
  obtain ⟨r, hm, e⟩ := List.any_eq_true.1 h
  rw [decide_eq_true_eq] at e
  exact ⟨x.toNat, by omega, List.mem_map.2 ⟨r, hm, by rw [e]⟩⟩
theorem okT_near {R : List Rt} {L : List Lk} (h : okT R L = true) (x : Int) : ∀ y ∈ nbL L x, ∃ m : Nat, y = (m : Int) ∧ m ∈ idsN R := by
  obtain ⟨h1, h2⟩ := okT_ids h
  intro y hy
  obtain ⟨l, hl, h3⟩ := List.mem_flatMap.1 hy
  have := unk_not h2 l hl
  unfold nb1 at h3
  rw [List.mem_append] at h3
  rcases h3 with h3 | h3
  · split at h3
    · rw [List.mem_singleton] at h3; subst h3; exact idsN_of h1 this.1
    · cases h3
  · split at h3
    · rw [List.mem_singleton] at h3; subst h3; exact idsN_of h1 this.2
    · cases h3
theorem dfs_drop (L : List Lk) (k : Nat) (r : Int) (S : List Int) : ∃ U, (dfs L (k + 1) r S).drop S.length = r :: U := by
  obtain ⟨U, hU⟩ := fold_ext (dstep_ext L k (dfs_ext L k)) (nbL L r) (S ++ [r])
  refine ⟨U, ?_⟩
  rw [dfs_succ, hU, List.append_assoc, List.drop_left]
  rfl
theorem ids_all (l : List Nat) : l.countP (notS []) = l.length := by
  rw [List.countP_eq_length]
  intro a _
  rfl
/-- Behind join and Sort: what is held, and the sorted component. -/
theorem CM.sorted {w0 w w4 w5 : World} {t H d g cap : Nat} {vR vL va : Value} {R : List Rt} {L : List Lk} {Cs : List (List Int)} {S D C E : List Int} {vals : List Value} (h : CM w0 t H vR vL R L Cs S va (.slice none 0 0) vals w)
    (h4 : JS t H d vR vL L D (.slice (some ⟨g, 0, none⟩) C.length cap) w4) (k4 : JF H w (.slice none 0 0) w4 (.slice (some ⟨g, 0, none⟩) C.length cap)) (hE : SK w4 (H + 4) g cap C.length C E w5 ∧ toS E C.length) :
    CM w0 t H vR vL R L Cs D va (.slice (some ⟨g, 0, none⟩) C.length cap) vals w5 ∧ CC w5 (fun b => H + 4 ≤ b ∧ va.ownBlock ≠ some b) (.slice (some ⟨g, 0, none⟩) C.length cap) (srt C) := by
  obtain ⟨hE, hS⟩ := hE
  have hg4 := (hE.own.lt g rfl).1
  have sb : ∀ (b c : Nat), b ≠ c → some b ≠ some c := fun b c h e => h (Option.some.inj e)
  refine ⟨h.jf' (k4.sort hE.gr) (kept_row h4.comp hE.gr (sb _ _ (by omega))) (h4.seen.kept hE.gr (sb _ _ (by omega))) h4.fit, ?_⟩
  have e1 : E = srt C := srt_of hE.perm (by rw [hE.len]; exact hS)
  have e2 : (srt C).length = C.length := (srt_perm C).length_eq
  have hcap := own_cap hE.own
  unfold maxLen at hcap
  refine ⟨some ⟨g, 0, none⟩, cap, by rw [e2], ⟨some ⟨g, 0, none⟩, cap, by rw [List.length_map], fun _ => ⟨g, 0, rfl, ⟨hg4, fun e => ?_⟩, fun i x hi => ?_⟩⟩, by omega, by omega⟩
  · have h1 := (h.row.lt g e).2
    rcases k4.row with e3 | ⟨g', e3, h3⟩
    · cases e3
    · have : g = g' := Option.some.inj e3
      omega
  · rw [← e1] at hi
    have := hE.own.cells (g := g) rfl i x hi
    have hadd : (⟨g, 0, none⟩ : Addr).add i = ⟨g, 0 + i, none⟩ := by unfold Addr.add; split <;> simp_all
    rw [hadd] at this
    exact this
end Go.Proofs.Ytiencdgmnkphjaa

/- topology: Components, the walk. -/
namespace Go.Proofs.Ytiencdgmnkphjaa
open Go.RowKit Bs
/-- What returns lists of numbers that can be read. -/
def TCPost (Cs : List (List Int)) (w : World) (e : Ending) (w' : World) : Prop := ∃ p c vals, e = .returned (.slice p Cs.length c) ∧ Rd w' (w.heap.size ≤ ·) (.slice p Cs.length c) vals ∧ vals.length = Cs.length ∧ (Cs.length ≤ c ∧ c ≤ 9223372036854775807) ∧ (∀ (i : Nat) (C : List Int) (x : Value), Cs[i]? = some C → vals[i]? = some x → CC w' (w.heap.size ≤ ·) x C) ∧ w.grownBy w' none
set_option maxRecDepth 100000 in
theorem CM.start {w w1 wb : World} {R : List Rt} {L : List Lk} {pR pL : Option Addr} {cR cL H : Nat} (h1 : w1.heap[w.heap.size]? = some (.cells #[.slice pR R.length cR, .slice pL L.length cL] 26 (0, 0))) (hT : TgOk w1 (· < w.heap.size) ⟨R, L, pR, cR, pL, cL⟩) (hg : w.grownBy w1 none)
    (hb : wb.heap[H + 1]? = some (.cells #[.slice none 0 0] 22 (0, 0)) ∧ wb.heap[H + 2]? = some (.cells Try.zeroCells101 101 (0, 0)) ∧ wb.heap[H + 3]? = some (.cells #[.nilFunc] 102 (0, 0)) ∧ w1.grownBy wb none ∧ wb.heap.size = H + 4) (hH : w.heap.size ≤ H) :
    CM w w.heap.size H (.slice pR R.length cR) (.slice pL L.length cL) R L [] [] (.slice none 0 0) (.slice none 0 0) [] (wb.setCell ⟨H + 3, 0, none⟩ (jfn w.heap.size H)) := by
  obtain ⟨b1, b2, b3, b4, b5⟩ := hb
  have k := grown_setCell wb ⟨H + 3, 0, none⟩ (jfn w.heap.size H)
  have sb : ∀ (b c : Nat), b ≠ c → some b ≠ some c := fun b c h e => h (Option.some.inj e)
  refine ⟨kept_row (kept_row h1 b4 (by simp)) k (sb _ _ (by show w.heap.size ≠ H + 3; omega)), kept_row b1 k (sb _ _ (by show H + 1 ≠ H + 3; omega)), ?_, heap_setCell_same wb (H + 3) 0 _ _ _ b3, (hT.r.keep b4).grown k (fun b (hb : b < w.heap.size) => sb _ _ (by show b ≠ H + 3; omega)), (hT.l.keep b4).grown k (fun b (hb : b < w.heap.size) => sb _ _ (by show b ≠ H + 3; omega)), by have := k.size; omega, by decide, World.ownsRow_nil _ _ _ _, rfl, fun i C x h _ => by simp at h, grown_any (grown_trans hg b4) k (fun b hb => sb _ _ (by show b ≠ H + 3; omega)), Nat.le_refl _, hH⟩
  exact kept_row b2 k (sb _ _ (by show H + 2 ≠ H + 3; omega))
theorem CM.ret {w0 w : World} {t H : Nat} {vR vL va vc : Value} {R : List Rt} {L : List Lk} {Cs : List (List Int)} {S : List Int} {vals : List Value} (h : CM w0 t H vR vL R L Cs S va vc vals w) : TCPost Cs w0 (.returned va) w := by
  have ht0 := h.t0
  have htl := h.tle
  have hr := rd_of_own h.row
  have at2 : ∀ (i : Nat) (C : List Int) (x : Value), Cs[i]? = some C → vals[i]? = some x → CC w (w0.heap.size ≤ ·) x C := fun i C x h1 h2 => by
    obtain ⟨p, c, e, hr, hc⟩ := h.at_ i C x h1 h2
    exact ⟨p, c, e, hr.mono (fun b hb => by have := hb.1; show _ ≤ b; omega), hc⟩
  have hro := h.row
  have hl := h.len
  rw [hl] at hro
  rcases Joins.ownsRow_forms hro with ⟨e, e0⟩ | ⟨g, cap, e⟩
  · subst e
    have hn : Cs.length = 0 := by omega
    refine ⟨none, 0, vals, by rw [hn], ?_, hl, ⟨by omega, by omega⟩, at2, h.gr⟩
    have h2 := hr.mono (q' := (w0.heap.size ≤ ·)) (fun b hb => by show _ ≤ b; omega)
    rw [hn]
    exact h2
  · subst e
    have := own_cap hro
    unfold maxLen at this
    exact ⟨_, cap, vals, rfl, hr.mono (fun b hb => by show _ ≤ b; omega), hl, ⟨this.1, by omega⟩, at2, h.gr⟩
set_option maxRecDepth 100000 in
theorem info_ints2 : (Try.prog.info? 22).map (fun i => (i.zero, i.size, i.bytes)) = some (some (.slice none 0 0), 1, 24) := by kernel_rfl
set_option maxRecDepth 100000 in
set_option maxHeartbeats 6400000 in
theorem tcomps_any (T : Tg) (q : Nat → Prop) (w : World) (hT : TgOk w q T) (h12 : okT T.R T.L = true → T.R.length ≤ 12) :
    Calls Try.prog 37 #[.agg #[.slice T.pR T.R.length T.cR, .slice T.pL T.L.length T.cL]] w fun e w' => TCPost (comps T.R T.L) w e w' := by
  obtain ⟨ii, hii, hi0, hi1, hi2⟩ := info_parts info_ints2
  have e0 : EnterF (83) := enters_of Try.func83 (by kernel_rfl) rfl
  have hmf : ∀ (fn : Fn) (first cap : Array Value) (w : World), (Instr.makeFunc fn first cap).run Try.prog w = .ok (.func fn first cap) w := fun _ _ _ _ => rfl
  have hsf : ∀ (a : Addr) (fn : Fn) (first cap : Array Value) (m : Mode) (w : World), (store a (.func fn first cap) m).run Try.prog w = stored Try.prog w a (.func fn first cap) m := fun a fn first cap m w => run_store _ w a _ m rfl
  obtain ⟨R, L, pR, cR, pL, cL⟩ := T
  obtain ⟨k1, k2⟩ := tone_box w #[.slice pR R.length cR, .slice pL L.length cL] 26
  have S0 := Lib.hid (And.intro k1 (And.intro k2 (hT.old.keep k2)))
  have hmR := Nat.le_trans hT.cr.1 hT.cr.2
  have hsz0 : (w.alloc (.cells #[.slice pR R.length cR, .slice pL L.length cL] 26)).heap.size = w.heap.size + 1 := by simp
  simp only at h12 hmR ⊢
  clear hT k1 k2
  obtain ⟨Cr, hCr⟩ : ∃ Cr, comps R L = Cr := ⟨_, rfl⟩
  rw [hCr]
  have HCR := Lib.hid hCr
  clear hCr
  go_enter Try.func37, Try.ntmps37
  go_upto_region 1 with fail
  generalize w.alloc _ = wa at *
  obtain ⟨c0, c1⟩ := row_cells S0.out.1
  go_wp2_with fail
  refine (tvalid_any ⟨R, L, pR, cR, pL, cL⟩ _ wa S0.out.2.2).mono ?_
  rintro e w1 ⟨rfl, hg⟩
  simp only
  have S1 := Lib.hid (And.intro (kept_row S0.out.1 hg (by simp)) (And.intro (grown_trans S0.out.2.1 hg) (S0.out.2.2.keep hg)))
  have hsz1 : w.heap.size + 1 ≤ w1.heap.size := by have := hg.size; omega
  clear hg S0 c0 c1 hsz0
  cases hv : okT R L
  · obtain rfl : Cr = [] := by have := HCR.out; unfold comps at this; rw [hv] at this; exact this.symm
    go_wp2_with fail
    go_ret
    exact ⟨none, 0, [], rfl, ⟨none, 0, rfl, fun h => absurd rfl h⟩, rfl, ⟨Nat.le_refl _, by show 0 ≤ _; omega⟩, (fun i C x h1 _ => by simp at h1), S1.out.2.1⟩
  have HV := Lib.hid hv
  obtain ⟨h24, h60⟩ := okT_len hv
  replace h12 := h12 hv
  have HC2 : Hid ((compsF L R).1 = Cr) := Lib.hid (by have := HCR.out; unfold comps at this; rw [hv] at this; exact this)
  clear hv HCR
  go_upto_region 7 with fail
  obtain ⟨wb, hwb, b1, b2, b3, b4, b5⟩ := boxes3 w1 #[.slice none 0 0] Try.zeroCells101 #[.nilFunc] 22 101 102
  rw [← hwb]
  clear hwb
  obtain ⟨H, hH⟩ : ∃ H, w1.heap.size = H + 1 := ⟨w1.heap.size - 1, by omega⟩
  have hH2 : w1.heap.size + 1 = H + 2 := by omega
  have hH3 : w1.heap.size + 1 + 1 = H + 3 := by omega
  have hH4 : w1.heap.size + 2 = H + 3 := by omega
  rw [hH3, hH2, hH]
  rw [hH2] at b2
  rw [hH4] at b3
  rw [hH] at b1
  have HB := Lib.hid (And.intro b1 (And.intro b2 (And.intro b3 (And.intro b4 (show wb.heap.size = H + 4 by omega)))))
  have HH : w.heap.size ≤ H := by omega
  have c3 : wb.cell? ⟨H + 3, 0, none⟩ = some .nilFunc := by rw [cell_of_row _ _ _ _ _ _ b3]; rfl
  have f3 : wb.frozen? ⟨H + 3, 0, none⟩ = false := frozen_of_row _ _ _ _ _ b3
  clear b1 b2 b3 b4 b5 hH hH2 hH3 hH4 hsz1
  have M0 : Hid (CM w w.heap.size H (.slice pR R.length cR) (.slice pL L.length cL) R L (compsF L (R.take 0)).1 (compsF L (R.take 0)).2 (.slice none 0 0) (.slice none 0 0) [] (wb.setCell ⟨H + 3, 0, none⟩ (jfn w.heap.size H))) := Lib.hid (CM.start S1.out.1 S1.out.2.2 S1.out.2.1 HB.out HH)
  have F0 : Hid ((compsF L (R.take 0)).2.length + (idsN R).countP (notS (compsF L (R.take 0)).2) ≤ R.length) := Lib.hid (by
    show 0 + (idsN R).countP (notS []) ≤ _
    rw [ids_all]
    unfold idsN
    simp)
  go_upto_region 8 with fail
  clear c3 f3 HB S1
  generalize wb.setCell _ _ = w2 at *
  obtain ⟨c0, c1⟩ := row_cells M0.out.topo
  go_wp2_with fail
  go_loopw [3, 16] (fun va a wr => ∃ (k : Nat) (vals : List Value) (vc : Value), k ≤ R.length ∧ vals.length ≤ k ∧ a = .int .i64 (k : Int) ∧ Hid (CM w w.heap.size H (.slice pR R.length cR) (.slice pL L.length cL) R L (compsF L (R.take k)).1 (compsF L (R.take k)).2 va vc vals wr) ∧ Hid ((compsF L (R.take k)).2.length + (idsN R).countP (notS (compsF L (R.take k)).2) ≤ R.length)) (fun _ a _ => R.length - (intOf a).toNat)
  case atStart => exact ⟨0, [], .slice none 0 0, Nat.zero_le _, Nat.le_refl _, rfl, M0, F0⟩
  case round =>
    obtain ⟨k, vals, vc, hk, hvl, rfl, M, F⟩ := hrel
    clear M0 F0 c0 c1
    by_cases hlt : k < R.length
    · obtain ⟨hid, -⟩ := okT_ids HV.out
      obtain ⟨-, b, off, rfl, hq, hc⟩ := rdr_cells (R := R) M.out.rts (by omega)
      obtain ⟨x, hx⟩ : ∃ x, R[k]? = some x := ⟨_, List.getElem?_eq_getElem hlt⟩
      obtain ⟨n, hn, hn1, hn2⟩ := wr_at hid hx
      obtain ⟨a0, a1⟩ := hc k x hx
      have HM : Hid (n ∈ idsN R) := Lib.hid (List.mem_map.2 ⟨x, List.mem_of_getElem? hx, by rw [hn]; rfl⟩)
      have HK := Lib.hid (compsF_take (L := L) hx)
      rw [hn] at a0
      have HX := Lib.hid (And.intro hx hn)
      have gal := World.grownBy_alloc wr (.cells #[.int .i64 (n : Int), .bool x.cap] 73) none
      have M2 := Lib.hid (M.out.keep gal)
      have hbx := heap_alloc_new wr (.cells #[.int .i64 (n : Int), .bool x.cap] 73)
      have hwr := M.out.size
      clear hc hx hn hid gal M
      obtain ⟨S, hS⟩ : ∃ S, (compsF L (R.take k)).2 = S := ⟨_, rfl⟩
      obtain ⟨Cs, hCs⟩ : ∃ Cs, (compsF L (R.take k)).1 = Cs := ⟨_, rfl⟩
      rw [hS] at F M2
      rw [hCs] at M2
      have HSC := Lib.hid (And.intro hS hCs)
      clear hS hCs
      go_upto_region 11 with fail
      clear a0 a1
      generalize wr.alloc _ = wy at *
      obtain ⟨d0, d1⟩ := row_cells hbx
      have s0 := M2.out.seen.cell (sn_at (S := S) hn2)
      have n0 : (0 : Int) ≤ (n : Int) := by omega
      have n1 : (n : Int) < 100 := by omega
      cases hh : hasI S (n : Int)
      · rw [hh] at s0
        have HH2 := Lib.hid hh
        have c1 : wy.cell? ⟨H + 1, 0, none⟩ = some vc := by rw [cell_of_row _ _ _ _ _ _ M2.out.comp]; rfl
        have f1 := frozen_of_row wy (H + 1) 0 _ _ M2.out.comp
        obtain ⟨hJ0, hM3⟩ := M2.out.empty
        have J0 := Lib.hid hJ0
        have M3 := Lib.hid hM3
        have kz := grown_setCell wy ⟨H + 1, 0, none⟩ (.slice none 0 0)
        have HBX := Lib.hid (kept_row hbx kz (fun e => by have : wr.heap.size = H + 1 := Option.some.inj e; omega))
        clear hh hJ0 hM3 kz hbx M2
        go_upto_region 13 with fail
        clear c1 f1 d0 d1 s0
        generalize wy.setCell _ _ = wz at *
        obtain ⟨d0, d1⟩ := row_cells HBX.out
        have j0 : wz.cell? ⟨H + 3, 0, none⟩ = some (jfn w.heap.size H) := by rw [cell_of_row _ _ _ _ _ _ M3.out.jf]; rfl
        go_wp2_with fail
        refine (tjoin_any w.heap.size H S.length (.slice (some ⟨b, off, none⟩) R.length cR) L pL cL (okT_ends HV.out) (by omega) 100 S (.slice none 0 0) n wz J0.out (by have := J0.out.fit; omega) hn1 hn2 HH2.out).mono ?_
        rintro e w4 ⟨rfl, v4, h4, k4⟩
        obtain ⟨U, hU⟩ := dfs_drop L 99 (n : Int) S
        have hft := dfs_fit (idsN R) L R.length (okT_near HV.out) 100 n S HM.out HH2.out F.out
        obtain ⟨D, hD⟩ : ∃ D, dfs L 100 (n : Int) S = D := ⟨_, rfl⟩
        rw [show 99 + 1 = 100 from rfl, hD] at hU
        rw [hD] at h4 hft
        have hown4 := h4.own
        obtain ⟨C, hC⟩ : ∃ C, D.drop S.length = C := ⟨_, rfl⟩
        have hCl : C.length ≤ 12 := by rw [← hC, List.length_drop]; omega
        rw [hC] at hU hown4
        obtain ⟨g, cap, rfl, hg4, hg5⟩ := hown4.form (by rw [hU]; simp)
        have c4 : w4.cell? ⟨H + 1, 0, none⟩ = some (.slice (some ⟨g, 0, none⟩) C.length cap) := by rw [cell_of_row _ _ _ _ _ _ h4.comp]; rfl
        have HDC := Lib.hid (And.intro hD hC)
        have H4 := Lib.hid (And.intro hown4 (And.intro h4 (And.intro k4 hft)))
        clear hU hft hD hC hown4 h4 k4 d0 d1 j0 J0
        go_upto_region 15 with (go_at_call 84; refine (tsort_any (H + 4) g cap C.length C w4 H4.out.1 rfl hCl).mono ?_; rintro e w5 ⟨E, hE, rfl⟩; obtain ⟨hM5, hC5⟩ := M3.out.sorted H4.out.2.1 H4.out.2.2.1 hE.out; have c5 : w5.cell? ⟨H + 1, 0, none⟩ = some (.slice (some ⟨g, 0, none⟩) C.length cap) := (by rw [cell_of_row _ _ _ _ _ _ hM5.comp]; rfl); have M5 := Lib.hid (And.intro hM5 hC5); have hrow5 := hM5.row; have hsz5 := hM5.size; clear hM5 hC5 hE c4)
        go_wp2_with (at_builtin; refine wpList_append_lies _ rfl _ _ 60 rfl (H + 4) 22 ii (.slice none 0 0) 1 24 Try.underlying60 hii hi0 hi1 hi2 rfl (by decide) _ _ _ rfl (hrow5.alloc _) ⟨w5.heap.size, 0, none⟩ 1 1 [.slice (some ⟨g, 0, none⟩) C.length cap] rfl rfl ?c1 ?c2 (by decide) ?c3 ?c4 ?c5 _ rfl ?_)
        try (case c1 => exact cell_one _ _ _)
        case c2 => first | rfl | (intro u hu; simp at hu; subst hu; rfl)
        case c3 => first | omega | (unfold maxLen; omega)
        case c4 => omega
        case c5 => first | omega | (simp; omega)
        intro g6 cap6 w6 hown6 hg6 hat6 hlt6
        have M6 := Lib.hid (M5.out.1.app M5.out.2 hown6 hg6 (hat6.imp id fun e => by rw [e]; try simp))
        have HK2 : Hid (compsF L (R.take (k + 1)) = (Cs ++ [srt C], D)) := Lib.hid (by
          rw [HK.out]
          unfold cstep
          rw [HSC.out.1, HSC.out.2, HX.out.2, HH2.out, HDC.out.1, HDC.out.2]
          rfl)
        have hft := H4.out.2.2.2
        clear hown6 hg6 hat6 hlt6 M5 hrow5 hsz5 c5
        go_wp2_with fail
        refine ⟨⟨k + 1, vals ++ [.slice (some ⟨g, 0, none⟩) C.length cap], .slice (some ⟨g, 0, none⟩) C.length cap, by omega, by rw [List.length_append]; simp; omega, congrArg _ (by omega), Lib.hid ?_, Lib.hid ?_⟩, by simp only [intOf]; omega⟩
        · rw [HK2.out]
          exact M6.out
        · rw [HK2.out]
          exact hft
      · rw [hh] at s0
        have HH2 := Lib.hid hh
        have HK2 : Hid (compsF L (R.take (k + 1)) = (Cs, S)) := Lib.hid (by
          rw [HK.out]
          unfold cstep
          rw [HSC.out.1, HX.out.2, HH2.out, if_pos rfl, ← HSC.out.1, ← HSC.out.2])
        clear hh hbx
        go_wp2_with fail
        refine ⟨⟨k + 1, vals, vc, by omega, by omega, congrArg _ (by omega), Lib.hid ?_, Lib.hid ?_⟩, by simp only [intOf]; omega⟩
        · rw [HK2.out]
          exact M2.out
        · rw [HK2.out]
          exact F.out
    · obtain rfl : k = R.length := by omega
      go_wp2_with fail
      go_ret
      have hM := M.out
      rw [List.take_length, HC2.out] at hM
      exact hM.ret
end Go.Proofs.Ytiencdgmnkphjaa

/- Parts of the proof, packed: ToDfs, ToDfsK, ToDfsW, ToComp, ToComp2, ToUntil. -/
import Derived.Test.YtiencdgmnkphjaaLim9
import Derived.Deep.AppendLies
import Derived.Test.YtiencdgmnkphjaaLim6
import Derived.Deep.RegionHeld
import Derived.Test.YtiencdgmnkphjaaLim1
/- topology: what Components' join visits; what memory holds while it runs. -/
namespace Go.Proofs.Ytiencdgmnkphjaa
open Go.RowKit Bs
/-- The routers that are visited from r on, behind those that are visited already. -/
def dfs (L : List Lk) : Nat → Int → List Int → List Int
  | 0, _, S => S
  | k + 1, r, S => (nbL L r).foldl (fun S n => if hasI S n then S else dfs L k n S) (S ++ [r])
def dstep (L : List Lk) (k : Nat) (S : List Int) (n : Int) : List Int := if hasI S n then S else dfs L k n S
theorem dfs_succ (L : List Lk) (k : Nat) (r : Int) (S : List Int) : dfs L (k + 1) r S = (nbL L r).foldl (dstep L k) (S ++ [r]) := rfl
theorem dstep_ext (L : List Lk) (k : Nat) (h : ∀ r S, ∃ T, dfs L k r S = S ++ T) (S : List Int) (n : Int) : ∃ T, dstep L k S n = S ++ T := by
  unfold dstep
  split
  · exact ⟨[], by simp⟩
  · exact h n S
theorem fold_ext {f : List Int → Int → List Int} (h : ∀ S n, ∃ T, f S n = S ++ T) : ∀ (N : List Int) (S : List Int), ∃ T, N.foldl f S = S ++ T
  | [], S => ⟨[], by simp⟩
  | n :: N, S => by
    obtain ⟨T, hT⟩ := h S n
    obtain ⟨U, hU⟩ := fold_ext h N (f S n)
    exact ⟨T ++ U, by rw [List.foldl_cons, hU, hT, List.append_assoc]⟩
theorem dfs_ext (L : List Lk) : ∀ (k : Nat) (r : Int) (S : List Int), ∃ T, dfs L k r S = S ++ T
  | 0, _, S => ⟨[], by simp [dfs]⟩
  | k + 1, r, S => by
    obtain ⟨T, hT⟩ := fold_ext (dstep_ext L k (dfs_ext L k)) (nbL L r) (S ++ [r])
    exact ⟨[r] ++ T, by rw [dfs_succ, hT, List.append_assoc]⟩
theorem hasI_app (S T : List Int) (x : Int) : hasI (S ++ T) x = (hasI S x || hasI T x) := by
  unfold hasI
  rw [List.any_append]
/-- How many of the numbers are not visited. -/
def notS (S : List Int) (i : Nat) : Bool := !hasI S (i : Int)
def uns (S : List Int) : Nat := (List.range 100).countP (notS S)
theorem notS_app (S T : List Int) (i : Nat) (h : notS (S ++ T) i = true) : notS S i = true := by
  unfold notS at *
  rw [hasI_app] at h
  cases h1 : hasI S (i : Int)
  · rfl
  · rw [h1] at h; simp at h
theorem count_le {p q : Nat → Bool} (h : ∀ i, q i = true → p i = true) : ∀ l : List Nat, l.countP q ≤ l.countP p
  | [] => Nat.le_refl _
  | a :: l => by
    have h1 := count_le h l
    rw [List.countP_cons, List.countP_cons]
    have h2 := h a
    cases hq : q a
    · simp; omega
    · rw [h2 hq]; simp; omega
theorem count_lt {p q : Nat → Bool} (h : ∀ i, q i = true → p i = true) {n : Nat} (hp : p n = true) (hq : q n = false) : ∀ l : List Nat, n ∈ l → l.countP q + 1 ≤ l.countP p
  | [], hn => by cases hn
  | a :: l, hn => by
    rw [List.countP_cons, List.countP_cons]
    rcases List.mem_cons.1 hn with e | hn
    · subst e
      rw [hp, hq]
      have := count_le h l
      simp; omega
    · have h1 := count_lt h hp hq l hn
      have h2 := h a
      cases hqa : q a
      · simp; omega
      · rw [h2 hqa]; simp; omega
theorem uns_app (S T : List Int) : uns (S ++ T) ≤ uns S :=
  count_le (notS_app S T) _
theorem uns_snoc {S : List Int} {n : Nat} (hn : n < 100) (h : hasI S (n : Int) = false) : uns (S ++ [(n : Int)]) + 1 ≤ uns S :=
  count_lt (notS_app S [(n : Int)]) (n := n) (by unfold notS; rw [h]; rfl) (by unfold notS; rw [hasI_app]; unfold hasI; simp) _ (by simpa using hn)
theorem uns_pos {S : List Int} {n : Nat} (hn : n < 100) (h : hasI S (n : Int) = false) : 0 < uns S := by
  have := uns_snoc hn h
  omega
/-- The cells that note who is visited. -/
def sn (S : List Int) : List Value := (List.range 100).map fun i : Nat => .bool (hasI S (i : Int))
theorem sn_at {S : List Int} {i : Nat} (hi : i < 100) : (sn S)[i]? = some (.bool (hasI S (i : Int))) := by
  unfold sn
  rw [List.getElem?_map, List.getElem?_eq_getElem (by simpa using hi), List.getElem_range]; rfl
theorem sn_snoc {S : List Int} {n : Nat} (hn : n < 100) : (sn S).set n (.bool true) = sn (S ++ [(n : Int)]) := by
  apply List.ext_getElem?
  intro i
  rw [List.getElem?_set]
  have hl : (sn S).length = 100 := by unfold sn; simp
  by_cases hi : i < 100
  · rw [sn_at hi, sn_at hi, hasI_app]
    have h1 : hasI [(n : Int)] (i : Int) = decide ((n : Int) = (i : Int)) := by unfold hasI; simp
    rw [h1]
    by_cases e : n = i
    · subst e
      rw [if_pos rfl, if_pos (by omega), decide_eq_true rfl, Bool.or_true]
    · rw [if_neg e]
      have : decide ((n : Int) = (i : Int)) = false := decide_eq_false (by omega)
      rw [this, Bool.or_false]
  · have e1 : (sn (S ++ [(n : Int)]))[i]? = none := List.getElem?_eq_none (by unfold sn; simp; omega)
    have e2 : (sn S)[i]? = none := List.getElem?_eq_none (by omega)
    rw [e1, e2, if_neg (by omega)]
/-- What a world keeps of another while a component grows: block H+1 is the component's slot, H+2 the array. -/
structure JF (H : Nat) (w : World) (vc : Value) (w' : World) (vc' : Value) : Prop where
  os : w'.os = w.os
  tape : w'.tape = w.tape
  output : w'.output = w.output
  size : w.heap.size ≤ w'.heap.size
  block : ∀ b, b < w.heap.size → b ≠ H + 1 → b ≠ H + 2 → vc.ownBlock ≠ some b → w'.heap[b]? = w.heap[b]?
  row : vc'.ownBlock = vc.ownBlock ∨ ∃ g, vc'.ownBlock = some g ∧ w.heap.size ≤ g
theorem JF.refl (H : Nat) (w : World) (vc : Value) : JF H w vc w vc := ⟨rfl, rfl, rfl, Nat.le_refl _, fun _ _ _ _ _ => rfl, .inl rfl⟩
theorem JF.trans {H : Nat} {w w1 w2 : World} {v v1 v2 : Value} (h : JF H w v w1 v1) (k : JF H w1 v1 w2 v2) : JF H w v w2 v2 := by
  refine ⟨k.os.trans h.os, k.tape.trans h.tape, k.output.trans h.output, Nat.le_trans h.size k.size, fun b hb h1 h2 h3 => ?_, ?_⟩
  · refine (k.block b (Nat.lt_of_lt_of_le hb h.size) h1 h2 (fun e => ?_)).trans (h.block b hb h1 h2 h3)
    rcases h.row with hr | ⟨g, hr, hg⟩
    · exact h3 (hr ▸ e)
    · rw [hr] at e
      have := Option.some.inj e
      omega
  · rcases k.row with hr | ⟨g, hr, hg⟩
    · rw [hr]; exact h.row
    · exact .inr ⟨g, hr, Nat.le_trans h.size hg⟩
theorem JF.grown {H : Nat} {w w1 : World} (v : Value) (g : w.grownBy w1 none) : JF H w v w1 v := ⟨g.os, g.tape, g.output, g.size, fun b hb _ _ _ => g.block b hb (by simp), .inl rfl⟩
theorem JF.to {H : Nat} {w w1 : World} {v v1 : Value} (h : JF H w v w1 v1) (w0 : World) (g : w0.grownBy w none) (h0 : w0.heap.size ≤ H) (hv : ∀ g, v.ownBlock = some g → H ≤ g) : w0.grownBy w1 none :=
  ⟨h.os.trans g.os, h.tape.trans g.tape, h.output.trans g.output, Nat.le_trans g.size h.size, fun b hb _ => (h.block b (Nat.lt_of_lt_of_le hb g.size) (by omega) (by omega) (fun e => by have := hv b e; omega)).trans (g.block b hb (by simp))⟩
theorem Rd.jf {H : Nat} {w w1 : World} {v v1 x : Value} {q : Nat → Prop} {vs : List Value} (hr : Rd w q x vs) (h : JF H w v w1 v1) (hq : ∀ b, q b → b < w.heap.size → b ≠ H + 1 ∧ b ≠ H + 2 ∧ v.ownBlock ≠ some b) : Rd w1 q x vs := by
  obtain ⟨p, c, hv, hc⟩ := hr
  refine ⟨p, c, hv, fun hne => ?_⟩
  obtain ⟨b, off, hp, hb, hx⟩ := hc hne
  refine ⟨b, off, hp, hb, fun i x hi => ?_⟩
  have hcell := hx i x hi
  have hlt : b < w.heap.size := by
    rcases Nat.lt_or_ge b w.heap.size with h1 | h1
    · exact h1
    · unfold World.cell? at hcell
      rw [Array.getElem?_eq_none h1] at hcell
      cases hcell
  obtain ⟨h1, h2, h3⟩ := hq b hb hlt
  rw [World.cell?_of_block (h.block b hlt h1 h2 h3)]
  exact hcell
theorem RdF.jf {H : Nat} {w w1 : World} {v v1 x : Value} {q : Nat → Prop} {n : Nat} {vs : List Value} (hr : RdF w q x n vs) (h : JF H w v w1 v1) (hq : ∀ b, q b → b < w.heap.size → b ≠ H + 1 ∧ b ≠ H + 2 ∧ v.ownBlock ≠ some b) : RdF w1 q x n vs := by
  obtain ⟨p, c, hv, hc⟩ := hr
  refine ⟨p, c, hv, fun hne => ?_⟩
  obtain ⟨b, off, hp, hb, hx⟩ := hc hne
  refine ⟨b, off, hp, hb, fun i x hi => ?_⟩
  have hcell := hx i x hi
  have hlt : b < w.heap.size := by
    rcases Nat.lt_or_ge b w.heap.size with h1 | h1
    · exact h1
    · unfold World.cell? at hcell
      rw [Array.getElem?_eq_none h1] at hcell
      cases hcell
  obtain ⟨h1, h2, h3⟩ := hq b hb hlt
  rw [World.cell?_of_block (h.block b hlt h1 h2 h3)]
  exact hcell
abbrev pt (b : Nat) : Value := .pointer (some ⟨b, 0, none⟩)
abbrev jfn (t H : Nat) : Value := .func (.func (83)) #[] #[pt (H + 2), pt (H + 1), pt t, pt (H + 3)]
/-- While the components are found: S is visited, from place d on the component at hand. -/
structure JS (t H d : Nat) (vR vL : Value) (L : List Lk) (S : List Int) (vc : Value) (w : World) : Prop where
  topo : w.heap[t]? = some (.cells #[vR, vL] 26 (0, 0))
  comp : w.heap[H + 1]? = some (.cells #[vc] 22 (0, 0))
  seen : TRow w (H + 2) 101 (sn S)
  jf : w.heap[H + 3]? = some (.cells #[jfn t H] 102 (0, 0))
  own : w.ownsRow (H + 4) 3 1 vc (S.drop d).length ((S.drop d).map tv)
  lnk : RdL5 w (· < H) vL L
  size : H + 4 ≤ w.heap.size
  fit : S.length + uns S ≤ 100
  d : d ≤ S.length
  tle : t ≤ H
end Go.Proofs.Ytiencdgmnkphjaa

/- topology: what memory keeps while a component grows. -/
namespace Go.Proofs.Ytiencdgmnkphjaa
open Go.RowKit Bs
theorem JS.vc {t H d : Nat} {vR vL vc : Value} {L : List Lk} {S : List Int} {w : World} (h : JS t H d vR vL L S vc w) : ∀ b, vc.ownBlock = some b → H + 4 ≤ b ∧ b < w.heap.size := h.own.lt
theorem JS.keep {t H d : Nat} {vR vL vc : Value} {L : List Lk} {S : List Int} {w w' : World} (h : JS t H d vR vL L S vc w) (g : w.grownBy w' none) : JS t H d vR vL L S vc w' :=
  ⟨kept_row h.topo g (by simp), kept_row h.comp g (by simp), h.seen.kept g (by simp), kept_row h.jf g (by simp), h.own.kept g (by cases hv : vc.ownBlock <;> simp), h.lnk.keep g, Nat.le_trans h.size g.size, h.fit, h.d, h.tle⟩
theorem JS.comp1 {t H d : Nat} {vR vL vc : Value} {L : List Lk} {S : List Int} {w w1 : World} {n : Nat} {u : Value} {o : Obj} (h : JS t H d vR vL L S vc w) (hg : ((w.setCell ⟨H + 2, n, none⟩ u).alloc o).grownBy w1 vc.ownBlock) :
    w1.heap[H + 1]? = some (.cells #[vc] 22 (0, 0)) := by
  have k1 := grown_setCell w ⟨H + 2, n, none⟩ u
  have k2 := World.grownBy_alloc (w.setCell ⟨H + 2, n, none⟩ u) o none
  refine kept_row (kept_row (kept_row h.comp k1 (fun e => ?_)) k2 (by simp)) hg (fun e => ?_)
  · have : H + 1 = H + 2 := Option.some.inj e
    omega
  · have := (h.vc _ e.symm).1
    omega
theorem JS.add {t H d : Nat} {vR vL vc : Value} {L : List Lk} {S : List Int} {w w1 : World} {n g cap : Nat} {o : Obj} (h : JS t H d vR vL L S vc w) (hn : n < 100) (hu : hasI S (n : Int) = false)
    (hown : w1.ownsRow (H + 4) 3 1 (.slice (some ⟨g, 0, none⟩) ((S.drop d).length + 1) cap) ((S.drop d).length + 1) ((S.drop d).map tv ++ [.int .i64 (n : Int)]))
    (hg : ((w.setCell ⟨H + 2, n, none⟩ (.bool true)).alloc o).grownBy w1 vc.ownBlock)
    (hat : vc.ownBlock = some g ∨ g = ((w.setCell ⟨H + 2, n, none⟩ (.bool true)).alloc o).heap.size) :
    JS t H d vR vL L (S ++ [(n : Int)]) (.slice (some ⟨g, 0, none⟩) ((S.drop d).length + 1) cap) (w1.setCell ⟨H + 1, 0, none⟩ (.slice (some ⟨g, 0, none⟩) ((S.drop d).length + 1) cap)) ∧
    JF H w vc (w1.setCell ⟨H + 1, 0, none⟩ (.slice (some ⟨g, 0, none⟩) ((S.drop d).length + 1) cap)) (.slice (some ⟨g, 0, none⟩) ((S.drop d).length + 1) cap) := by
  have c1 := h.comp1 hg
  have htl := h.tle
  obtain ⟨v', hv'⟩ : ∃ v', Value.slice (some ⟨g, 0, none⟩) ((S.drop d).length + 1) cap = v' := ⟨_, rfl⟩
  have ho' : v'.ownBlock = some g := by rw [← hv']; rfl
  rw [hv'] at hown ⊢
  have k1 := grown_setCell w ⟨H + 2, n, none⟩ (.bool true)
  have k2 := World.grownBy_alloc (w.setCell ⟨H + 2, n, none⟩ (.bool true)) o none
  have k4 := grown_setCell w1 ⟨H + 1, 0, none⟩ v'
  have hs1 := k1.size
  have hs2 := k2.size
  have hs3 := hg.size
  have hs4 := k4.size
  have hne : ∀ b, b < H + 4 → some b ≠ vc.ownBlock := fun b hb e => by
    have := (h.vc b e.symm).1
    omega
  have hgb := (hown.lt g ho').1
  have sb : ∀ (b c : Nat), b ≠ c → some b ≠ some c := fun b c h e => h (Option.some.inj e)
  have F : JF H w vc (w1.setCell ⟨H + 1, 0, none⟩ v') v' := by
    refine ⟨?_, ?_, ?_, by omega, fun b hb h1 h2 h3 => ?_, ?_⟩
    · exact k4.os.trans (hg.os.trans (k2.os.trans k1.os))
    · exact k4.tape.trans (hg.tape.trans (k2.tape.trans k1.tape))
    · exact k4.output.trans (hg.output.trans (k2.output.trans k1.output))
    · exact (k4.block b (by omega) (sb _ _ h1)).trans ((hg.block b (by omega) (fun e => h3 e.symm)).trans ((k2.block b (by omega) (by simp)).trans (k1.block b hb (sb _ _ h2))))
    · rcases hat with e | e
      · exact .inl (ho'.trans e.symm)
      · exact .inr ⟨g, ho', by omega⟩
  refine ⟨⟨?_, ?_, ?_, ?_, ?_, ?_, ?_, ?_, ?_, htl⟩, F⟩
  · exact kept_row (kept_row (kept_row (kept_row h.topo k1 (sb _ _ (by show t ≠ H + 2; omega))) k2 (by simp)) hg (hne _ (by omega))) k4 (sb _ _ (by show t ≠ H + 1; omega))
  · have := heap_setCell_same w1 (H + 1) 0 _ _ v' c1
    exact this
  · have h0 := h.seen.set n (.bool true)
    rw [sn_snoc hn] at h0
    exact ((h0.kept k2 (by simp)).kept hg (hne _ (by omega))).kept k4 (sb _ _ (by show H + 2 ≠ H + 1; omega))
  · exact kept_row (kept_row (kept_row (kept_row h.jf k1 (sb _ _ (by show H + 3 ≠ H + 2; omega))) k2 (by simp)) hg (hne _ (by omega))) k4 (sb _ _ (by show H + 3 ≠ H + 1; omega))
  · have e1 : (S ++ [(n : Int)]).drop d = S.drop d ++ [(n : Int)] := List.drop_append_of_le_length h.d
    rw [e1, List.length_append, List.map_append]
    exact hown.kept k4 (.inr (by rw [ho']; exact sb _ _ (by show g ≠ H + 1; omega)))
  · exact RdF.jf h.lnk F (fun b hb _ => ⟨by omega, by omega, fun e => hne b (by omega) e.symm⟩)
  · have := h.size
    omega
  · have h1 := uns_snoc hn hu
    have h2 := h.fit
    rw [List.length_append]
    simp only [List.length_cons, List.length_nil]
    omega
  · have := h.d
    rw [List.length_append]
    omega
theorem nbL_range {L : List Lk} (hL : ∀ l ∈ L, (1 ≤ l.a ∧ l.a ≤ 99) ∧ 1 ≤ l.b ∧ l.b ≤ 99) (x : Int) : ∀ y ∈ nbL L x, 1 ≤ y ∧ y ≤ 99 := by
  intro y hy
  obtain ⟨l, hl, h1⟩ := List.mem_flatMap.1 hy
  have := hL l hl
  unfold nb1 at h1
  rw [List.mem_append] at h1
  rcases h1 with h1 | h1
  · split at h1
    · rw [List.mem_singleton] at h1; subst h1; exact this.1
    · cases h1
  · split at h1
    · rw [List.mem_singleton] at h1; subst h1; exact this.2
    · cases h1
theorem fold_take {f : List Int → Int → List Int} {N : List Int} {j : Nat} {y : Int} (S : List Int) (h : N[j]? = some y) : (N.take (j + 1)).foldl f S = f ((N.take j).foldl f S) y := by
  rw [List.take_add_one, h, List.foldl_append]
  rfl
end Go.Proofs.Ytiencdgmnkphjaa

/- topology: join, the closure of Components. -/
namespace Go.Proofs.Ytiencdgmnkphjaa
open Go.RowKit Bs
def wa0c (w : World) (H n : Nat) (vc : Value) : Prop := (w.setCell ⟨H + 2, n, none⟩ (.bool true)).cell? ⟨H + 1, 0, none⟩ = some vc
def wa0f (w : World) (H n : Nat) : Prop := (w.setCell ⟨H + 2, n, none⟩ (.bool true)).frozen? ⟨H + 1, 0, none⟩ = false
set_option maxRecDepth 100000 in
set_option maxHeartbeats 6400000 in
theorem tjoin_any (t H d : Nat) (vR : Value) (L : List Lk) (pL : Option Addr) (cL : Nat) (hL : ∀ l ∈ L, (1 ≤ l.a ∧ l.a ≤ 99) ∧ 1 ≤ l.b ∧ l.b ≤ 99) (hm : L.length ≤ 1000) : ∀ (k : Nat) (S : List Int) (vc : Value) (n : Nat) (w : World), JS t H d vR (.slice pL L.length cL) L S vc w → uns S ≤ k → 1 ≤ n → n < 100 → hasI S (n : Int) = false →
    Calls Try.prog 83 #[.int .i64 (n : Int), pt (H + 2), pt (H + 1), pt t, pt (H + 3)] w fun e w' => e = .returned (.tuple #[]) ∧ ∃ v', JS t H d vR (.slice pL L.length cL) L (dfs L k (n : Int) S) v' w' ∧ JF H w vc w' v' := by
  intro k
  induction k with
  | zero =>
    intro S vc n w h hk h1 h2 hu
    have := uns_pos h2 hu
    omega
  | succ k ih =>
    intro S vc n w h hk h1 h2 hu
    obtain ⟨i0, hi, hz0, hz1, hz2⟩ := info_parts info_int
    have e0 : EnterF (83) := enters_of Try.func83 (by kernel_rfl) rfl
    have IH := Lib.hid ih
    have HJ := Lib.hid h
    have HU := Lib.hid hu
    have c2 := h.seen.cell (sn_at (S := S) h2)
    have f2 := h.seen.frozen n
    have n0 : (0 : Int) ≤ (n : Int) := by omega
    have n1 : (n : Int) < 100 := by omega
    have HK : Hid (uns (S ++ [(n : Int)]) ≤ k) := Lib.hid (by have := uns_snoc h2 hu; omega)
    have HN := Lib.hid (nbL_range hL (n : Int))
    have hfit := h.fit
    have hlen : (S.drop d).length ≤ 100 := by rw [List.length_drop]; omega
    have hsz := h.size
    have hown0 := h.own
    obtain ⟨C, hC⟩ : ∃ C, S.drop d = C := ⟨_, rfl⟩
    rw [hC] at hlen hown0
    have HC := Lib.hid hC
    clear ih h hk hu hC hfit
    go_enter Try.func83, Try.ntmps83
    go_upto_region 1 with fail
    have k1 := grown_setCell w ⟨H + 2, n, none⟩ (.bool true)
    have hcb : (w.setCell ⟨H + 2, n, none⟩ (.bool true)).heap[H + 1]? = some (.cells #[vc] 22 (0, 0)) := kept_row HJ.out.comp k1 (fun e => by have : H + 1 = H + 2 := Option.some.inj e; omega)
    have hown1 := hown0.kept k1 (by
      cases hv : vc.ownBlock with
      | none => exact .inl rfl
      | some b =>
        have := (HJ.out.vc b hv).1
        exact .inr (fun e => by have : b = H + 2 := Option.some.inj e; omega))
    have hsz1 := k1.size
    obtain ⟨c1, f1⟩ : wa0c w H n vc ∧ wa0f w H n := ⟨by unfold wa0c; rw [cell_of_row _ _ _ _ _ _ hcb]; rfl, frozen_of_row _ _ _ _ _ hcb⟩
    unfold wa0c at c1
    unfold wa0f at f1
    generalize hwa : w.setCell ⟨H + 2, n, none⟩ (.bool true) = wa at *
    have HWA := Lib.hid hwa
    clear hwa k1 hown0 c2 f2 hcb
    go_wp2_with (at_builtin; refine wpList_append_lies _ rfl _ _ 22 rfl (H + 4) 3 i0 (.int .i64 0) 1 8 Try.underlying22 hi hz0 hz1 hz2 rfl (by decide) _ _ _ rfl (hown1.alloc _) ⟨wa.heap.size, 0, none⟩ 1 1 [.int .i64 (n : Int)] rfl rfl ?c1 ?c2 (by decide) ?c3 ?c4 ?c5 _ rfl ?_)
    try (case c1 => exact cell_one _ _ _)
    case c2 => first | rfl | (intro u hu; simp at hu; subst hu; rfl)
    case c3 => first | omega | (unfold maxLen; omega)
    case c4 => omega
    case c5 => first | omega | (simp; omega)
    intro g cap w1 hown' hg hat hlt
    obtain ⟨c1', f1'⟩ : w1.cell? ⟨H + 1, 0, none⟩ = some vc ∧ w1.frozen? ⟨H + 1, 0, none⟩ = false := by
      have h0 := HWA.out
      subst h0
      have hb := HJ.out.comp1 hg
      exact ⟨by rw [cell_of_row _ _ _ _ _ _ hb]; rfl, frozen_of_row _ _ _ _ _ hb⟩
    have HA : Hid (JS t H d vR (.slice pL L.length cL) L (S ++ [(n : Int)]) (.slice (some ⟨g, 0, none⟩) (C.length + 1) cap) (w1.setCell ⟨H + 1, 0, none⟩ (.slice (some ⟨g, 0, none⟩) (C.length + 1) cap)) ∧
        JF H w vc (w1.setCell ⟨H + 1, 0, none⟩ (.slice (some ⟨g, 0, none⟩) (C.length + 1) cap)) (.slice (some ⟨g, 0, none⟩) (C.length + 1) cap)) := by
      have h0 := HWA.out
      have hc := HC.out
      subst h0
      subst hc
      exact Lib.hid (HJ.out.add h2 HU.out hown' hg (hat.imp id fun e => by rw [e]; simp))
    clear hown' hg hat hlt hown1 hsz1 c1 f1 HWA
    go_upto_region 2 with fail
    generalize w1.setCell _ _ = w2 at *
    generalize Value.slice (some ⟨g, 0, none⟩) (C.length + 1) cap = v2 at *
    obtain ⟨t0, t1⟩ := row_cells HA.out.1.topo
    have HL := Lib.hid HA.out.1.lnk
    clear c1' f1' hlen HC
    obtain ⟨N, hNe⟩ : ∃ N, nbL L (n : Int) = N := ⟨_, rfl⟩
    have HNE := Lib.hid hNe
    clear hNe
    go_wp2_with (go_at_call 70; refine (tnear_any L (n : Int) pL cL (· < H) _ HL.out hm).mono ?_; rw [HNE.out]; rintro e w3 ⟨pN, cN, rfl, hrd, hcN, hpN, hg3⟩; have HR3 := Lib.hid (And.intro hrd hg3); clear hrd hpN hg3; (try obtain ⟨hcN0, hcN1⟩ := hcN))
    have HJ2 := Lib.hid HA.out.1
    have HF2 := Lib.hid HA.out.2
    have hNl : N.length ≤ 9223372036854775807 := by omega
    clear HA t0 t1 HL hsz
    have J0 : Hid (JS t H d vR (.slice pL L.length cL) L (S ++ [(n : Int)]) v2 w3 ∧ JF H w3 v2 w3 v2) := Lib.hid ⟨HJ2.out.keep HR3.out.2, JF.refl _ _ _⟩
    have HN2 : Hid (∀ y ∈ N, 1 ≤ y ∧ y ≤ 99) := Lib.hid (by rw [← HNE.out]; exact HN.out)
    go_loopw [19] (fun a wr => ∃ (j : Nat) (T : List Int) (v' : Value), j ≤ N.length ∧ a = .int .i64 (j : Int) ∧ Hid (JS t H d vR (.slice pL L.length cL) L T v' wr ∧ JF H w3 v2 wr v') ∧ Hid (T = (N.take j).foldl (dstep L k) (S ++ [(n : Int)]) ∧ uns T ≤ k)) (fun a _ => N.length - (intOf a).toNat)
    case atStart => exact ⟨0, S ++ [(n : Int)], v2, Nat.zero_le _, rfl, J0, Lib.hid ⟨rfl, HK.out⟩⟩
    case round =>
      obtain ⟨j, T, v', hj, rfl, J, HT⟩ := hrel
      clear J0
      by_cases hlt : j < N.length
      · have hNr : Rd wr (fun x => w2.heap.size ≤ x) (.slice pN N.length cN) (N.map tv) := Rd.jf HR3.out.1 J.out.2 (fun b hb _ => by
          have := HJ2.out.size
          refine ⟨by omega, by omega, fun e => ?_⟩
          have := (HJ2.out.vc b e).2
          omega)
        obtain ⟨-, b, off, rfl, hq, hc⟩ := rdi_at hNr (by omega)
        obtain ⟨y, hy⟩ : ∃ y, N[j]? = some y := ⟨_, List.getElem?_eq_getElem hlt⟩
        have hyr := HN2.out y (List.mem_of_getElem? hy)
        obtain ⟨m, rfl⟩ : ∃ m : Nat, y = (m : Int) := ⟨y.toNat, by omega⟩
        have m2 : m < 100 := by omega
        have m1 : 1 ≤ m := by omega
        have a0 := hc j _ hy
        have s0 := J.out.1.seen.cell (sn_at (S := T) m2)
        have jf0 : wr.cell? ⟨H + 3, 0, none⟩ = some (jfn t H) := by rw [cell_of_row _ _ _ _ _ _ J.out.1.jf]; rfl
        have i0' : (0 : Int) ≤ (m : Int) := by omega
        have i1' : (m : Int) < 100 := by omega
        have HY := Lib.hid hy
        clear hc hy hyr hNr
        cases hh : hasI T (m : Int)
        · rw [hh] at s0
          have HH := Lib.hid hh
          have hcall := IH.out T v' m wr J.out.1 HT.out.2 m1 m2 HH.out
          clear hh
          go_wp2_with fail
          refine hcall.mono ?_
          rintro e w4 ⟨rfl, v4, h4, k4⟩
          have H4 := Lib.hid (And.intro h4 (J.out.2.trans k4))
          clear h4 k4 hcall
          go_wp2_with fail
          refine ⟨⟨j + 1, _, v4, by omega, congrArg _ (by omega), H4, Lib.hid ⟨?_, ?_⟩⟩, by simp only [intOf]; omega⟩
          · rw [fold_take _ HY.out, ← HT.out.1]
            unfold dstep
            rw [HH.out]
            rfl
          · obtain ⟨U, hU⟩ := dfs_ext L k (m : Int) T
            rw [hU]
            exact Nat.le_trans (uns_app T U) HT.out.2
        · rw [hh] at s0
          have HH := Lib.hid hh
          clear hh
          go_wp2_with fail
          refine ⟨⟨j + 1, T, v', by omega, congrArg _ (by omega), J, Lib.hid ⟨?_, HT.out.2⟩⟩, by simp only [intOf]; omega⟩
          rw [fold_take _ HY.out, ← HT.out.1]
          unfold dstep
          rw [HH.out]
          rfl
      · obtain rfl : j = N.length := by omega
        go_wp2_with fail
        have hT := HT.out.1
        rw [List.take_length] at hT
        refine bodyPost_end (results_none rfl _ _ _) rfl ⟨rfl, v', ?_, HF2.out.trans ((JF.grown v2 HR3.out.2).trans J.out.2)⟩
        rw [dfs_succ, HNE.out, ← hT]
        exact J.out.1
end Go.Proofs.Ytiencdgmnkphjaa

/- topology: Components: the mathematics; what memory holds while it runs. -/
namespace Go.Proofs.Ytiencdgmnkphjaa
open Go.RowKit Bs
def cstep (L : List Lk) (st : List (List Int) × List Int) (r : Rt) : List (List Int) × List Int :=
  if hasI st.2 r.id then st else (st.1 ++ [srt ((dfs L 100 r.id st.2).drop st.2.length)], dfs L 100 r.id st.2)
def compsF (L : List Lk) (R : List Rt) : List (List Int) × List Int := R.foldl (cstep L) ([], [])
/-- The components. -/
def comps (R : List Rt) (L : List Lk) : List (List Int) := if okT R L then (compsF L R).1 else []
theorem compsF_take {L : List Lk} {R : List Rt} {k : Nat} {r : Rt} (h : R[k]? = some r) : compsF L (R.take (k + 1)) = cstep L (compsF L (R.take k)) r := by
  unfold compsF
  rw [List.take_add_one, h, List.foldl_append]
  rfl
theorem ids_snoc {l : List Nat} {S : List Int} {n : Nat} (hn : n ∈ l) (h : hasI S (n : Int) = false) : l.countP (notS (S ++ [(n : Int)])) + 1 ≤ l.countP (notS S) :=
  count_lt (notS_app S [(n : Int)]) (n := n) (by unfold notS; rw [h]; rfl) (by unfold notS; rw [hasI_app]; unfold hasI; simp) _ hn
theorem dfs_fit (l : List Nat) (L : List Lk) (B : Nat) (hN : ∀ x, ∀ y ∈ nbL L x, ∃ m : Nat, y = (m : Int) ∧ m ∈ l) : ∀ (k n : Nat) (S : List Int), n ∈ l → hasI S (n : Int) = false → S.length + l.countP (notS S) ≤ B → (dfs L k (n : Int) S).length + l.countP (notS (dfs L k (n : Int) S)) ≤ B := by
  intro k
  induction k with
  | zero => intro n S _ _ h; exact h
  | succ k ih =>
    intro n S hn hu h
    have fold : ∀ (N : List Int) (T : List Int), (∀ y ∈ N, ∃ m : Nat, y = (m : Int) ∧ m ∈ l) → T.length + l.countP (notS T) ≤ B → (N.foldl (dstep L k) T).length + l.countP (notS (N.foldl (dstep L k) T)) ≤ B := by
      intro N
      induction N with
      | nil => intro T _ h; exact h
      | cons y N ihN =>
        intro T hy h
        rw [List.foldl_cons]
        refine ihN _ (fun z hz => hy z (List.mem_cons_of_mem _ hz)) ?_
        unfold dstep
        split
        · exact h
        · rename_i hh
          obtain ⟨m, rfl, hm⟩ := hy y List.mem_cons_self
          exact ih m T hm (by simpa using hh) h
    rw [dfs_succ]
    refine fold _ _ (hN _) ?_
    have := ids_snoc hn hu
    rw [List.length_append]
    simp only [List.length_cons, List.length_nil]
    omega
theorem Rd.lt {w : World} {q : Nat → Prop} {v : Value} {vs : List Value} (h : Rd w q v vs) : Rd w (fun b => q b ∧ b < w.heap.size) v vs := by
  obtain ⟨p, c, hv, hc⟩ := h
  refine ⟨p, c, hv, fun hne => ?_⟩
  obtain ⟨b, off, hp, hb, hx⟩ := hc hne
  refine ⟨b, off, hp, ⟨hb, ?_⟩, hx⟩
  cases vs with
  | nil => exact absurd rfl hne
  | cons x vs =>
    have hcell := hx 0 x rfl
    rcases Nat.lt_or_ge b w.heap.size with h1 | h1
    · exact h1
    · unfold World.cell? at hcell
      rw [Array.getElem?_eq_none h1] at hcell
      cases hcell
theorem own_jf {H : Nat} {w w' : World} {v v1 x : Value} {base size n : Nat} {e : TypeId} {xs : List Value} (h : w.ownsRow base e size x n xs) (k : JF H w v w' v1) (hb : ∀ b, x.ownBlock = some b → b ≠ H + 1 ∧ b ≠ H + 2 ∧ v.ownBlock ≠ some b) : w'.ownsRow base e size x n xs := by
  have hl := h.lt
  rcases h.2 with h0 | ⟨g, cap, cur, rfl, hbg, hg, hrest⟩
  · exact ⟨h.1, .inl h0⟩
  · obtain ⟨h1, h2, h3⟩ := hb g rfl
    exact ⟨h.1, .inr ⟨g, cap, cur, rfl, hbg, (k.block g (hl g rfl).2 h1 h2 h3).trans hg, hrest⟩⟩
theorem JF.sort {H : Nat} {w w1 w2 : World} {g n c : Nat} (h : JF H w (.slice none 0 0) w1 (.slice (some ⟨g, 0, none⟩) n c)) (k : w1.grownBy w2 (some g)) : JF H w (.slice none 0 0) w2 (.slice (some ⟨g, 0, none⟩) n c) := by
  have hg : w.heap.size ≤ g := by
    rcases h.row with e | ⟨g', e, hg⟩
    · cases e
    · have : g = g' := Option.some.inj e
      omega
  exact ⟨k.os.trans h.os, k.tape.trans h.tape, k.output.trans h.output, Nat.le_trans h.size k.size, fun b hb h1 h2 h3 => (k.block b (Nat.lt_of_lt_of_le hb h.size) (fun e => by have := Option.some.inj e; omega)).trans (h.block b hb h1 h2 h3), h.row⟩
/-- The slice value x reads as the numbers C. -/
def CC (w : World) (q : Nat → Prop) (x : Value) (C : List Int) : Prop := ∃ p c, x = .slice p C.length c ∧ Rd w q (.slice p C.length c) (C.map tv) ∧ (C.length ≤ c ∧ c ≤ 9223372036854775807)
/-- While the components are found: w0 is the world at the start. -/
structure CM (w0 : World) (t H : Nat) (vR vL : Value) (R : List Rt) (L : List Lk) (Cs : List (List Int)) (S : List Int) (va vc : Value) (vals : List Value) (w : World) : Prop where
  topo : w.heap[t]? = some (.cells #[vR, vL] 26 (0, 0))
  comp : w.heap[H + 1]? = some (.cells #[vc] 22 (0, 0))
  seen : TRow w (H + 2) 101 (sn S)
  jf : w.heap[H + 3]? = some (.cells #[jfn t H] 102 (0, 0))
  rts : RdR w (· < w0.heap.size) vR R
  lnk : RdL5 w (· < w0.heap.size) vL L
  size : H + 4 ≤ w.heap.size
  fit : S.length + uns S ≤ 100
  row : w.ownsRow (H + 4) 22 1 va vals.length vals
  len : vals.length = Cs.length
  at_ : ∀ (i : Nat) (C : List Int) (x : Value), Cs[i]? = some C → vals[i]? = some x → CC w (fun b => H + 4 ≤ b ∧ va.ownBlock ≠ some b) x C
  gr : w0.grownBy w none
  t0 : w0.heap.size ≤ t
  tle : t ≤ H
theorem CM.keep {w0 w w' : World} {t H : Nat} {vR vL va vc : Value} {R : List Rt} {L : List Lk} {Cs : List (List Int)} {S : List Int} {vals : List Value} (h : CM w0 t H vR vL R L Cs S va vc vals w) (g : w.grownBy w' none) : CM w0 t H vR vL R L Cs S va vc vals w' :=
  ⟨kept_row h.topo g (by simp), kept_row h.comp g (by simp), h.seen.kept g (by simp), kept_row h.jf g (by simp), h.rts.keep g, h.lnk.keep g, Nat.le_trans h.size g.size, h.fit, h.row.kept g (by cases hv : va.ownBlock <;> simp), h.len,
    fun i C x h1 h2 => by
      obtain ⟨p, c, e, hr, hc⟩ := h.at_ i C x h1 h2
      exact ⟨p, c, e, hr.grown g (by simp), hc⟩, grown_trans h.gr g, h.t0, h.tle⟩
/-- The component's slot is emptied: a component may begin. -/
theorem CM.empty {w0 w : World} {t H : Nat} {vR vL va vc : Value} {R : List Rt} {L : List Lk} {Cs : List (List Int)} {S : List Int} {vals : List Value} (h : CM w0 t H vR vL R L Cs S va vc vals w) :
    JS t H S.length vR vL L S (.slice none 0 0) (w.setCell ⟨H + 1, 0, none⟩ (.slice none 0 0)) ∧ CM w0 t H vR vL R L Cs S va (.slice none 0 0) vals (w.setCell ⟨H + 1, 0, none⟩ (.slice none 0 0)) := by
  have ht0 := h.t0
  have htl := h.tle
  have k := grown_setCell w ⟨H + 1, 0, none⟩ (.slice none 0 0)
  have sb : ∀ (b c : Nat), b ≠ c → some b ≠ some c := fun b c h e => h (Option.some.inj e)
  have ht := kept_row h.topo k (sb _ _ (by show t ≠ H + 1; omega))
  have hj := kept_row h.jf k (sb _ _ (by show H + 3 ≠ H + 1; omega))
  have hs := h.seen.kept k (sb _ _ (by show H + 2 ≠ H + 1; omega))
  have hc := heap_setCell_same w (H + 1) 0 _ _ (.slice none 0 0) h.comp
  have hl := RdF.grown h.lnk k (fun b hb => sb _ _ (by show b ≠ H + 1; omega))
  have hr := RdF.grown h.rts k (fun b hb => sb _ _ (by show b ≠ H + 1; omega))
  refine ⟨⟨ht, hc, hs, hj, ?_, hl.mono (fun b (hb : b < w0.heap.size) => (by omega : b < H)), Nat.le_trans h.size k.size, h.fit, Nat.le_refl _, h.tle⟩, ⟨ht, hc, hs, hj, hr, hl, Nat.le_trans h.size k.size, h.fit, ?_, h.len, ?_, grown_new h.gr k (by show _ ≤ H + 1; omega), h.t0, h.tle⟩⟩
  · rw [List.drop_length]
    exact World.ownsRow_nil _ _ _ _
  · refine h.row.kept k ?_
    cases hv : va.ownBlock with
    | none => exact .inl rfl
    | some b =>
      have := (h.row.lt b hv).1
      exact .inr (sb _ _ (by show b ≠ H + 1; omega))
  · intro i C x h1 h2
    obtain ⟨p, c, e, hr, hc⟩ := h.at_ i C x h1 h2
    exact ⟨p, c, e, hr.grown k (fun b hb => sb _ _ (by show b ≠ H + 1; omega)), hc⟩
/-- Behind join and Sort. -/
theorem CM.jf' {w0 w w' : World} {t H : Nat} {vR vL va v' : Value} {R : List Rt} {L : List Lk} {Cs : List (List Int)} {S T : List Int} {vals : List Value} (h : CM w0 t H vR vL R L Cs S va (.slice none 0 0) vals w) (k : JF H w (.slice none 0 0) w' v') (hc : w'.heap[H + 1]? = some (.cells #[v'] 22 (0, 0))) (hs : TRow w' (H + 2) 101 (sn T)) (hf : T.length + uns T ≤ 100) :
    CM w0 t H vR vL R L Cs T va v' vals w' := by
  have hsz := h.size
  have ht0 := h.t0
  have htl := h.tle
  have none_ : ∀ b, (Value.slice none 0 0).ownBlock ≠ some b := fun b e => by cases e
  refine ⟨(k.block _ (by omega) (by omega) (by omega) (none_ _)).trans h.topo, hc, hs, (k.block _ (by omega) (by omega) (by omega) (none_ _)).trans h.jf, RdF.jf h.rts k (fun b hb _ => ⟨by omega, by omega, none_ b⟩), RdF.jf h.lnk k (fun b hb _ => ⟨by omega, by omega, none_ b⟩), Nat.le_trans h.size k.size, hf, own_jf h.row k (fun b hb => ?_), h.len, ?_, JF.to k w0 h.gr (by omega) (fun g e => absurd e (none_ g)), h.t0, h.tle⟩
  · have := (h.row.lt b hb).1
    exact ⟨by omega, by omega, none_ b⟩
  · intro i C x h1 h2
    obtain ⟨p, c, e, hr, hcc⟩ := h.at_ i C x h1 h2
    exact ⟨p, c, e, Rd.jf hr k (fun b hb _ => ⟨by omega, by omega, none_ b⟩), hcc⟩
end Go.Proofs.Ytiencdgmnkphjaa

/- topology: Components: a component is appended; the beginning; a valid topology. -/
namespace Go.Proofs.Ytiencdgmnkphjaa
open Go.RowKit Bs
theorem CM.app {w0 w w1 : World} {t H : Nat} {vR vL va v' : Value} {R : List Rt} {L : List Lk} {Cs : List (List Int)} {T C : List Int} {vals : List Value} {o : Obj} {g n cap : Nat} (h : CM w0 t H vR vL R L Cs T va v' vals w) (hv : CC w (fun b => H + 4 ≤ b ∧ va.ownBlock ≠ some b) v' C)
    (hown : w1.ownsRow (H + 4) 22 1 (.slice (some ⟨g, 0, none⟩) n cap) (vals.length + 1) (vals ++ [v'])) (hg : (w.alloc o).grownBy w1 va.ownBlock) (hat : va.ownBlock = some g ∨ g = (w.alloc o).heap.size) :
    CM w0 t H vR vL R L (Cs ++ [C]) T (.slice (some ⟨g, 0, none⟩) n cap) v' (vals ++ [v']) w1 := by
  have ht0 := h.t0
  have htl := h.tle
  have k0 := World.grownBy_alloc w o none
  have hne : ∀ b, b < H + 4 → some b ≠ va.ownBlock := fun b hb e => by
    have := (h.row.lt b e.symm).1
    omega
  have hk := h.keep k0
  have hsz : (w.alloc o).heap.size = w.heap.size + 1 := by simp
  have rd : ∀ (x : Value) (D : List Int), CC w (fun b => H + 4 ≤ b ∧ va.ownBlock ≠ some b) x D → CC w1 (fun b => H + 4 ≤ b ∧ (Value.slice (some ⟨g, 0, none⟩) n cap).ownBlock ≠ some b) x D := by
    rintro x D ⟨p, c, e, hr, hc⟩
    refine ⟨p, c, e, ?_, hc⟩
    refine Rd.mono ((hr.lt.grown k0 (by simp)).grown hg (fun b hb e => hb.1.2 e.symm)) (fun b hb => ⟨hb.1.1, fun e => ?_⟩)
    have eg : g = b := Option.some.inj e
    subst eg
    rcases hat with e2 | e2
    · exact hb.1.2 e2
    · have := hb.2
      omega
  refine ⟨kept_row hk.topo hg (hne _ (by omega)), kept_row hk.comp hg (hne _ (by omega)), hk.seen.kept hg (hne _ (by omega)), kept_row hk.jf hg (hne _ (by omega)), hk.rts.grown hg (fun b hb => hne b (by omega)), hk.lnk.grown hg (fun b hb => hne b (by omega)), Nat.le_trans hk.size hg.size, h.fit, ?_, ?_, ?_, grown_any hk.gr hg (fun b hb => hne b (by omega)), h.t0, h.tle⟩
  · rw [List.length_append]
    exact hown
  · rw [List.length_append, List.length_append, h.len]
    rfl
  · intro i D x h1 h2
    have hl := h.len
    by_cases hi : i < Cs.length
    · rw [List.getElem?_append_left hi] at h1
      rw [List.getElem?_append_left (by omega)] at h2
      exact rd x D (h.at_ i D x h1 h2)
    · rw [List.getElem?_append_right (by omega)] at h1 h2
      rw [hl] at h2
      by_cases hi2 : i - Cs.length = 0
      · rw [hi2] at h1 h2
        obtain rfl : C = D := by simpa using h1
        obtain rfl : v' = x := by simpa using h2
        exact rd _ _ hv
      · rw [List.getElem?_eq_none (by simp; omega)] at h1
        cases h1
theorem boxes3 (w : World) (A B C : Array Value) (t u v : TypeId) : ∃ w3, w3 = ((w.alloc (.cells A t)).alloc (.cells B u)).alloc (.cells C v) ∧ w3.heap[w.heap.size]? = some (.cells A t (0, 0)) ∧ w3.heap[w.heap.size + 1]? = some (.cells B u (0, 0)) ∧ w3.heap[w.heap.size + 2]? = some (.cells C v (0, 0)) ∧ w.grownBy w3 none ∧ w3.heap.size = w.heap.size + 3 := by
  obtain ⟨k1, k2, k3, k4⟩ := two_boxes w A B t u
  have g := World.grownBy_alloc ((w.alloc (.cells A t)).alloc (.cells B u)) (.cells C v) none
  refine ⟨_, rfl, kept_row k1 g (by simp), kept_row k2 g (by simp), ?_, grown_trans k3 g, by simp⟩
  rw [← k4]; exact heap_alloc_new _ _
theorem sn_nil : sn [] = List.replicate 100 (.bool false) := by rfl
theorem okT_ids {R : List Rt} {L : List Lk} (h : okT R L = true) : R.any wrId = false ∧ L.any (unk R) = false := by
  unfold okT chk at h
  split at h
  · cases h
  split at h
  · cases h
  rename_i h1
  split at h
  · cases h
  split at h
  · cases h
  split at h
  · cases h
  rename_i h2
  exact ⟨by simpa using h1, by simpa using h2⟩
theorem unk_not {R : List Rt} {L : List Lk} (h : L.any (unk R) = false) : ∀ l ∈ L, hasR R l.a = true ∧ hasR R l.b = true := by
  intro l hl
  have := List.any_eq_false.1 h l hl
  unfold unk at this
  simpa using this
theorem okT_ends {R : List Rt} {L : List Lk} (h : okT R L = true) : ∀ l ∈ L, (1 ≤ l.a ∧ l.a ≤ 99) ∧ 1 ≤ l.b ∧ l.b ≤ 99 := by
  obtain ⟨h1, h2⟩ := okT_ids h
  intro l hl
  have := unk_not h2 l hl
  exact ⟨hasR_range h1 this.1, hasR_range h1 this.2⟩
def idsN (R : List Rt) : List Nat := R.map fun r => r.id.toNat
theorem idsN_of {R : List Rt} {x : Int} (h1 : R.any wrId = false) (h : hasR R x = true) : ∃ m : Nat, x = (m : Int) ∧ m ∈ idsN R := by
  have hr := hasR_range h1 h
  obtain ⟨r, hm, e⟩ := List.any_eq_true.1 h
  rw [decide_eq_true_eq] at e
  exact ⟨x.toNat, by omega, List.mem_map.2 ⟨r, hm, by rw [e]⟩⟩
theorem okT_near {R : List Rt} {L : List Lk} (h : okT R L = true) (x : Int) : ∀ y ∈ nbL L x, ∃ m : Nat, y = (m : Int) ∧ m ∈ idsN R := by
  obtain ⟨h1, h2⟩ := okT_ids h
  intro y hy
  obtain ⟨l, hl, h3⟩ := List.mem_flatMap.1 hy
  have := unk_not h2 l hl
  unfold nb1 at h3
  rw [List.mem_append] at h3
  rcases h3 with h3 | h3
  · split at h3
    · rw [List.mem_singleton] at h3; subst h3; exact idsN_of h1 this.1
    · cases h3
  · split at h3
    · rw [List.mem_singleton] at h3; subst h3; exact idsN_of h1 this.2
    · cases h3
theorem dfs_drop (L : List Lk) (k : Nat) (r : Int) (S : List Int) : ∃ U, (dfs L (k + 1) r S).drop S.length = r :: U := by
  obtain ⟨U, hU⟩ := fold_ext (dstep_ext L k (dfs_ext L k)) (nbL L r) (S ++ [r])
  refine ⟨U, ?_⟩
  rw [dfs_succ, hU, List.append_assoc, List.drop_left]
  rfl
theorem ids_all (l : List Nat) : l.countP (notS []) = l.length := by
  rw [List.countP_eq_length]
  intro a _
  rfl
/-- Behind join and Sort: what is held, and the sorted component. -/
theorem CM.sorted {w0 w w4 w5 : World} {t H d g cap : Nat} {vR vL va : Value} {R : List Rt} {L : List Lk} {Cs : List (List Int)} {S D C E : List Int} {vals : List Value} (h : CM w0 t H vR vL R L Cs S va (.slice none 0 0) vals w)
    (h4 : JS t H d vR vL L D (.slice (some ⟨g, 0, none⟩) C.length cap) w4) (k4 : JF H w (.slice none 0 0) w4 (.slice (some ⟨g, 0, none⟩) C.length cap)) (hE : SK w4 (H + 4) g cap C.length C E w5 ∧ toS E C.length) :
    CM w0 t H vR vL R L Cs D va (.slice (some ⟨g, 0, none⟩) C.length cap) vals w5 ∧ CC w5 (fun b => H + 4 ≤ b ∧ va.ownBlock ≠ some b) (.slice (some ⟨g, 0, none⟩) C.length cap) (srt C) := by
  obtain ⟨hE, hS⟩ := hE
  have hg4 := (hE.own.lt g rfl).1
  have sb : ∀ (b c : Nat), b ≠ c → some b ≠ some c := fun b c h e => h (Option.some.inj e)
  refine ⟨h.jf' (k4.sort hE.gr) (kept_row h4.comp hE.gr (sb _ _ (by omega))) (h4.seen.kept hE.gr (sb _ _ (by omega))) h4.fit, ?_⟩
  have e1 : E = srt C := srt_of hE.perm (by rw [hE.len]; exact hS)
  have e2 : (srt C).length = C.length := (srt_perm C).length_eq
  have hcap := own_cap hE.own
  unfold maxLen at hcap
  refine ⟨some ⟨g, 0, none⟩, cap, by rw [e2], ⟨some ⟨g, 0, none⟩, cap, by rw [List.length_map], fun _ => ⟨g, 0, rfl, ⟨hg4, fun e => ?_⟩, fun i x hi => ?_⟩⟩, by omega, by omega⟩
  · have h1 := (h.row.lt g e).2
    rcases k4.row with e3 | ⟨g', e3, h3⟩
    · cases e3
    · have : g = g' := Option.some.inj e3
      omega
  · rw [← e1] at hi
    have := hE.own.cells (g := g) rfl i x hi
    have hadd : (⟨g, 0, none⟩ : Addr).add i = ⟨g, 0 + i, none⟩ := by unfold Addr.add; split <;> simp_all
    rw [hadd] at this
    exact this
end Go.Proofs.Ytiencdgmnkphjaa

/- A region that draws its order: loads are taken first although a late operation writes their cells; what they want of the world holds until then. -/
namespace Go.Proofs.Ytiencdgmnkphjaa
open Go
section
variable {P : Program} {ops : Array Oper} {Q : Exit → Act → World → Prop} {md : Region.Mode} {S : World → Prop} {late : Nat → Bool}
/-- Any order from here on; S holds behind whatever is not late. -/
def anyU (P : Program) (md : Region.Mode) (ops : Array Oper) (Q : Exit → Act → World → Prop) (S : World → Prop) (late : Nat → Bool) : Nat → Array Bool → Act → World → Prop
  | 0, seen, a, w => Region.ready md ops seen = [] ∧ Q .normal a w
  | n + 1, seen, a, w => (Region.ready md ops seen = [] → Q .normal a w) ∧
      ∀ k, k ∈ Region.ready md ops seen → wpOp P ops Q k (fun b v => (late k = false → S v) ∧ anyU P md ops Q S late n (seen.setIfInBounds k true) b v) a w
theorem anyU_any (n : Nat) : ∀ (seen : Array Bool) (a : Act) (w : World), anyU P md ops Q S late n seen a w → wpAny P md ops Q n seen a w := by
  induction n with
  | zero => intro seen a w h; exact h
  | succ n ih => intro seen a w h; exact ⟨h.1, fun k hk => wpOp_mono (fun b v hb => ih _ b v hb.2) (h.2 k hk)⟩
/-- Number j waits for number i, perhaps by way of others. -/
def reach (md : Region.Mode) (ops : Array Oper) : Nat → Nat → Nat → Bool
  | 0, _, _ => false
  | n + 1, j, i => match ops[j]? with
    | some o => o.after.any fun e => Region.binds md e && (e.on == i || reach md ops n e.on i)
    | none => false
/-- Whatever is late waits for number i. -/
def waits (md : Region.Mode) (ops : Array Oper) (late : Nat → Bool) (i : Nat) : Bool :=
  (List.range ops.size).all fun j => !late j || reach md ops ops.size j i
/-- What has come up has come up behind all that it waits for. -/
def Shut1 (md : Region.Mode) (ops : Array Oper) (seen : Array Bool) : Prop :=
  ∀ (j : Nat) (o : Oper), ops[j]? = some o → seen.getD j false = true → ∀ e ∈ o.after, Region.binds md e = true → seen.getD e.on false = true
def shut1 (md : Region.Mode) (ops : Array Oper) (seen : Array Bool) : Bool :=
  (List.range ops.size).all fun j => !seen.getD j false || (match ops[j]? with
    | some o => o.after.all fun e => !Region.binds md e || seen.getD e.on false
    | none => true)
theorem shut1_spec {seen : Array Bool} (h : shut1 md ops seen = true) : Shut1 md ops seen := by
  intro j o ho hj e he hb
  unfold shut1 at h
  rw [List.all_eq_true] at h
  have h1 := h j (List.mem_range.2 (Array.getElem?_eq_some_iff.1 ho).1)
  rw [hj, ho] at h1
  simp only [Bool.not_true, Bool.false_or] at h1
  rw [Array.all_eq_true_iff_forall_mem] at h1
  have h2 := h1 e he
  rw [hb] at h2
  simpa using h2
theorem Shut1.step {seen : Array Bool} {j : Nat} (h : Shut1 md ops seen) (hj : j ∈ Region.ready md ops seen) : Shut1 md ops (seen.setIfInBounds j true) := by
  intro k o ho hk e he hb
  by_cases hjk : j = k
  · subst hjk
    obtain ⟨_, o2, ho2, hall⟩ := mem_ready.1 hj
    rw [ho] at ho2
    obtain rfl := Option.some.inj ho2
    exact getD_set_true (hall e he hb)
  · rw [getD_set_ne false hjk] at hk
    exact getD_set_true (h k o ho hk e he hb)
theorem reach_seen {seen : Array Bool} (hc : Shut1 md ops seen) (i : Nat) : ∀ (n j : Nat) (o : Oper), ops[j]? = some o → (∀ e ∈ o.after, Region.binds md e = true → seen.getD e.on false = true) → reach md ops n j i = true → seen.getD i false = true := by
  intro n
  induction n with
  | zero => intro j o _ _ h; cases h
  | succ n ih =>
    intro j o ho hall h
    unfold reach at h
    rw [ho] at h
    simp only at h
    rw [Array.any_eq_true'] at h
    obtain ⟨e, he, hb⟩ := h
    rw [Bool.and_eq_true, Bool.or_eq_true] at hb
    have h1 := hall e he hb.1
    rcases hb.2 with h2 | h2
    · have : e.on = i := by simpa using h2
      rwa [this] at h1
    · cases ho2 : ops[e.on]? with
      | none =>
        cases n with
        | zero => cases h2
        | succ n =>
          unfold reach at h2
          rw [ho2] at h2
          cases h2
      | some o2 => exact ih e.on o2 ho2 (hc e.on o2 ho2 h1) h2
theorem waits_seen {seen : Array Bool} {i j : Nat} (hw : waits md ops late i = true) (hc : Shut1 md ops seen) (hj : j ∈ Region.ready md ops seen) (hl : late j = true) : seen.getD i false = true := by
  obtain ⟨_, o, ho, hall⟩ := mem_ready.1 hj
  unfold waits at hw
  rw [List.all_eq_true] at hw
  have h1 := hw j (List.mem_range.2 (Array.getElem?_eq_some_iff.1 ho).1)
  rw [hl] at h1
  exact reach_seen hc i _ j o ho hall (by simpa using h1)
theorem anyU_first {i : Nat} {oi : Oper} {v : Value} (hi : ops[i]? = some oi) (hsel : ∀ (j : Nat) (o : Oper) cs b, ops[j]? = some o → o.op ≠ .select cs b)
    (hQ : ∀ c a w, Q (.panic c) (a.put oi.dst v) w → Q (.panic c) a w) (hw : waits md ops late i = true) (n : Nat) :
    ∀ (seen : Array Bool) (a : Act) (w : World),
      (∀ j oj, ops[j]? = some oj → j ≠ i → seen.getD j true = false → (∀ e ∈ oj.after, Region.binds md e = true → e.on ≠ i) → oi.apart ops oj = true) →
      Shut1 md ops seen → i ∈ Region.ready md ops seen → YieldsIf P ops S oi v a → S w → anyU P md ops Q S late n (seen.setIfInBounds i true) (a.put oi.dst v) w → anyU P md ops Q S late (n + 1) seen a w := by
  have now : ∀ (m : Nat) (seen : Array Bool) (a : Act) (w : World), YieldsIf P ops S oi v a → S w → anyU P md ops Q S late m (seen.setIfInBounds i true) (a.put oi.dst v) w →
      wpOp P ops Q i (fun b u => (late i = false → S u) ∧ anyU P md ops Q S late m (seen.setIfInBounds i true) b u) a w := fun m seen a w hy hS h => hy.wpOp hi hS ⟨fun _ => hS, h⟩
  induction n with
  | zero =>
    intro seen a w _ _ hr hy hS h
    refine ⟨fun e => (by rw [e] at hr; cases hr), fun j hj => ?_⟩
    by_cases e : j = i
    · exact e ▸ now 0 seen a w hy hS h
    · have := ready_mono hj e
      rw [h.1] at this
      cases this
  | succ n ih =>
    intro seen a w hf hc hr hy hS h
    refine ⟨fun e => (by rw [e] at hr; cases hr), fun j hj => ?_⟩
    by_cases e : j = i
    · exact e ▸ now (n + 1) seen a w hy hS h
    obtain ⟨hun, oj, hoj, hall⟩ := mem_ready.1 hj
    have hno : ∀ e ∈ oj.after, Region.binds md e = true → e.on ≠ i := fun e he hb hei => by
      have h1 := hall e he hb
      have h0 := (mem_ready.1 hr).1
      rw [hei] at h1
      by_cases hlt : i < seen.size
      · simp [hlt] at h0 h1
        rw [h0] at h1
        cases h1
      · simp [Array.getElem?_eq_none (Nat.le_of_not_lt hlt)] at h1
    have hl : late j = false := by
      cases hl : late j with
      | false => rfl
      | true =>
        have h1 := waits_seen hw hc hj hl
        have h0 := (mem_ready.1 hr).1
        by_cases hlt : i < seen.size
        · simp [hlt] at h0 h1
          rw [h0] at h1
          cases h1
        · simp [Array.getElem?_eq_none (Nat.le_of_not_lt hlt)] at h1
    refine wpOp_mono (fun b u hb => ⟨hb.2.1, ih _ b u (fun k ok hk hki hsk hnk => hf k ok hk hki ?_ hnk) (hc.step hj) (ready_mono hr (Ne.symm e)) hb.1 (hb.2.1 hl) (by rw [Array.setIfInBounds_comm _ _ e]; exact hb.2.2)⟩)
      (wpOp_putIf hoj (hf j oj hoj e hun hno) (fun cs b => hsel i oi cs b hi) (fun cs b => hsel j oj cs b hoj) hQ hy (h.2 j (ready_mono hj e)))
    by_cases hjk : j = k
    · exact hjk ▸ hun
    · rwa [getD_set_ne true hjk] at hsk
theorem anyU_take {i : Nat} {oi : Oper} {v : Value} {n : Nat} {seen : Array Bool} {a : Act} {w : World} (hi : ops[i]? = some oi) (hw : waits md ops late i = true)
    (hc : shut1 md ops seen = true) (hs : Region.noSelect ops = true) (hf : Region.free md ops seen i = true) (hr : (Region.ready md ops seen).contains i = true)
    (hQ : ∀ c a w, Q (.panic c) (a.put oi.dst v) w → Q (.panic c) a w) (hy : YieldsIf P ops S oi v a) (hS : S w)
    (h : anyU P md ops Q S late n (seen.setIfInBounds i true) (a.put oi.dst v) w) : anyU P md ops Q S late (n + 1) seen a w :=
  anyU_first hi (Region.noSelect_spec hs) hQ hw n seen a w (Region.free_spec hi hf) (shut1_spec hc) (by simpa using hr) hy hS h
/-- Each of some operations comes up next. -/
def EachU (P : Program) (md : Region.Mode) (ops : Array Oper) (Q : Exit → Act → World → Prop) (S : World → Prop) (late : Nat → Bool) (n : Nat) (seen : Array Bool) (a : Act) (w : World) (rs : List Nat) : Prop :=
  ∀ k ∈ rs, wpOp P ops Q k (fun b v => (late k = false → S v) ∧ anyU P md ops Q S late n (seen.setIfInBounds k true) b v) a w
theorem EachU.nil {n : Nat} {seen : Array Bool} {a : Act} {w : World} : EachU P md ops Q S late n seen a w [] := fun _ h => by cases h
theorem EachU.cons {n : Nat} {seen : Array Bool} {a : Act} {w : World} {i : Nat} {o : Oper} {rs : List Nat} (ho : ops[i]? = some o)
    (h : ∀ K : Act → World → Prop, Shut (∀ b v, (late i = false → S v) → ((late i = false → S v) → anyU P md ops Q S late n (seen.setIfInBounds i true) b v) → K b v) → if Region.wanted o (yielded ops a.tmps) = true then Oper.wp P o a w K Q else K (a.put o.dst undef) w)
    (hs : EachU P md ops Q S late n seen a w rs) : EachU P md ops Q S late n seen a w (i :: rs) := fun j hj => by
  rcases List.mem_cons.1 hj with rfl | hj
  · exact wpOp_step ho (fun K hK => h K (fun b v hS hW => hK b v ⟨hS, hW hS⟩))
  · exact hs j hj
theorem anyU_ready {rs : List Nat} {n : Nat} {seen : Array Bool} {a : Act} {w : World} (hr : Region.ready md ops seen = rs) (hne : rs ≠ []) (h : EachU P md ops Q S late n seen a w rs) : anyU P md ops Q S late (n + 1) seen a w :=
  ⟨fun e => absurd (hr ▸ e) hne, hr ▸ h⟩
theorem anyU_done {seen : Array Bool} {a : Act} {w : World} (hr : Region.ready md ops seen = []) (h : Q .normal a w) (n : Nat) : anyU P md ops Q S late n seen a w := by
  cases n with
  | zero => exact ⟨hr, h⟩
  | succ n => exact ⟨fun _ => h, by rw [hr]; intro k hk; cases hk⟩
theorem region_until {id : Nat} {a : Act} {w : World} (late : Nat → Bool) (hm : P.follows .mixedOrders = true) (hS : S w.drew) (h : S w.drew → anyU P .any ops Q S late ops.size (Array.replicate ops.size false) a w.drew) :
    (Code.region id ops true).wp P Q a w := wp_region_any hm (anyU_any _ _ _ _ (h hS))
end
end Go.Proofs.Ytiencdgmnkphjaa

/- The reference's Append. -/
import Derived.Test.YtokolidakcfopaaIoAppend
namespace Go.Proofs.Ytokolidakcfopaa
open Go.RowKit Bs
/-- A stream and an error come back, the bytes wherever they lie. -/
def RPost (r : List Nat × Int × Int) (w : World) (e : Ending) (w' : World) : Prop := ∃ v, e = .returned (.tuple #[v, .int .i64 r.2.2]) ∧ SR w' (fun _ => True) v r.1 r.2.1 ∧ w.grownBy w' none
theorem RPost.of {r : List Nat × Int × Int} {l : List Nat} {n x : Int} {w w' : World} {v : Value} (h : r = (l, n, x)) (k : SR w' (fun _ => True) v l n) (g : w.grownBy w' none) : RPost r w (.returned (.tuple #[v, .int .i64 x])) w' := by subst h; exact ⟨v, rfl, k, g⟩
theorem RPost.err {r : List Nat × Int × Int} {x : Int} {w w2 : World} {b : Nat} (h : r = ([], 0, x)) (hg : w.grownBy w2 none) (hb : w.heap.size ≤ b) :
    RPost r w (.returned (.tuple #[.agg #[.slice none 0 0, .int .i64 0], .int .i64 x])) ((w2.setCell ⟨b, 0, none⟩ (.slice none 0 0)).setCell ⟨b, 1, none⟩ (.int .i64 0)) :=
  RPost.of h (sr_nil _ _ _) (grown_new hg (grown_store2 w2 b _ _) hb)
/-- The box at b holds a stream whose bytes lie outside the blocks b and r; block r awaits the result. -/
structure BoxAt (W : World) (b r : Nat) (p : Option Addr) (c : Nat) (l : List Nat) (n : Int) (w' : World) : Prop where
  row : w'.heap[b]? = some (.cells #[.slice p l.length c, .int .i64 n] 25 (0, 0))
  res : w'.heap[r]? = some (.cells #[.slice none 0 0, .int .i64 0] 25 (0, 0))
  rd : Rd w' (fun x => x ≠ b ∧ x ≠ r) (.slice p l.length c) (l.map nv)
  pc : p = none → c = 0
  by_ : By l
  gr : W.grownBy w' none
section
variable {W w' w2 : World} {b r : Nat} {p : Option Addr} {c : Nat} {l : List Nat} {n : Int}
theorem BoxAt.limbs (h : BoxAt W b r p c l n w') : w'.cell? ⟨b, 0, none⟩ = some (.slice p l.length c) ∧ w'.cell? ⟨b, 1, none⟩ = some (.int .i64 n) ∧ w'.frozen? ⟨b, 0, none⟩ = false ∧ w'.frozen? ⟨b, 1, none⟩ = false ∧
    w'.cell? ⟨r, 0, none⟩ = some (.slice none 0 0) ∧ w'.cell? ⟨r, 1, none⟩ = some (.int .i64 0) ∧ w'.frozen? ⟨r, 0, none⟩ = false ∧ w'.frozen? ⟨r, 1, none⟩ = false :=
  ⟨(row_cells h.row).1, (row_cells h.row).2, frozen_of_row _ _ _ _ _ h.row, frozen_of_row _ _ _ _ _ h.row, (row_cells h.res).1, (row_cells h.res).2, frozen_of_row _ _ _ _ _ h.res, frozen_of_row _ _ _ _ _ h.res⟩
theorem BoxAt.keep (h : BoxAt W b r p c l n w') (k : w'.grownBy w2 none) : BoxAt W b r p c l n w2 := ⟨kept_row h.row k (by simp), kept_row h.res k (by simp), h.rd.keep k, h.pc, h.by_, grown_trans h.gr k⟩
theorem BoxAt.store {p' : Option Addr} {c' : Nat} {l' : List Nat} {n' : Int} {base : Nat} (h : BoxAt W b r p c l n w') (o : Own w' base p' c' l') (hb : W.heap.size ≤ b) (hbr : b ≠ r) (hb2 : b < base) (hr2 : r < base) :
    BoxAt W b r p' c' l' n' ((w'.setCell ⟨b, 0, none⟩ (.slice p' l'.length c')).setCell ⟨b, 1, none⟩ (.int .i64 n')) := by
  have g := grown_store2 w' b (.slice p' l'.length c') (.int .i64 n')
  exact ⟨store2 h.row, kept_row h.res g (by intro e; exact hbr (Option.some.inj e).symm), (o.rd.mono fun x hx => ⟨by omega, by omega⟩).grown g (by rintro x ⟨hx, _⟩ e; exact hx (Option.some.inj e)), o.pc, o.by_, grown_new h.gr g hb⟩
theorem BoxAt.fin {V : List Nat × Int × Int} (h : BoxAt W b r p c l n w') (hV : V = (l, n, 0)) (hr : W.heap.size ≤ r) :
    ((w'.setCell ⟨r, 0, none⟩ (.slice p l.length c)).setCell ⟨r, 1, none⟩ (.int .i64 n)).heap[r]? = some (.cells #[.slice p l.length c, .int .i64 n] 25 (0, 0)) ∧
      RPost V W (.returned (.tuple #[.agg #[.slice p l.length c, .int .i64 n], .int .i64 0])) ((w'.setCell ⟨r, 0, none⟩ (.slice p l.length c)).setCell ⟨r, 1, none⟩ (.int .i64 n)) := by
  have g := grown_store2 w' r (.slice p l.length c) (.int .i64 n)
  refine ⟨store2 h.res, RPost.of hV ⟨p, c, rfl, ?_, h.pc, h.by_⟩ (grown_new h.gr g hr)⟩
  exact (h.rd.grown g (by rintro x ⟨_, hx⟩ e; exact hx (Option.some.inj e))).mono fun _ _ => trivial
end
theorem and_one (v i : Nat) (hv : U64 v) : bits .and .u64 ((v : Int) / 2 ^ i) 1 = (((v.testBit i).toNat : Nat) : Int) := by
  rw [bitW v i hv, Nat.toNat_testBit]
/-- Behind j puts. -/
def PutsRel (f : Nat → Bool) (W : World) (b r N j : Nat) (w' : World) : Prop := ∃ p c, BoxAt W b r p c (pz f (N + j) ((N + j + 7) / 8)) ((N + j : Nat) : Int) w'
theorem PutsRel.open_ {f : Nat → Bool} {W w' : World} {b r N j : Nat} (h : PutsRel f W b r N j w') : ∃ p c l, Hid (l = pz f (N + j) ((N + j + 7) / 8)) ∧ BoxAt W b r p c l ((N + j : Nat) : Int) w' := by
  obtain ⟨p, c, h⟩ := h
  exact ⟨p, c, _, Lib.hid rfl, h⟩
theorem puts_next {f : Nat → Bool} {W w2 : World} {b r N j m base : Nat} {p p' : Option Addr} {c c' : Nat} {l l' : List Nat} {n : Int} (h : Hid (BoxAt W b r p c l n w2)) (hm : N + j = m) (hl : l' = pz f (m + 1) ((m + 8) / 8)) (o : Own w2 base p' c' l')
    (hb : W.heap.size ≤ b) (hbr : b ≠ r) (hb2 : b < base) (hr2 : r < base) :
    Hid (PutsRel f W b r N (j + 1) ((w2.setCell ⟨b, 0, none⟩ (.slice p' l'.length c')).setCell ⟨b, 1, none⟩ (.int .i64 ((m : Int) + 1)))) := by
  subst hm
  subst hl
  refine Lib.hid ⟨p', c', ?_⟩
  exact h.out.store o hb hbr hb2 hr2
end Go.Proofs.Ytokolidakcfopaa

/- Parts of the proof, packed: AdTapB, DbM, DbCln. -/
import Derived.Test.YtnpkihioklpnmaaPu6
import Derived.Test.YtnpkihioklpnmaaPu1
import Derived.Deep.RegionHeld3
import Derived.Deep.CutBlock
import Derived.Deep.CutRange
import Derived.Test.YtnpkihioklpnmaaPu4
import Derived.Test.YtnpkihioklpnmaaPu2
import Derived.Lib.SliceRun
/- While the tape makes an advert. -/
namespace Go.Proofs.Ytnpkihioklpnmaa
open Go.RowKit Bs
/-! What a list of the tape's keeps. -/
def GL (r b : Int) (L : List T3) : Prop := vRe r 0 L = true ∧ ∀ x ∈ L, x.a < b
def GC (b : Int) (C : List T3) : Prop := vCm (-1) C = true ∧ ∀ x ∈ C, x.a < b
set_option maxRecDepth 100000 in
theorem vRe_snoc {r : Int} {y : T3} (hy : y.a ≤ 99 ∧ y.a ≠ r ∧ (1 ≤ y.b ∧ y.b ≤ 1000) ∧ 0 ≤ y.c ∧ y.c ≤ 1000) : ∀ {L : List T3} {d : Int}, vRe r d L = true → (∀ x ∈ L, x.a < y.a) → d < y.a → vRe r d (L ++ [y]) = true
  | [], d, _, _, hd => by
    rw [List.nil_append, vRe, vRe, Bool.and_true]
    exact decide_eq_true ⟨hd, hy⟩
  | x :: t, d, h, hx, hd => by
    rw [List.cons_append, vRe, Bool.and_eq_true]
    rw [vRe, Bool.and_eq_true] at h
    exact ⟨h.1, vRe_snoc hy h.2 (fun z hz => hx z (List.mem_cons_of_mem _ hz)) (hx x List.mem_cons_self)⟩
set_option maxRecDepth 100000 in
theorem vCm_snoc {y : T3} (hy : y.a ≤ 7 ∧ (1 ≤ y.b ∧ y.b ≤ 256) ∧ (y.c = 8 ∨ y.c = 16 ∨ y.c = 32 ∨ y.c = 64)) : ∀ {L : List T3} {d : Int}, vCm d L = true → (∀ x ∈ L, x.a < y.a) → d < y.a → vCm d (L ++ [y]) = true
  | [], d, _, _, hd => by
    rw [List.nil_append, vCm, vCm, Bool.and_true]
    exact decide_eq_true ⟨hd, hy⟩
  | x :: t, d, h, hx, hd => by
    rw [List.cons_append, vCm, Bool.and_eq_true]
    rw [vCm, Bool.and_eq_true] at h
    exact ⟨h.1, vCm_snoc hy h.2 (fun z hz => hx z (List.mem_cons_of_mem _ hz)) (hx x List.mem_cons_self)⟩
set_option maxRecDepth 100000 in
theorem GL.nil (r b : Int) : GL r b [] := ⟨rfl, fun _ h => by cases h⟩
set_option maxRecDepth 100000 in
theorem GC.nil (b : Int) : GC b [] := ⟨rfl, fun _ h => by cases h⟩
set_option maxRecDepth 100000 in
theorem GL.next {r b : Int} {L : List T3} (h : GL r b L) : GL r (b + 1) L := ⟨h.1, fun x hx => by have := h.2 x hx; omega⟩
set_option maxRecDepth 100000 in
theorem GC.next {b : Int} {L : List T3} (h : GC b L) : GC (b + 1) L := ⟨h.1, fun x hx => by have := h.2 x hx; omega⟩
set_option maxRecDepth 100000 in
theorem GL.add {r b : Int} {L : List T3} (h : GL r b L) (y2 y3 : Int) (hb : 0 < b ∧ b ≤ 99) (hr : b ≠ r) (h2 : 1 ≤ y2 ∧ y2 ≤ 1000) (h3 : 0 ≤ y3 ∧ y3 ≤ 1000) : GL r (b + 1) (L ++ [⟨b, y2, y3⟩]) := by
  refine ⟨vRe_snoc ⟨hb.2, hr, h2, h3⟩ h.1 h.2 hb.1, fun x hx => ?_⟩
  rcases List.mem_append.1 hx with hx | hx
  · have := h.2 x hx; omega
  · rw [List.mem_singleton] at hx
    subst hx
    simp only
    omega
set_option maxRecDepth 100000 in
theorem GC.add {b : Int} {L : List T3} (h : GC b L) (y2 y3 : Int) (hb : -1 < b ∧ b ≤ 7) (h2 : 1 ≤ y2 ∧ y2 ≤ 256) (h3 : y3 = 8 ∨ y3 = 16 ∨ y3 = 32 ∨ y3 = 64) : GC (b + 1) (L ++ [⟨b, y2, y3⟩]) := by
  refine ⟨vCm_snoc ⟨hb.2, h2, h3⟩ h.1 h.2 hb.1, fun x hx => ?_⟩
  rcases List.mem_append.1 hx with hx | hx
  · have := h.2 x hx; omega
  · rw [List.mem_singleton] at hx
    subst hx
    simp only
    omega
/-- While the tape makes an advert. -/
structure AT (a : Nat) (W : World) (Z B : Nat) (r q : Int) (cp : Bool) (uL uC vL vC : Value) (L C : List T3) (w : World) : Prop where
  g : AG W Z B r q cp uL uC vL vC L C w
  st : St a W w
set_option maxRecDepth 100000 in
theorem St.newA {a b : Nat} {W w w1 : World} (h : St a W w) (g : w.grownBy w1 (some b)) (hb : W.heap.size ≤ b) (ha : a < W.heap.size) : St a W w1 := by
  refine ⟨⟨g.os.trans h.1.os, g.tape.trans h.1.tape, g.output.trans h.1.output, Nat.le_trans h.1.size g.size, fun i hi hia => (g.block i (Nat.lt_of_lt_of_le hi h.1.size) (fun e => by have := Option.some.inj e; omega)).trans (h.1.block i hi hia)⟩, ?_⟩
  obtain ⟨v, n, i, T⟩ := h.2
  have hlt : a < w.heap.size := Nat.lt_of_lt_of_le ha h.1.size
  have hk : w1.heap[a]? = w.heap[a]? := g.block a hlt (fun e => by have := Option.some.inj e; omega)
  refine ⟨v, n, i, (World.cell?_of_block (a := ⟨a, 0, none⟩) hk).trans T.l, (World.cell?_of_block (a := ⟨a, 1, none⟩) hk).trans T.p, (World.frozen?_of_block (a := ⟨a, 1, none⟩) hk).trans T.fr, ?_, T.le, T.len⟩
  obtain ⟨p, c, hv, hc⟩ := T.ints
  refine ⟨p, c, hv, fun hn => ?_⟩
  obtain ⟨b1, off, hp, hb1, hx⟩ := hc hn
  refine ⟨b1, off, hp, hb1, fun i hi => ?_⟩
  obtain ⟨x, hx1, hcell⟩ := hx i hi
  exact ⟨x, hx1, g.cell hcell (fun e => by have : b1 = b := Option.some.inj e; omega)⟩
section
variable {a : Nat} {W w w1 : World} {Z B : Nat} {r q : Int} {cp : Bool} {uL uC vL vC v' : Value} {L C : List T3}
set_option maxRecDepth 100000 in
theorem AT.keep (h : AT a W Z B r q cp uL uC vL vC L C w) (g : w.grownBy w1 none) : AT a W Z B r q cp uL uC vL vC L C w1 := ⟨h.g.keep g, h.st.trans ⟨grown_none g _, h.st.2.keep g⟩⟩
set_option maxRecDepth 100000 in
theorem AT.tape (h : AT a W Z B r q cp uL uC vL vC L C w) (ha : a < W.heap.size) (k : St a w w1) : AT a W Z B r q cp uL uC vL vC L C w1 := ⟨h.g.out k.1 ha, h.st.trans k⟩
set_option maxRecDepth 100000 in
theorem AT.stRow (h : AT a W Z B r q cp uL uC vL vC L C w) (ha : a < W.heap.size) {o : Option Nat} (g : w.grownBy w1 o) (hb : ∀ b, o = some b → W.heap.size ≤ b) : St a W w1 := by
  cases o with
  | none => exact h.st.trans ⟨grown_none g _, h.st.2.keep g⟩
  | some b => exact h.st.newA g (hb b rfl) ha
set_option maxRecDepth 100000 in
theorem AT.addL (h : AT a W Z B r q cp uL uC vL vC L C w) (ha : a < W.heap.size) {M : List T3} (hown : w1.ownsRow (B + 1) 73 3 v' M.length (M.flatMap t3C)) (hg : w.grownBy w1 vL.ownBlock) (hat : v'.ownBlock = vL.ownBlock ∨ v'.ownBlock = some w.heap.size) : AT a W Z B r q cp uL uC v' vC M C w1 :=
  ⟨h.g.addL hown hg hat, h.stRow ha hg (fun b hb => by have := h.g.geL b hb; have := h.g.lo; omega)⟩
set_option maxRecDepth 100000 in
theorem AT.addC (h : AT a W Z B r q cp uL uC vL vC L C w) (ha : a < W.heap.size) {M : List T3} (hown : w1.ownsRow (B + 1) 62 3 v' M.length (M.flatMap t3C)) (hg : w.grownBy w1 vC.ownBlock) (hat : v'.ownBlock = vC.ownBlock ∨ v'.ownBlock = some w.heap.size) : AT a W Z B r q cp uL uC vL v' L M w1 :=
  ⟨h.g.addC hown hg hat, h.stRow ha hg (fun b hb => by have := h.g.geC b hb; have := h.g.lo; omega)⟩
set_option maxRecDepth 100000 in
theorem AT.putL (h : AT a W Z B r q cp uL uC vL vC L C w) (ha : a < W.heap.size) : AT a W Z B r q cp vL uC vL vC L C (w.setCell ⟨B, 3, none⟩ vL) :=
  ⟨h.g.putL, h.st.newA (grown_setCell w ⟨B, 3, none⟩ vL) (by have := h.g.lo; show W.heap.size ≤ B; omega) ha⟩
set_option maxRecDepth 100000 in
theorem AT.putC (h : AT a W Z B r q cp uL uC vL vC L C w) (ha : a < W.heap.size) : AT a W Z B r q cp uL vC vL vC L C (w.setCell ⟨B, 4, none⟩ vC) :=
  ⟨h.g.putC, h.st.newA (grown_setCell w ⟨B, 4, none⟩ vC) (by have := h.g.lo; show W.heap.size ≤ B; omega) ha⟩
set_option maxRecDepth 100000 in
theorem AG.put0 (h : AG W Z B r q cp uL uC vL vC L C w) (x : Int) : AG W Z B x q cp uL uC vL vC L C (w.setCell ⟨B, 0, none⟩ (.int .i64 x)) := by
  have g := grown_setCell w ⟨B, 0, none⟩ (.int .i64 x)
  have hlo := h.lo
  refine ⟨kept_row h.zb g (fun e => by have : Z = B := Option.some.inj e; omega), ?_, own_otherA h.oL g (Nat.lt_succ_self _), own_otherA h.oC g (Nat.lt_succ_self _), h.ap, h.lo, Nat.lt_of_lt_of_le h.sz g.size⟩
  have h1 := heap_setCell_same w B 0 _ _ (.int .i64 x) h.ab
  rw [h1]; rfl
set_option maxRecDepth 100000 in
theorem AG.put1 (h : AG W Z B r q cp uL uC vL vC L C w) (x : Int) : AG W Z B r x cp uL uC vL vC L C (w.setCell ⟨B, 1, none⟩ (.int .i64 x)) := by
  have g := grown_setCell w ⟨B, 1, none⟩ (.int .i64 x)
  have hlo := h.lo
  refine ⟨kept_row h.zb g (fun e => by have : Z = B := Option.some.inj e; omega), ?_, own_otherA h.oL g (Nat.lt_succ_self _), own_otherA h.oC g (Nat.lt_succ_self _), h.ap, h.lo, Nat.lt_of_lt_of_le h.sz g.size⟩
  have h1 := heap_setCell_same w B 1 _ _ (.int .i64 x) h.ab
  rw [h1]; rfl
set_option maxRecDepth 100000 in
theorem AT.put0 (h : AT a W Z B r q cp uL uC vL vC L C w) (ha : a < W.heap.size) (x : Int) : AT a W Z B x q cp uL uC vL vC L C (w.setCell ⟨B, 0, none⟩ (.int .i64 x)) :=
  ⟨h.g.put0 x, h.st.newA (grown_setCell w ⟨B, 0, none⟩ (.int .i64 x)) (by have := h.g.lo; show W.heap.size ≤ B; omega) ha⟩
set_option maxRecDepth 100000 in
theorem AT.put1 (h : AT a W Z B r q cp uL uC vL vC L C w) (ha : a < W.heap.size) (x : Int) : AT a W Z B r x cp uL uC vL vC L C (w.setCell ⟨B, 1, none⟩ (.int .i64 x)) :=
  ⟨h.g.put1 x, h.st.newA (grown_setCell w ⟨B, 1, none⟩ (.int .i64 x)) (by have := h.g.lo; show W.heap.size ≤ B; omega) ha⟩
end
set_option maxRecDepth 100000 in
theorem own_formA {w : World} {base size n : Nat} {e : TypeId} {v : Value} {xs : List Value} (h : w.ownsRow base e size v n xs) : (v = .slice none 0 0 ∧ n = 0) ∨ ∃ g cap, v = .slice (some ⟨g, 0, none⟩) n cap ∧ n ≤ cap ∧ cap ≤ 9223372036854775807 := by
  rcases h.2 with ⟨rfl, h0⟩ | ⟨g, cap, cur, rfl, _, _, hn, hm, _⟩
  · exact .inl ⟨rfl, h0⟩
  · unfold maxLen at hm
    exact .inr ⟨g, cap, rfl, hn, by omega⟩
set_option maxRecDepth 100000 in
theorem AG.set0 {W w : World} {Z B g n cap : Nat} {r q : Int} {cp : Bool} {uL uC vC : Value} {L C : List T3} (h : AG W Z B r q cp uL uC (.slice (some ⟨g, 0, none⟩) n cap) vC L C w) (hL : 0 < L.length) (x : Int) :
    ∃ L' : List T3, L'.length = L.length ∧ AG W Z B r q cp uL uC (.slice (some ⟨g, 0, none⟩) n cap) vC L' C (w.setCell ⟨g, 1, none⟩ (.int .i64 x)) := by
  cases L with
  | nil => cases hL
  | cons y t =>
    have hg0 := h.geL g rfl
    have hlo := h.lo
    obtain ⟨p, c, e, _⟩ := own_shape h.oL
    have hn : n = (y :: t).length := by injection e
    subst hn
    obtain ⟨s1, s2⟩ := h.oL.stored 1 (.int .i64 x)
    refine ⟨⟨y.a, x, y.c⟩ :: t, rfl, kept_row h.zb s2 (fun e => by have : Z = g := Option.some.inj e; omega), kept_row h.ab s2 (fun e => by have : B = g := Option.some.inj e; omega), s1, h.oC.kept s2 ?_, h.ap, h.lo, Nat.lt_of_lt_of_le h.sz s2.size⟩
    cases hv : vC.ownBlock with
    | none => exact .inl rfl
    | some k => exact .inr (fun e => h.ap g rfl (by rw [hv]; exact e))
set_option maxRecDepth 100000 in
theorem AT.set0 {a : Nat} {W w : World} {Z B g n cap : Nat} {r q : Int} {cp : Bool} {uL uC vC : Value} {L C : List T3} (h : AT a W Z B r q cp uL uC (.slice (some ⟨g, 0, none⟩) n cap) vC L C w) (ha : a < W.heap.size) (hL : 0 < L.length) (x : Int) :
    ∃ L' : List T3, L'.length = L.length ∧ AT a W Z B r q cp uL uC (.slice (some ⟨g, 0, none⟩) n cap) vC L' C (w.setCell ⟨g, 1, none⟩ (.int .i64 x)) := by
  obtain ⟨L', h1, h2⟩ := h.g.set0 hL x
  have hg0 := h.g.geL g rfl
  have hlo := h.g.lo
  exact ⟨L', h1, h2, h.st.newA (grown_setCell w ⟨g, 1, none⟩ (.int .i64 x)) (by show W.heap.size ≤ g; omega) ha⟩
set_option maxRecDepth 100000 in
theorem AT.ints {a : Nat} {W w : World} {Z B : Nat} {r q : Int} {cp : Bool} {uL uC vL vC : Value} {L C : List T3} (h : AT a W Z B r q cp uL uC vL vC L C w) (xs : List Int) (cs : Array Value) (hx : ∀ x ∈ xs, I64 x) (hcs : cs = (xs.map fun x => Value.int .i64 x).toArray) :
    ∀ p, p = w.heap.size → Among I64 (w.alloc (.cells cs 3)) a p 0 cs.size := by
  rintro p rfl
  exact among_list I64 w a xs cs 3 h.st.2.lt hcs hx
set_option maxRecDepth 100000 in
theorem Among.keepA {P : Int → Prop} {w w' : World} {a b off n : Nat} {r : Option Nat} (h : Among P w a b off n) (g : w.grownBy w' r) (hne : some b ≠ r) : Among P w' a b off n :=
  ⟨h.1, Nat.lt_of_lt_of_le h.2.1 g.size, fun i hi => by obtain ⟨x, hx, hc⟩ := h.2.2 i hi; exact ⟨x, hx, g.cell hc (by exact hne)⟩⟩
/-- What is known of an advert of the tape's. -/
structure TA (R n : Int) (r q : Int) (L C : List T3) : Prop where
  ll : L.length ≤ 40
  cl : C.length ≤ 10
  ok : ¬ 0 < n → r = R ∧ (1 ≤ q ∧ q ≤ 1000000) ∧ L.length ≤ 23 ∧ C.length ≤ 8 ∧ vRe R 0 L = true ∧ vCm (-1) C = true
def TAPost (a : Nat) (R n : Int) (w : World) (e : Ending) (w' : World) : Prop :=
  ∃ A : Ad, e = .returned A.val ∧ TA R n A.r A.q A.L A.C ∧ AdOk w' (w.heap.size ≤ ·) A ∧ St a w w'
/-- Lists that are nil have no room. -/
def AdNl (A : Ad) : Prop := (A.pL = none → A.cL = 0) ∧ (A.pC = none → A.cC = 0)
/-- What the tape's Advert returns; its lists, if they are nil, have no room. -/
def TAPost3 (a : Nat) (R n : Int) (w : World) (e : Ending) (w' : World) : Prop :=
  ∃ A : Ad, e = .returned A.val ∧ TA R n A.r A.q A.L A.C ∧ AdOk w' (w.heap.size ≤ ·) A ∧ St a w w' ∧ AdNl A
/-- The same; a list of claims that is nil has no room. -/
def TAPost2 (a : Nat) (R n : Int) (w : World) (e : Ending) (w' : World) : Prop :=
  ∃ A : Ad, e = .returned A.val ∧ TA R n A.r A.q A.L A.C ∧ AdOk w' (w.heap.size ≤ ·) A ∧ St a w w' ∧ (A.pC = none → A.cC = 0)
set_option maxRecDepth 100000 in
theorem TAPost2.less {a : Nat} {R n : Int} {w : World} {e : Ending} {w' : World} (h : TAPost2 a R n w e w') : TAPost a R n w e w' := by
  obtain ⟨A, h1, h2, h3, h4, -⟩ := h
  exact ⟨A, h1, h2, h3, h4⟩
set_option maxRecDepth 100000 in
theorem TAPost3.less {a : Nat} {R n : Int} {w : World} {e : Ending} {w' : World} (h : TAPost3 a R n w e w') : TAPost2 a R n w e w' := by
  obtain ⟨A, h1, h2, h3, h4, h5⟩ := h
  exact ⟨A, h1, h2, h3, h4, h5.2⟩
set_option maxRecDepth 100000 in
theorem own_nilc {w : World} {base size n c : Nat} {p : Option Addr} {e : TypeId} {xs : List Value} (h : w.ownsRow base e size (.slice p n c) n xs) (hp : p = none) : c = 0 := by
  subst hp
  rcases h.2 with ⟨e, _⟩ | ⟨g', cap', cur, hv, _⟩
  · injection e
  · cases hv
set_option maxRecDepth 100000 in
theorem TA.valid {R n : Int} {A : Ad} (h : TA R n A.r A.q A.L A.C) (hn : ¬ 0 < n) (hR : 1 ≤ R ∧ R ≤ 99) : vAd A = true ∧ A.r = R := by
  obtain ⟨h1, h2, h3, h4, h5, h6⟩ := h.ok hn
  refine ⟨?_, h1⟩
  unfold vAd vHd vClaims
  rw [decide_eq_true ⟨h1 ▸ hR, h2, h3⟩, h1, h5, decide_eq_true h4, h6]
  rfl
end Go.Proofs.Ytnpkihioklpnmaa

/- Databases: rows of adverts; when a database is valid. -/
namespace Go.Proofs.Ytnpkihioklpnmaa
open Go.RowKit Bs
def adL (A : Ad) : List Value := [.int .i64 A.r, .int .i64 A.q, .bool A.cp, .slice A.pL A.L.length A.cL, .slice A.pC A.C.length A.cC]
set_option maxRecDepth 100000 in
theorem adL_len (A : Ad) : (adL A).length = 5 := rfl
set_option maxRecDepth 100000 in
theorem ad_one (x : Ad) : ∀ u ∈ adL x, u.oneCell' = true := by
  intro u hu
  simp [adL] at hu
  rcases hu with rfl | rfl | rfl | rfl | rfl <;> rfl
/-- Adverts in a row, which can be read with their lists. -/
structure RdA (w : World) (q : Nat → Prop) (v : Value) (l : List Ad) : Prop where
  row : RdF w q v l.length (l.flatMap adL)
  ok : ∀ A ∈ l, AdOk w q A
  nl : ∀ A ∈ l, AdNl A
set_option maxRecDepth 100000 in
theorem RdA.grown {w w' : World} {q : Nat → Prop} {v : Value} {l : List Ad} {r : Option Nat} (h : RdA w q v l) (g : w.grownBy w' r) (hq : ∀ b, q b → some b ≠ r) : RdA w' q v l := ⟨h.row.grown g hq, fun A hA => (h.ok A hA).grown g hq, h.nl⟩
set_option maxRecDepth 100000 in
theorem RdA.keep {w w' : World} {q : Nat → Prop} {v : Value} {l : List Ad} (h : RdA w q v l) (g : w.grownBy w' none) : RdA w' q v l := h.grown g (fun _ _ => by simp)
set_option maxRecDepth 100000 in
theorem RdA.mono {w : World} {q q' : Nat → Prop} {v : Value} {l : List Ad} (h : RdA w q v l) (hq : ∀ b, q b → q' b) : RdA w q' v l := ⟨h.row.mono hq, fun A hA => (h.ok A hA).mono hq, h.nl⟩
set_option maxRecDepth 100000 in
theorem RdA.old {w : World} {q : Nat → Prop} {v : Value} {l : List Ad} (h : RdA w q v l) : RdA w (· < w.heap.size) v l := ⟨rdfA_old h.row, fun A hA => (h.ok A hA).old, h.nl⟩
set_option maxRecDepth 100000 in
/-- The cells of adverts, whatever world has grown out of this one. -/
theorem rda_cells {w : World} {q : Nat → Prop} {p : Option Addr} {n c : Nat} {l : List Ad} (h : RdA w q (.slice p n c) l) (hn : 0 < l.length) :
    n = l.length ∧ ∃ b off, p = some ⟨b, off, none⟩ ∧ q b ∧ ∀ i x, l[i]? = some x → w.cell? ⟨b, off + i * 5, none⟩ = some (.int .i64 x.r) ∧ w.cell? ⟨b, off + i * 5 + 1, none⟩ = some (.int .i64 x.q) ∧ w.cell? ⟨b, off + i * 5 + 2, none⟩ = some (.bool x.cp) ∧ w.cell? ⟨b, off + i * 5 + 3, none⟩ = some (.slice x.pL x.L.length x.cL) ∧ w.cell? ⟨b, off + i * 5 + 4, none⟩ = some (.slice x.pC x.C.length x.cC) := by
  obtain ⟨h0, b, off, hp, hq, hc⟩ := RdF.cells (f := adL) (k := 5) adL_len (by decide) h.row hn
  exact ⟨h0, b, off, hp, hq, fun i x hi => ⟨hc i x hi 0 _ rfl, hc i x hi 1 _ rfl, hc i x hi 2 _ rfl, hc i x hi 3 _ rfl, hc i x hi 4 _ rfl⟩⟩
set_option maxRecDepth 100000 in
theorem rda_at {w : World} {q : Nat → Prop} {b off n c k : Nat} {l : List Ad} {x : Ad} (h : RdA w q (.slice (some ⟨b, off, none⟩) n c) l) (hx : l[k]? = some x) :
    w.cell? ⟨b, off + k * 5, none⟩ = some (.int .i64 x.r) ∧ w.cell? ⟨b, off + k * 5 + 1, none⟩ = some (.int .i64 x.q) ∧ w.cell? ⟨b, off + k * 5 + 2, none⟩ = some (.bool x.cp) ∧ w.cell? ⟨b, off + k * 5 + 3, none⟩ = some (.slice x.pL x.L.length x.cL) ∧ w.cell? ⟨b, off + k * 5 + 4, none⟩ = some (.slice x.pC x.C.length x.cC) := by
  obtain ⟨-, b', o', e, -, hc⟩ := rda_cells h (by have := (List.getElem?_eq_some_iff.1 hx).1; omega)
  injection e with e
  injection e with e1 e2
  subst e1
  subst e2
  exact hc k x hx
/-- Are the routers ascending, behind one? -/
def ascD : Int → List Ad → Bool
  | _, [] => true
  | last, A :: t => decide (last < A.r) && ascD A.r t
def notV (A : Ad) : Bool := !vAd A
/-- What Check returns. -/
def chkD (l : List Ad) : Int := if 99 < l.length then 3 else if l.any notV then 1 else if ascD 0 l = false then 25 else 0
def okD (l : List Ad) : Bool := chkD l == 0
def lastD (l : List Ad) (k : Nat) : Int := match (l.take k).getLast? with
  | some x => x.r
  | none => 0
set_option maxRecDepth 100000 in
theorem lastD_succ {l : List Ad} {k : Nat} {x : Ad} (h : l[k]? = some x) : lastD l (k + 1) = x.r := by
  unfold lastD
  rw [List.take_add_one, h]
  simp
set_option maxRecDepth 100000 in
theorem lastD_zero (l : List Ad) : lastD l 0 = 0 := by unfold lastD; simp
set_option maxRecDepth 100000 in
theorem dropA_at {l : List Ad} {k : Nat} {x : Ad} (h : l[k]? = some x) : l.drop k = x :: l.drop (k + 1) := by
  obtain ⟨hk, he⟩ := List.getElem?_eq_some_iff.1 h
  rw [← he, ← List.drop_eq_getElem_cons hk]
set_option maxRecDepth 100000 in
theorem ascD_step {l : List Ad} {k : Nat} {x : Ad} (hx : l[k]? = some x) : ascD (lastD l k) (l.drop k) = (decide (lastD l k < x.r) && ascD (lastD l (k + 1)) (l.drop (k + 1))) := by
  rw [dropA_at hx, ascD, lastD_succ hx]
/-- What a valid database meets. -/
structure OkD (l : List Ad) : Prop where
  len : l.length ≤ 99
  v : ∀ A ∈ l, vAd A = true
  asc : ascD 0 l = true
set_option maxRecDepth 100000 in
theorem chk_OkD {l : List Ad} (h : chkD l = 0) : OkD l := by
  unfold chkD at h
  by_cases h1 : 99 < l.length
  · rw [if_pos h1] at h; cases h
  rw [if_neg h1] at h
  cases h2 : l.any notV with
  | true => rw [h2] at h; cases h
  | false =>
    rw [h2, if_neg (by decide)] at h
    cases h3 : ascD 0 l with
    | false => rw [h3, if_pos rfl] at h; cases h
    | true =>
      refine ⟨by omega, fun A hA => ?_, h3⟩
      have := List.any_eq_false.1 h2 A hA
      unfold notV at this
      simpa using this
set_option maxRecDepth 100000 in
theorem asc_pair : ∀ (l : List Ad) (last : Int), ascD last l = true → (∀ A ∈ l, last < A.r) ∧ l.Pairwise (fun A B => A.r < B.r)
  | [], _, _ => ⟨(fun _ h => by cases h), List.Pairwise.nil⟩
  | A :: t, last, h => by
    rw [ascD, Bool.and_eq_true] at h
    have h1 := of_decide_eq_true h.1
    obtain ⟨h2, h3⟩ := asc_pair t A.r h.2
    refine ⟨fun B hB => ?_, List.pairwise_cons.2 ⟨h2, h3⟩⟩
    rcases List.mem_cons.1 hB with rfl | hB
    · exact h1
    · have := h2 B hB; omega
set_option maxRecDepth 100000 in
theorem OkD.pair {l : List Ad} (h : OkD l) : l.Pairwise (fun A B => A.r < B.r) := (asc_pair l 0 h.asc).2
end Go.Proofs.Ytnpkihioklpnmaa

/- slices.Clone of links, of claims and of adverts. -/
namespace Go.Proofs.Ytnpkihioklpnmaa
open Go.RowKit Bs
set_option maxRecDepth 100000 in
theorem info_ad5 : (Try.prog.info? 38).map (fun i => (i.zero, i.size, i.bytes)) = some (some (.agg #[.int .i64 0, .int .i64 0, .bool false, .slice none 0 0, .slice none 0 0]), 5, 72) := by kernel_rfl
set_option maxRecDepth 100000 in
set_option maxHeartbeats 1600000 in
theorem dclR_any (C : List T3) (p : Option Addr) (c : Nat) (q : Nat → Prop) (w : World) (hR : RdF w q (.slice p C.length c) C.length (C.flatMap t3C)) (hn : p = none → c = 0) (hc : C.length ≤ c ∧ c ≤ 9223372036854775807) (hm : C.length ≤ 1000) :
    Calls Try.prog 85 #[.slice p C.length c] w fun e w' => ∃ v, e = .returned v ∧ w'.ownsRow w.heap.size 73 3 v C.length (C.flatMap t3C) ∧ w.grownBy w' none := by
  obtain ⟨ii, hii, hi0, hi1, hi2⟩ := info_parts info_re
  cases p with
  | none =>
    obtain rfl := hn rfl
    have h0 : C.length = 0 := by omega
    obtain rfl := List.eq_nil_of_length_eq_zero h0
    clear hR
    have heq : ∀ w : World, (binOp .eql 35 (.slice none 0 0) (.slice none 0 0)).run Try.prog w = .ok (.bool true) w := fun w => Lib.run_eql_slice_nil w _ _ none 0 0 0 0 Try.underlying35
    go_enter Try.func85, Try.ntmps85
    go_wp2_with fail
    go_ret
    exact ⟨_, rfl, World.ownsRow_nil _ _ _ _, grown_refl _ _⟩
  | some ad =>
    have k0 := World.grownBy_alloc w (.cells #[] 73) none
    have hlit : (w.alloc (.cells #[] 73)).ownsRow w.heap.size 73 3 (.slice (some ⟨w.heap.size, 0, none⟩) 0 0) 0 (([] : List T3).flatMap t3C) := World.ownsRow_lit w #[] 0 (Nat.le_refl _) (by decide) rfl
    have HL := Lib.hid (And.intro hlit (And.intro k0 (hR.grown k0 (fun _ _ => by simp))))
    clear hlit k0 hR
    have heq : ∀ w : World, (binOp .eql 35 (.slice (some ad) C.length c) (.slice none 0 0)).run Try.prog w = .ok (.bool false) w := fun w => Lib.run_eql_slice_nil w _ _ (some ad) C.length c 0 0 Try.underlying35
    go_enter Try.func85, Try.ntmps85
    go_wp2_with (at_builtin; refine hold_on ?_)
    refine Lib.hid ?_
    refine wpList_append_f t3C 3 24 (by decide) (fun _ => rfl) t3_one 73 35 ii _ Try.underlying35 hii hi0 hi1 hi2 rfl (by decide) rfl _ _ rfl w.heap.size _ [] 0 rfl rfl HL.out.1 _ _ _ C rfl rfl (fun h => by cases h) q HL.out.2.2 hc.1 (by omega) (by simp) ?_
    intro v' w1 hown hg
    rw [List.nil_append] at hown
    have HO := Lib.hid (And.intro hown (old_grow HL.out.2.1 HL.out.1 (Nat.le_refl _) hg))
    clear hown hg
    go_wp2_with fail
    go_ret
    exact ⟨v', rfl, HO.out.1, HO.out.2⟩
set_option maxRecDepth 100000 in
set_option maxHeartbeats 1600000 in
theorem dclC_any (C : List T3) (p : Option Addr) (c : Nat) (q : Nat → Prop) (w : World) (hR : RdF w q (.slice p C.length c) C.length (C.flatMap t3C)) (hn : p = none → c = 0) (hc : C.length ≤ c ∧ c ≤ 9223372036854775807) (hm : C.length ≤ 1000) :
    Calls Try.prog 86 #[.slice p C.length c] w fun e w' => ∃ v, e = .returned v ∧ w'.ownsRow w.heap.size 62 3 v C.length (C.flatMap t3C) ∧ w.grownBy w' none := by
  obtain ⟨ii, hii, hi0, hi1, hi2⟩ := info_parts info_cm
  cases p with
  | none =>
    obtain rfl := hn rfl
    have h0 : C.length = 0 := by omega
    obtain rfl := List.eq_nil_of_length_eq_zero h0
    clear hR
    have heq : ∀ w : World, (binOp .eql 36 (.slice none 0 0) (.slice none 0 0)).run Try.prog w = .ok (.bool true) w := fun w => Lib.run_eql_slice_nil w _ _ none 0 0 0 0 Try.underlying36
    go_enter Try.func86, Try.ntmps86
    go_wp2_with fail
    go_ret
    exact ⟨_, rfl, World.ownsRow_nil _ _ _ _, grown_refl _ _⟩
  | some ad =>
    have k0 := World.grownBy_alloc w (.cells #[] 62) none
    have hlit : (w.alloc (.cells #[] 62)).ownsRow w.heap.size 62 3 (.slice (some ⟨w.heap.size, 0, none⟩) 0 0) 0 (([] : List T3).flatMap t3C) := World.ownsRow_lit w #[] 0 (Nat.le_refl _) (by decide) rfl
    have HL := Lib.hid (And.intro hlit (And.intro k0 (hR.grown k0 (fun _ _ => by simp))))
    clear hlit k0 hR
    have heq : ∀ w : World, (binOp .eql 36 (.slice (some ad) C.length c) (.slice none 0 0)).run Try.prog w = .ok (.bool false) w := fun w => Lib.run_eql_slice_nil w _ _ (some ad) C.length c 0 0 Try.underlying36
    go_enter Try.func86, Try.ntmps86
    go_wp2_with (at_builtin; refine hold_on ?_)
    refine Lib.hid ?_
    refine wpList_append_f t3C 3 24 (by decide) (fun _ => rfl) t3_one 62 36 ii _ Try.underlying36 hii hi0 hi1 hi2 rfl (by decide) rfl _ _ rfl w.heap.size _ [] 0 rfl rfl HL.out.1 _ _ _ C rfl rfl (fun h => by cases h) q HL.out.2.2 hc.1 (by omega) (by simp) ?_
    intro v' w1 hown hg
    rw [List.nil_append] at hown
    have HO := Lib.hid (And.intro hown (old_grow HL.out.2.1 HL.out.1 (Nat.le_refl _) hg))
    clear hown hg
    go_wp2_with fail
    go_ret
    exact ⟨v', rfl, HO.out.1, HO.out.2⟩
set_option maxRecDepth 100000 in
set_option maxHeartbeats 1600000 in
theorem dclA_any (C : List Ad) (p : Option Addr) (c : Nat) (q : Nat → Prop) (w : World) (hR : RdF w q (.slice p C.length c) C.length (C.flatMap adL)) (hn : p = none → c = 0) (hc : C.length ≤ c ∧ c ≤ 9223372036854775807) (hm : C.length ≤ 1000) :
    Calls Try.prog 87 #[.slice p C.length c] w fun e w' => ∃ v, e = .returned v ∧ w'.ownsRow w.heap.size 38 5 v C.length (C.flatMap adL) ∧ w.grownBy w' none := by
  obtain ⟨ii, hii, hi0, hi1, hi2⟩ := info_parts info_ad5
  cases p with
  | none =>
    obtain rfl := hn rfl
    have h0 : C.length = 0 := by omega
    obtain rfl := List.eq_nil_of_length_eq_zero h0
    clear hR
    have heq : ∀ w : World, (binOp .eql 23 (.slice none 0 0) (.slice none 0 0)).run Try.prog w = .ok (.bool true) w := fun w => Lib.run_eql_slice_nil w _ _ none 0 0 0 0 Try.underlying23
    go_enter Try.func87, Try.ntmps87
    go_wp2_with fail
    go_ret
    exact ⟨_, rfl, World.ownsRow_nil _ _ _ _, grown_refl _ _⟩
  | some ad =>
    have k0 := World.grownBy_alloc w (.cells #[] 38) none
    have hlit : (w.alloc (.cells #[] 38)).ownsRow w.heap.size 38 5 (.slice (some ⟨w.heap.size, 0, none⟩) 0 0) 0 (([] : List Ad).flatMap adL) := World.ownsRow_lit w #[] 0 (Nat.le_refl _) (by decide) rfl
    have HL := Lib.hid (And.intro hlit (And.intro k0 (hR.grown k0 (fun _ _ => by simp))))
    clear hlit k0 hR
    have heq : ∀ w : World, (binOp .eql 23 (.slice (some ad) C.length c) (.slice none 0 0)).run Try.prog w = .ok (.bool false) w := fun w => Lib.run_eql_slice_nil w _ _ (some ad) C.length c 0 0 Try.underlying23
    go_enter Try.func87, Try.ntmps87
    go_wp2_with (at_builtin; refine hold_on ?_)
    refine Lib.hid ?_
    refine wpList_append_f adL 5 72 (by decide) (fun _ => rfl) ad_one 38 23 ii _ Try.underlying23 hii hi0 hi1 hi2 rfl (by decide) rfl _ _ rfl w.heap.size _ [] 0 rfl rfl HL.out.1 _ _ _ C rfl rfl (fun h => by cases h) q HL.out.2.2 hc.1 (by omega) (by simp) ?_
    intro v' w1 hown hg
    rw [List.nil_append] at hown
    have HO := Lib.hid (And.intro hown (old_grow HL.out.2.1 HL.out.1 (Nat.le_refl _) hg))
    clear hown hg
    go_wp2_with fail
    go_ret
    exact ⟨v', rfl, HO.out.1, HO.out.2⟩
end Go.Proofs.Ytnpkihioklpnmaa

/- Parts of the proof, packed: ToUntil, ToFlr, ToStep. -/
import Derived.Deep.RegionHeld
import Derived.Test.YtiencdgmnkphjaaWio1
import Derived.Test.YtiencdgmnkphjaaWio6
import Derived.Test.YtiencdgmnkphjaaWio4
import Derived.Deep.CutBlock
import Derived.Maps.AppendAt
/- A region that draws its order: loads are taken first although a late operation writes their cells; what they want of the world holds until then. -/
namespace Go.Proofs.Ytiencdgmnkphjaa
open Go
section
variable {P : Program} {ops : Array Oper} {Q : Exit → Act → World → Prop} {md : Region.Mode} {S : World → Prop} {late : Nat → Bool}
/-- Any order from here on; S holds behind whatever is not late. -/
def anyU (P : Program) (md : Region.Mode) (ops : Array Oper) (Q : Exit → Act → World → Prop) (S : World → Prop) (late : Nat → Bool) : Nat → Array Bool → Act → World → Prop
  | 0, seen, a, w => Region.ready md ops seen = [] ∧ Q .normal a w
  | n + 1, seen, a, w => (Region.ready md ops seen = [] → Q .normal a w) ∧
      ∀ k, k ∈ Region.ready md ops seen → wpOp P ops Q k (fun b v => (late k = false → S v) ∧ anyU P md ops Q S late n (seen.setIfInBounds k true) b v) a w
theorem anyU_any (n : Nat) : ∀ (seen : Array Bool) (a : Act) (w : World), anyU P md ops Q S late n seen a w → wpAny P md ops Q n seen a w := by
  induction n with
  | zero => intro seen a w h; exact h
  | succ n ih => intro seen a w h; exact ⟨h.1, fun k hk => wpOp_mono (fun b v hb => ih _ b v hb.2) (h.2 k hk)⟩
/-- Number j waits for number i, perhaps by way of others. -/
def reach (md : Region.Mode) (ops : Array Oper) : Nat → Nat → Nat → Bool
  | 0, _, _ => false
  | n + 1, j, i => match ops[j]? with
    | some o => o.after.any fun e => Region.binds md e && (e.on == i || reach md ops n e.on i)
    | none => false
/-- Whatever is late waits for number i. -/
def waits (md : Region.Mode) (ops : Array Oper) (late : Nat → Bool) (i : Nat) : Bool :=
  (List.range ops.size).all fun j => !late j || reach md ops ops.size j i
/-- What has come up has come up behind all that it waits for. -/
def Shut1 (md : Region.Mode) (ops : Array Oper) (seen : Array Bool) : Prop :=
  ∀ (j : Nat) (o : Oper), ops[j]? = some o → seen.getD j false = true → ∀ e ∈ o.after, Region.binds md e = true → seen.getD e.on false = true
def shut1 (md : Region.Mode) (ops : Array Oper) (seen : Array Bool) : Bool :=
  (List.range ops.size).all fun j => !seen.getD j false || (match ops[j]? with
    | some o => o.after.all fun e => !Region.binds md e || seen.getD e.on false
    | none => true)
theorem shut1_spec {seen : Array Bool} (h : shut1 md ops seen = true) : Shut1 md ops seen := by
  intro j o ho hj e he hb
  unfold shut1 at h
  rw [List.all_eq_true] at h
  have h1 := h j (List.mem_range.2 (Array.getElem?_eq_some_iff.1 ho).1)
  rw [hj, ho] at h1
  simp only [Bool.not_true, Bool.false_or] at h1
  rw [Array.all_eq_true_iff_forall_mem] at h1
  have h2 := h1 e he
  rw [hb] at h2
  simpa using h2
theorem Shut1.step {seen : Array Bool} {j : Nat} (h : Shut1 md ops seen) (hj : j ∈ Region.ready md ops seen) : Shut1 md ops (seen.setIfInBounds j true) := by
  intro k o ho hk e he hb
  by_cases hjk : j = k
  · subst hjk
    obtain ⟨_, o2, ho2, hall⟩ := mem_ready.1 hj
    rw [ho] at ho2
    obtain rfl := Option.some.inj ho2
    exact getD_set_true (hall e he hb)
  · rw [getD_set_ne false hjk] at hk
    exact getD_set_true (h k o ho hk e he hb)
theorem reach_seen {seen : Array Bool} (hc : Shut1 md ops seen) (i : Nat) : ∀ (n j : Nat) (o : Oper), ops[j]? = some o → (∀ e ∈ o.after, Region.binds md e = true → seen.getD e.on false = true) → reach md ops n j i = true → seen.getD i false = true := by
  intro n
  induction n with
  | zero => intro j o _ _ h; cases h
  | succ n ih =>
    intro j o ho hall h
    unfold reach at h
    rw [ho] at h
    simp only at h
    rw [Array.any_eq_true'] at h
    obtain ⟨e, he, hb⟩ := h
    rw [Bool.and_eq_true, Bool.or_eq_true] at hb
    have h1 := hall e he hb.1
    rcases hb.2 with h2 | h2
    · have : e.on = i := by simpa using h2
      rwa [this] at h1
    · cases ho2 : ops[e.on]? with
      | none =>
        cases n with
        | zero => cases h2
        | succ n =>
          unfold reach at h2
          rw [ho2] at h2
          cases h2
      | some o2 => exact ih e.on o2 ho2 (hc e.on o2 ho2 h1) h2
theorem waits_seen {seen : Array Bool} {i j : Nat} (hw : waits md ops late i = true) (hc : Shut1 md ops seen) (hj : j ∈ Region.ready md ops seen) (hl : late j = true) : seen.getD i false = true := by
  obtain ⟨_, o, ho, hall⟩ := mem_ready.1 hj
  unfold waits at hw
  rw [List.all_eq_true] at hw
  have h1 := hw j (List.mem_range.2 (Array.getElem?_eq_some_iff.1 ho).1)
  rw [hl] at h1
  exact reach_seen hc i _ j o ho hall (by simpa using h1)
theorem anyU_first {i : Nat} {oi : Oper} {v : Value} (hi : ops[i]? = some oi) (hsel : ∀ (j : Nat) (o : Oper) cs b, ops[j]? = some o → o.op ≠ .select cs b)
    (hQ : ∀ c a w, Q (.panic c) (a.put oi.dst v) w → Q (.panic c) a w) (hw : waits md ops late i = true) (n : Nat) :
    ∀ (seen : Array Bool) (a : Act) (w : World),
      (∀ j oj, ops[j]? = some oj → j ≠ i → seen.getD j true = false → (∀ e ∈ oj.after, Region.binds md e = true → e.on ≠ i) → oi.apart ops oj = true) →
      Shut1 md ops seen → i ∈ Region.ready md ops seen → YieldsIf P ops S oi v a → S w → anyU P md ops Q S late n (seen.setIfInBounds i true) (a.put oi.dst v) w → anyU P md ops Q S late (n + 1) seen a w := by
  have now : ∀ (m : Nat) (seen : Array Bool) (a : Act) (w : World), YieldsIf P ops S oi v a → S w → anyU P md ops Q S late m (seen.setIfInBounds i true) (a.put oi.dst v) w →
      wpOp P ops Q i (fun b u => (late i = false → S u) ∧ anyU P md ops Q S late m (seen.setIfInBounds i true) b u) a w := fun m seen a w hy hS h => hy.wpOp hi hS ⟨fun _ => hS, h⟩
  induction n with
  | zero =>
    intro seen a w _ _ hr hy hS h
    refine ⟨fun e => (by rw [e] at hr; cases hr), fun j hj => ?_⟩
    by_cases e : j = i
    · exact e ▸ now 0 seen a w hy hS h
    · have := ready_mono hj e
      rw [h.1] at this
      cases this
  | succ n ih =>
    intro seen a w hf hc hr hy hS h
    refine ⟨fun e => (by rw [e] at hr; cases hr), fun j hj => ?_⟩
    by_cases e : j = i
    · exact e ▸ now (n + 1) seen a w hy hS h
    obtain ⟨hun, oj, hoj, hall⟩ := mem_ready.1 hj
    have hno : ∀ e ∈ oj.after, Region.binds md e = true → e.on ≠ i := fun e he hb hei => by
      have h1 := hall e he hb
      have h0 := (mem_ready.1 hr).1
      rw [hei] at h1
      by_cases hlt : i < seen.size
      · simp [hlt] at h0 h1
        rw [h0] at h1
        cases h1
      · simp [Array.getElem?_eq_none (Nat.le_of_not_lt hlt)] at h1
    have hl : late j = false := by
      cases hl : late j with
      | false => rfl
      | true =>
        have h1 := waits_seen hw hc hj hl
        have h0 := (mem_ready.1 hr).1
        by_cases hlt : i < seen.size
        · simp [hlt] at h0 h1
          rw [h0] at h1
          cases h1
        · simp [Array.getElem?_eq_none (Nat.le_of_not_lt hlt)] at h1
    refine wpOp_mono (fun b u hb => ⟨hb.2.1, ih _ b u (fun k ok hk hki hsk hnk => hf k ok hk hki ?_ hnk) (hc.step hj) (ready_mono hr (Ne.symm e)) hb.1 (hb.2.1 hl) (by rw [Array.setIfInBounds_comm _ _ e]; exact hb.2.2)⟩)
      (wpOp_putIf hoj (hf j oj hoj e hun hno) (fun cs b => hsel i oi cs b hi) (fun cs b => hsel j oj cs b hoj) hQ hy (h.2 j (ready_mono hj e)))
    by_cases hjk : j = k
    · exact hjk ▸ hun
    · rwa [getD_set_ne true hjk] at hsk
theorem anyU_take {i : Nat} {oi : Oper} {v : Value} {n : Nat} {seen : Array Bool} {a : Act} {w : World} (hi : ops[i]? = some oi) (hw : waits md ops late i = true)
    (hc : shut1 md ops seen = true) (hs : Region.noSelect ops = true) (hf : Region.free md ops seen i = true) (hr : (Region.ready md ops seen).contains i = true)
    (hQ : ∀ c a w, Q (.panic c) (a.put oi.dst v) w → Q (.panic c) a w) (hy : YieldsIf P ops S oi v a) (hS : S w)
    (h : anyU P md ops Q S late n (seen.setIfInBounds i true) (a.put oi.dst v) w) : anyU P md ops Q S late (n + 1) seen a w :=
  anyU_first hi (Region.noSelect_spec hs) hQ hw n seen a w (Region.free_spec hi hf) (shut1_spec hc) (by simpa using hr) hy hS h
/-- Each of some operations comes up next. -/
def EachU (P : Program) (md : Region.Mode) (ops : Array Oper) (Q : Exit → Act → World → Prop) (S : World → Prop) (late : Nat → Bool) (n : Nat) (seen : Array Bool) (a : Act) (w : World) (rs : List Nat) : Prop :=
  ∀ k ∈ rs, wpOp P ops Q k (fun b v => (late k = false → S v) ∧ anyU P md ops Q S late n (seen.setIfInBounds k true) b v) a w
theorem EachU.nil {n : Nat} {seen : Array Bool} {a : Act} {w : World} : EachU P md ops Q S late n seen a w [] := fun _ h => by cases h
theorem EachU.cons {n : Nat} {seen : Array Bool} {a : Act} {w : World} {i : Nat} {o : Oper} {rs : List Nat} (ho : ops[i]? = some o)
    (h : ∀ K : Act → World → Prop, Shut (∀ b v, (late i = false → S v) → ((late i = false → S v) → anyU P md ops Q S late n (seen.setIfInBounds i true) b v) → K b v) → if Region.wanted o (yielded ops a.tmps) = true then Oper.wp P o a w K Q else K (a.put o.dst undef) w)
    (hs : EachU P md ops Q S late n seen a w rs) : EachU P md ops Q S late n seen a w (i :: rs) := fun j hj => by
  rcases List.mem_cons.1 hj with rfl | hj
  · exact wpOp_step ho (fun K hK => h K (fun b v hS hW => hK b v ⟨hS, hW hS⟩))
  · exact hs j hj
theorem anyU_ready {rs : List Nat} {n : Nat} {seen : Array Bool} {a : Act} {w : World} (hr : Region.ready md ops seen = rs) (hne : rs ≠ []) (h : EachU P md ops Q S late n seen a w rs) : anyU P md ops Q S late (n + 1) seen a w :=
  ⟨fun e => absurd (hr ▸ e) hne, hr ▸ h⟩
theorem anyU_done {seen : Array Bool} {a : Act} {w : World} (hr : Region.ready md ops seen = []) (h : Q .normal a w) (n : Nat) : anyU P md ops Q S late n seen a w := by
  cases n with
  | zero => exact ⟨hr, h⟩
  | succ n => exact ⟨fun _ => h, by rw [hr]; intro k hk; cases hk⟩
theorem region_until {id : Nat} {a : Act} {w : World} (late : Nat → Bool) (hm : P.follows .mixedOrders = true) (hS : S w.drew) (h : S w.drew → anyU P .any ops Q S late ops.size (Array.replicate ops.size false) a w.drew) :
    (Code.region id ops true).wp P Q a w := wp_region_any hm (anyU_any _ _ _ _ (h hS))
end
end Go.Proofs.Ytiencdgmnkphjaa

/- The tape's Failure: some failure of at most one link or router, in memory of the call's own. -/
namespace Go.Proofs.Ytiencdgmnkphjaa
open Go.RowKit Bs
/-- While a failure is drawn. -/
structure FM (a : Nat) (w : World) (T : Tg) (q : Nat → Prop) (wr : World) : Prop where
  tb : wr.heap[w.heap.size]? = some (.cells #[.slice T.pR T.R.length T.cR, .slice T.pL T.L.length T.cL] 26 (0, 0))
  rb : wr.heap[w.heap.size + 1]? = some (.cells #[.slice none 0 0, .slice none 0 0] 47 (0, 0))
  t : TgOk wr q T
  st : St a w wr
  sz : w.heap.size + 2 ≤ wr.heap.size
theorem FM.keep {a : Nat} {w wr w1 : World} {T : Tg} {q : Nat → Prop} (h : FM a w T q wr) (g : wr.grownBy w1 none) : FM a w T q w1 :=
  ⟨kept_row h.tb g (by simp), kept_row h.rb g (by simp), h.t.keep g, h.st.trans ⟨grown_none g _, h.st.2.keep g⟩, Nat.le_trans h.sz g.size⟩
theorem FM.tape {a : Nat} {w wr w1 : World} {T : Tg} {q : Nat → Prop} (h : FM a w T q wr) (ha : a < w.heap.size) (hq : ∀ b, q b → b ≠ a) (k : St a wr w1) : FM a w T q w1 :=
  ⟨kept_row h.tb k.1 (fun e => by have := Option.some.inj e; omega), kept_row h.rb k.1 (fun e => by have := Option.some.inj e; omega), h.t.grown k.1 (fun b hb e => hq b hb (Option.some.inj e)), h.st.trans k, Nat.le_trans h.sz k.1.size⟩
theorem FM.lk {a : Nat} {w wr : World} {R : List Rt} {L : List Lk} {pR : Option Addr} {cR cL b off i : Nat} {q : Nat → Prop} {m : Lk} (h : FM a w ⟨R, L, pR, cR, some ⟨b, off, none⟩, cL⟩ q wr) (hm : L[i]? = some m) :
    wr.cell? ⟨b, off + i * 5, none⟩ = some (.int .i64 m.a) ∧ wr.cell? ⟨b, off + i * 5 + 1, none⟩ = some (.int .i64 m.b) ∧ wr.cell? ⟨b, off + i * 5 + 2, none⟩ = some (.int .i64 m.ca) ∧ wr.cell? ⟨b, off + i * 5 + 3, none⟩ = some (.int .i64 m.cb) ∧ wr.cell? ⟨b, off + i * 5 + 4, none⟩ = some (.int .i64 m.cp) := by
  have h1 := (List.getElem?_eq_some_iff.1 hm).1
  obtain ⟨-, b', off', e, -, hc⟩ := rdl_cells (L := L) h.t.l (by omega)
  injection e with e
  injection e with e4 e5
  subst e4
  subst e5
  exact hc i m hm
theorem FM.rt {a : Nat} {w wr : World} {R : List Rt} {L : List Lk} {pL : Option Addr} {cR cL b off i : Nat} {q : Nat → Prop} {m : Rt} (h : FM a w ⟨R, L, some ⟨b, off, none⟩, cR, pL, cL⟩ q wr) (hm : R[i]? = some m) :
    wr.cell? ⟨b, off + i * 2, none⟩ = some (.int .i64 m.id) ∧ wr.cell? ⟨b, off + i * 2 + 1, none⟩ = some (.bool m.cap) := by
  have h1 := (List.getElem?_eq_some_iff.1 hm).1
  obtain ⟨-, b', off', e, -, hc⟩ := rdr_cells (R := R) h.t.r (by omega)
  injection e with e
  injection e with e4 e5
  subst e4
  subst e5
  exact hc i m hm
/-- What returns a failure. -/
def FlPost (a k : Nat) (w : World) (e : Ending) (w' : World) : Prop :=
  ∃ (H : List Hp) (X : List Int) (vH vX : Value), e = .returned (.agg #[vH, vX]) ∧ w'.ownsRow w.heap.size 70 2 vH H.length (H.flatMap hpC) ∧ w'.ownsRow w.heap.size 3 1 vX X.length (X.map tv) ∧ (∀ g, vH.ownBlock = some g → vX.ownBlock ≠ some g) ∧ (H.length ≤ k ∧ X.length ≤ k) ∧ St a w w'
theorem fail_size : (Try.prog.info? 47).map (·.size) = some 2 := by kernel_rfl
theorem res_fail {fn : Func} {p : Tmp} (h : fn.results = #[.cell p 47]) (tmps : Array Value) (w : World) (g : Nat) (x y : Value) (hp : tmps.getD p undef = .pointer (some ⟨g, 0, none⟩)) (hg : w.heap[g]? = some (.cells #[x, y] 47 (0, 0))) :
    (results fn tmps).run Try.prog w = .ok (.agg #[x, y]) w :=
  results_cell_row h tmps w g _ _ _ _ hp hg Try.underlying47 rfl fail_size
theorem FM.fin {a : Nat} {w wr : World} {T : Tg} {q : Nat → Prop} {vH vX : Value} {H : List Hp} {X : List Int} (h : FM a w T q wr) (ha : a < w.heap.size)
    (hH : wr.ownsRow (w.heap.size + 2) 70 2 vH H.length (H.flatMap hpC)) (hX : wr.ownsRow (w.heap.size + 2) 3 1 vX X.length (X.map tv)) :
    ((wr.setCell ⟨w.heap.size + 1, 0, none⟩ vH).setCell ⟨w.heap.size + 1, 1, none⟩ vX).heap[w.heap.size + 1]? = some (.cells #[vH, vX] 47 (0, 0)) ∧
    ((wr.setCell ⟨w.heap.size + 1, 0, none⟩ vH).setCell ⟨w.heap.size + 1, 1, none⟩ vX).ownsRow w.heap.size 70 2 vH H.length (H.flatMap hpC) ∧
    ((wr.setCell ⟨w.heap.size + 1, 0, none⟩ vH).setCell ⟨w.heap.size + 1, 1, none⟩ vX).ownsRow w.heap.size 3 1 vX X.length (X.map tv) ∧
    St a w ((wr.setCell ⟨w.heap.size + 1, 0, none⟩ vH).setCell ⟨w.heap.size + 1, 1, none⟩ vX) := by
  have hst := grown_store2 wr (w.heap.size + 1) vH vX
  exact ⟨store2 h.rb, (own_other hH hst (by omega)).mono (by omega), (own_other hX hst (by omega)).mono (by omega), h.st.storeT hst (by omega) ha⟩
theorem row5 {w : World} {g : Nat} {x0 x1 x2 x3 x4 u0 u1 u2 u3 u4 : Value} {t : TypeId} (h : w.heap[g]? = some (.cells #[x0, x1, x2, x3, x4] t (0, 0))) :
    (((((w.setCell ⟨g, 0, none⟩ u0).setCell ⟨g, 1, none⟩ u1).setCell ⟨g, 2, none⟩ u2).setCell ⟨g, 3, none⟩ u3).setCell ⟨g, 4, none⟩ u4).heap[g]? = some (.cells #[u0, u1, u2, u3, u4] t (0, 0)) ∧
    w.grownBy (((((w.setCell ⟨g, 0, none⟩ u0).setCell ⟨g, 1, none⟩ u1).setCell ⟨g, 2, none⟩ u2).setCell ⟨g, 3, none⟩ u3).setCell ⟨g, 4, none⟩ u4) (some g) := by
  have h0 : TRow w g t [x0, x1, x2, x3, x4] := h
  have S : ∀ (u : World) (j : Nat) (x : Value), u.grownBy (u.setCell ⟨g, j, none⟩ x) (some g) := fun u j x => grown_setCell u ⟨g, j, none⟩ x
  exact ⟨(((((h0.set 0 u0).set 1 u1).set 2 u2).set 3 u3).set 4 u4), grown_trans (grown_trans (grown_trans (grown_trans (S _ _ _) (S _ _ _)) (S _ _ _)) (S _ _ _)) (S _ _ _)⟩
theorem FM.other {a g : Nat} {w wr w1 : World} {T : Tg} {q : Nat → Prop} (h : FM a w T q wr) (ha : a < w.heap.size) (k : wr.grownBy w1 (some g)) (hg : w.heap.size + 2 ≤ g) (hq : ∀ b, q b → b < g) : FM a w T q w1 :=
  ⟨kept_row h.tb k (fun e => by have := Option.some.inj e; omega), kept_row h.rb k (fun e => by have := Option.some.inj e; omega), h.t.grown k (fun b hb e => by have := hq b hb; have := Option.some.inj e; omega), h.st.storeT k (by omega) ha, Nat.le_trans h.sz k.size⟩
set_option maxRecDepth 100000 in
set_option maxHeartbeats 6400000 in
theorem fail_any (a : Nat) (T : Tg) (q : Nat → Prop) (w : World) (hT : TgOk w q T) (hq : ∀ b, q b → b ≠ a ∧ b < w.heap.size) (hp : Tp w a) :
    Calls Try.prog 29 #[.pointer (some ⟨a, 0, none⟩), .agg #[.slice T.pR T.R.length T.cR, .slice T.pL T.L.length T.cL]] w fun e w' => FlPost a 1 w e w' := by
  have ha := hp.lt
  have hmR := Nat.le_trans hT.cr.1 hT.cr.2
  have hmL := Nat.le_trans hT.cl.1 hT.cl.2
  obtain ⟨k1, k2, k3, _⟩ := two_boxes w #[.slice T.pR T.R.length T.cR, .slice T.pL T.L.length T.cL] #[.slice none 0 0, .slice none 0 0] 26 47
  have H0 : Hid (FM a w T q _) := Lib.hid ⟨k1, k2, hT.keep k3, ⟨grown_none k3 _, hp.keep k3⟩, by simp⟩
  have HQ : Hid (∀ b, q b → b ≠ a) := Lib.hid (fun b hb => (hq b hb).1)
  have HQ2 : Hid (∀ b, q b → b < w.heap.size) := Lib.hid (fun b hb => (hq b hb).2)
  clear k1 k2 k3 hT hp hq
  obtain ⟨R, L, pR, cR, pL, cL⟩ := T
  simp only at hmR hmL H0 ⊢
  go_enter Try.func29, Try.ntmps29
  go_upto_region 1 with fail
  generalize ((w.alloc _).alloc _) = wa at *
  obtain ⟨c0, c1⟩ := row_cells H0.out.tb
  go_cut [14] from 6 to 14 (fun bb wx => ∃ z, bb = .bool z ∧ Hid ((z = true → 0 < L.length) ∧ FM a w ⟨R, L, pR, cR, pL, cL⟩ q wx))
  case first =>
    by_cases hl : 0 < L.length
    · go_wp2_with fail
      refine (next_any a 3 (by unfold I64; omega) _ H0.out.st.2).mono ?_
      rintro e w5 ⟨x, rfl, -, hs⟩
      have H1 := Lib.hid (H0.out.tape ha HQ.out hs)
      clear hs H0
      go_wp2_with fail
      go_meet
      exact ⟨_, rfl, Lib.hid ⟨fun _ => hl, H1.out⟩⟩
    · have hl' : (L.length : Int) ≤ 0 := by omega
      clear hl
      go_wp2_with fail
      go_meet
      exact ⟨false, rfl, Lib.hid ⟨fun h => (by cases h), H0.out⟩⟩
  case rest =>
  obtain ⟨z, rfl, H1⟩ := hcut
  clear H0 c0 c1
  go_upto_if 14 with fail
  cases z
  · obtain ⟨c0, c1⟩ := row_cells H1.out.2.tb
    have f0 := frozen_of_row _ _ 0 _ _ H1.out.2.rb
    have f1 := frozen_of_row _ _ 1 _ _ H1.out.2.rb
    obtain ⟨d0, d1⟩ := row_cells H1.out.2.rb
    by_cases hr : 0 < R.length
    · have hr0 : ((R.length : Int) == 0) = false := by rw [beq_eq_false_iff_ne]; omega
      obtain ⟨-, b, off, rfl, hqb, -⟩ := rdr_cells (R := R) H1.out.2.t.r hr
      have H2 := Lib.hid H1.out.2
      go_upto_region 8 with fail
      clear c0 c1 H1
      refine region_until (S := fun w' => Hid (FM a w ⟨R, L, some ⟨b, off, none⟩, cR, pL, cL⟩ q w')) (fun j => j == 12) (by kernel_rfl) (Lib.hid (H2.out.keep (grown_drew (grown_refl _ _)))) (fun hHeld => ?_)
      refine anyU_take (i := 0) (oi := { dst := some 46, op := Op.fieldAddr 26 (Operand.tmp 3) 0, type := 0, pos := "make.go:448", after := #[], guard := none }) (v := ?_) rfl (by kernel_rfl) (by kernel_rfl) (by kernel_rfl) (by kernel_rfl) (by kernel_rfl) (fun _ _ _ h => h) (Or.inl ⟨by rfl, ?_⟩) hHeld ?_
      rotate_left 1
      · intro u hSu
        obtain ⟨q0, q1⟩ := row_cells hSu.out.tb
        go_simp
        first | done | with_reducible rfl
      (try simp only [Act.put, List.setIfInBounds_toArray, List.set_cons_zero, List.set_cons_succ])
      refine anyU_take (i := 1) (oi := { dst := some 47, op := Op.load 23 (Operand.tmp 46), type := 23, pos := "make.go:448", after := #[{ on := 0, ground := Ground.data }], guard := none }) (v := ?_) rfl (by kernel_rfl) (by kernel_rfl) (by kernel_rfl) (by kernel_rfl) (by kernel_rfl) (fun _ _ _ h => h) (Or.inl ⟨by rfl, ?_⟩) hHeld ?_
      rotate_left 1
      · intro u hSu
        obtain ⟨q0, q1⟩ := row_cells hSu.out.tb
        go_simp
        first | done | with_reducible rfl
      (try simp only [Act.put, List.setIfInBounds_toArray, List.set_cons_zero, List.set_cons_succ])
      refine anyU_take (i := 2) (oi := { dst := some 48, op := Op.move (Operand.tmp 0), type := 27, pos := "make.go:448", after := #[], guard := none }) (v := ?_) rfl (by kernel_rfl) (by kernel_rfl) (by kernel_rfl) (by kernel_rfl) (by kernel_rfl) (fun _ _ _ h => h) (Or.inl ⟨by rfl, ?_⟩) hHeld ?_
      rotate_left 1
      · intro u hSu
        obtain ⟨q0, q1⟩ := row_cells hSu.out.tb
        go_simp
        first | done | with_reducible rfl
      (try simp only [Act.put, List.setIfInBounds_toArray, List.set_cons_zero, List.set_cons_succ])
      refine anyU_take (i := 3) (oi := { dst := some 49, op := Op.fieldAddr 26 (Operand.tmp 3) 0, type := 0, pos := "make.go:448", after := #[], guard := none }) (v := ?_) rfl (by kernel_rfl) (by kernel_rfl) (by kernel_rfl) (by kernel_rfl) (by kernel_rfl) (fun _ _ _ h => h) (Or.inl ⟨by rfl, ?_⟩) hHeld ?_
      rotate_left 1
      · intro u hSu
        obtain ⟨q0, q1⟩ := row_cells hSu.out.tb
        go_simp
        first | done | with_reducible rfl
      (try simp only [Act.put, List.setIfInBounds_toArray, List.set_cons_zero, List.set_cons_succ])
      refine anyU_take (i := 4) (oi := { dst := some 50, op := Op.load 23 (Operand.tmp 49), type := 23, pos := "make.go:448", after := #[{ on := 3, ground := Ground.data }], guard := none }) (v := ?_) rfl (by kernel_rfl) (by kernel_rfl) (by kernel_rfl) (by kernel_rfl) (by kernel_rfl) (fun _ _ _ h => h) (Or.inl ⟨by rfl, ?_⟩) hHeld ?_
      rotate_left 1
      · intro u hSu
        obtain ⟨q0, q1⟩ := row_cells hSu.out.tb
        go_simp
        first | done | with_reducible rfl
      (try simp only [Act.put, List.setIfInBounds_toArray, List.set_cons_zero, List.set_cons_succ])
      refine anyU_take (i := 5) (oi := { dst := some 51, op := Op.call { callee := Callee.builtin Builtin.len, args := #[Operand.tmp 50], argTypes := #[23] }, type := 3, pos := "make.go:448", after := #[{ on := 4, ground := Ground.data }], guard := none }) (v := ?_) rfl (by kernel_rfl) (by kernel_rfl) (by kernel_rfl) (by kernel_rfl) (by kernel_rfl) (fun _ _ _ h => h) (Or.inl ⟨by rfl, ?_⟩) hHeld ?_
      rotate_left 1
      · intro u hSu
        obtain ⟨q0, q1⟩ := row_cells hSu.out.tb
        go_simp
        first | done | with_reducible rfl
      (try simp only [Act.put, List.setIfInBounds_toArray, List.set_cons_zero, List.set_cons_succ])
      refine anyU_ready (rs := [6]) (by kernel_rfl) (by simp) ?_
      refine EachU.cons (o := { dst := some 52, op := Op.call { callee := Callee.value (Operand.func 17), args := #[Operand.tmp 48, Operand.tmp 51], argTypes := #[27, 3] }, type := 3, pos := "make.go:448", after := #[{ on := 2, ground := Ground.data }, { on := 5, ground := Ground.data }], guard := none }) rfl (fun Kz hK => ?_) EachU.nil
      go_simp
      go_at_call 17
      refine (next_any a R.length (by unfold I64; omega) _ hHeld.out.st.2).mono ?_
      rintro e w5 ⟨y, rfl, hy, hs⟩
      obtain ⟨i, rfl⟩ := Int.eq_ofNat_of_zero_le hy.1
      have hi : i < R.length := by have := hy.2.1 (by omega); omega
      have H5n := Lib.hid (hHeld.out.tape ha HQ.out hs)
      clear hy hs
      have i0 : (0 : Int) ≤ (i : Int) := by omega
      have i1 : (i : Int) < (R.length : Int) := by omega
      obtain ⟨m, hm⟩ : ∃ m, R[i]? = some m := ⟨_, List.getElem?_eq_getElem hi⟩
      have HM := Lib.hid hm
      clear hm
      refine hK.out _ _ (fun _ => H5n) (fun hH2 => ?_)
      clear hK Kz hHeld
      have hHeld := hH2 rfl
      clear hH2
      (try simp only [Act.put, List.setIfInBounds_toArray, List.set_cons_zero, List.set_cons_succ])
      refine anyU_take (i := 7) (oi := { dst := some 53, op := Op.indexAddr 23 (Operand.tmp 47) (Operand.tmp 52), type := 0, pos := "make.go:448", after := #[{ on := 1, ground := Ground.data }, { on := 6, ground := Ground.data }], guard := none }) (v := ?_) rfl (by kernel_rfl) (by kernel_rfl) (by kernel_rfl) (by kernel_rfl) (by kernel_rfl) (fun _ _ _ h => h) (Or.inl ⟨by rfl, ?_⟩) hHeld ?_
      rotate_left 1
      · intro u hSu
        obtain ⟨q0, q1⟩ := row_cells hSu.out.tb
        go_simp
        first | done | with_reducible rfl
      (try simp only [Act.put, List.setIfInBounds_toArray, List.set_cons_zero, List.set_cons_succ])
      refine anyU_take (i := 8) (oi := { dst := some 54, op := Op.fieldAddr 73 (Operand.tmp 53) 0, type := 0, pos := "make.go:448", after := #[{ on := 7, ground := Ground.data }], guard := none }) (v := ?_) rfl (by kernel_rfl) (by kernel_rfl) (by kernel_rfl) (by kernel_rfl) (by kernel_rfl) (fun _ _ _ h => h) (Or.inl ⟨by rfl, ?_⟩) hHeld ?_
      rotate_left 1
      · intro u hSu
        obtain ⟨q0, q1⟩ := row_cells hSu.out.tb
        go_simp
        first | done | with_reducible rfl
      (try simp only [Act.put, List.setIfInBounds_toArray, List.set_cons_zero, List.set_cons_succ])
      refine anyU_take (i := 9) (oi := { dst := some 55, op := Op.load 3 (Operand.tmp 54), type := 3, pos := "make.go:448", after := #[{ on := 8, ground := Ground.data }], guard := none }) (v := ?_) rfl (by kernel_rfl) (by kernel_rfl) (by kernel_rfl) (by kernel_rfl) (by kernel_rfl) (fun _ _ _ h => h) (Or.inl ⟨by rfl, ?_⟩) hHeld ?_
      rotate_left 1
      · intro u hSu
        obtain ⟨q0, q1⟩ := row_cells hSu.out.tb
        obtain ⟨e0, e1⟩ := hSu.out.rt HM.out
        go_simp
        first | done | with_reducible rfl
      (try simp only [Act.put, List.setIfInBounds_toArray, List.set_cons_zero, List.set_cons_succ])
      refine anyU_ready (rs := [10]) (by kernel_rfl) (by simp) ?_
      refine EachU.cons (o := { dst := some 56, op := Op.buildSlice 22 1 #[(0, Operand.tmp 55)], type := 22, pos := "make.go:448", after := #[{ on := 9, ground := Ground.data }], guard := none }) rfl (fun Kz hK => ?_) EachU.nil
      have H8 := hHeld
      go_simp
      refine hK.out _ _ (fun _ => Lib.hid (hHeld.out.keep (World.grownBy_alloc _ _ none))) (fun hH2 => ?_)
      clear hK Kz hHeld
      have hHeld := hH2 rfl
      clear hH2
      (try simp only [Act.put, List.setIfInBounds_toArray, List.set_cons_zero, List.set_cons_succ])
      refine anyU_take (i := 11) (oi := { dst := some 57, op := Op.build 47 #[(1, Operand.tmp 56)], type := 47, pos := "make.go:448", after := #[{ on := 10, ground := Ground.data }], guard := none }) (v := ?_) rfl (by kernel_rfl) (by kernel_rfl) (by kernel_rfl) (by kernel_rfl) (by kernel_rfl) (fun _ _ _ h => h) (Or.inl ⟨by rfl, ?_⟩) hHeld ?_
      rotate_left 1
      · intro u hSu
        obtain ⟨q0, q1⟩ := row_cells hSu.out.tb
        go_simp
        first | done | with_reducible rfl
      (try simp only [Act.put, List.setIfInBounds_toArray, List.set_cons_zero, List.set_cons_succ])
      refine anyU_ready (rs := [12]) (by kernel_rfl) (by simp) ?_
      refine EachU.cons (o := { dst := none, op := Op.store 47 (Operand.tmp 4) (Operand.tmp 57), type := 0, pos := "make.go:448", after := #[{ on := 11, ground := Ground.data }, { on := 6, ground := Ground.chain }, { on := 0, ground := Ground.phase }, { on := 1, ground := Ground.phase }, { on := 2, ground := Ground.phase }, { on := 3, ground := Ground.phase }, { on := 4, ground := Ground.phase }, { on := 5, ground := Ground.phase }, { on := 6, ground := Ground.phase }, { on := 7, ground := Ground.phase }, { on := 8, ground := Ground.phase }, { on := 9, ground := Ground.phase }, { on := 10, ground := Ground.phase }, { on := 11, ground := Ground.phase }], guard := none }) rfl (fun Kz hK => ?_) EachU.nil
      have cc := row_cells hHeld.out.rb
      have c90 := cc.1
      have c91 := cc.2
      have fB := frozen_of_row _ _ 0 _ _ hHeld.out.rb
      have fC := frozen_of_row _ _ 1 _ _ hHeld.out.rb
      clear cc
      go_simp
      refine hK.out _ _ (fun h => by cases h) (fun _ => ?_)
      clear hK Kz
      (try simp only [Act.put, List.setIfInBounds_toArray, List.set_cons_zero, List.set_cons_succ])
      refine anyU_done (by kernel_rfl) ?_ _
      have hlit := World.ownsRow_lit (size := 1) w5 #[.int .i64 m.id] 1 (H8.out.sz) (by decide) (by rfl) (e := 3)
      have H9 := Lib.hid ((H8.out.keep (World.grownBy_alloc w5 (.cells #[.int .i64 m.id] 3) none)).fin (H := []) (X := [m.id]) ha (World.ownsRow_nil _ _ _ _) hlit)
      clear hlit hHeld H8 c90 c91 fB fC
      go_wp2_with fail
      refine bodyPost_ret (res_fail rfl _ _ (w.heap.size + 1) _ _ rfl H9.out.1) rfl ?_
      exact ⟨[], [m.id], _, _, rfl, H9.out.2.1, H9.out.2.2.1, fun g hg => (by cases hg), ⟨by simp, by simp⟩, H9.out.2.2.2⟩
    · have hr0 : ((R.length : Int) == 0) = true := by rw [beq_iff_eq]; omega
      have HZ := Lib.hid (H1.out.2.fin (vH := .slice none 0 0) (vX := .slice none 0 0) (H := []) (X := []) ha (World.ownsRow_nil _ _ _ _) (World.ownsRow_nil _ _ _ _))
      clear H1
      go_wp2_with fail
      refine bodyPost_ret (res_fail rfl _ _ (w.heap.size + 1) _ _ rfl HZ.out.1) rfl ?_
      exact ⟨[], [], _, _, rfl, HZ.out.2.1, HZ.out.2.2.1, fun g hg => (by cases hg), ⟨by simp, by simp⟩, HZ.out.2.2.2⟩
  · have hl := H1.out.1 rfl
    obtain ⟨-, b, off, rfl, hqb, -⟩ := rdl_cells (L := L) H1.out.2.t.l hl
    have H2 := Lib.hid H1.out.2
    have hmem : ∀ (wz : World) (B5 : Nat) (m : Lk), Hid (wz.heap[B5]? = some (.cells #[.int .i64 m.a, .int .i64 m.b, .int .i64 m.ca, .int .i64 m.cb, .int .i64 m.cp] 68 (0, 0)) ∧ FM a w ⟨R, L, pR, cR, some ⟨b, off, none⟩, cL⟩ q wz) → True := fun _ _ _ _ => trivial
    clear hmem H1
    go_upto_region 2 with fail
    refine region_until (S := fun w' => Hid (FM a w ⟨R, L, pR, cR, some ⟨b, off, none⟩, cL⟩ q w')) (fun j => j == 10) (by kernel_rfl) (Lib.hid (H2.out.keep (grown_drew (grown_refl _ _)))) (fun hHeld => ?_)
    refine anyU_take (i := 0) (oi := { dst := some 15, op := Op.fieldAddr 26 (Operand.tmp 3) 1, type := 0, pos := "make.go:439", after := #[], guard := none }) (v := ?_) rfl (by kernel_rfl) (by kernel_rfl) (by kernel_rfl) (by kernel_rfl) (by kernel_rfl) (fun _ _ _ h => h) (Or.inl ⟨by rfl, ?_⟩) hHeld ?_
    rotate_left 1
    · intro u hSu
      obtain ⟨q0, q1⟩ := row_cells hSu.out.tb
      go_simp
      first | done | with_reducible rfl
    (try simp only [Act.put, List.setIfInBounds_toArray, List.set_cons_zero, List.set_cons_succ])
    refine anyU_take (i := 1) (oi := { dst := some 16, op := Op.load 24 (Operand.tmp 15), type := 24, pos := "make.go:439", after := #[{ on := 0, ground := Ground.data }], guard := none }) (v := ?_) rfl (by kernel_rfl) (by kernel_rfl) (by kernel_rfl) (by kernel_rfl) (by kernel_rfl) (fun _ _ _ h => h) (Or.inl ⟨by rfl, ?_⟩) hHeld ?_
    rotate_left 1
    · intro u hSu
      obtain ⟨q0, q1⟩ := row_cells hSu.out.tb
      go_simp
      first | done | with_reducible rfl
    (try simp only [Act.put, List.setIfInBounds_toArray, List.set_cons_zero, List.set_cons_succ])
    refine anyU_take (i := 2) (oi := { dst := some 17, op := Op.move (Operand.tmp 0), type := 27, pos := "make.go:439", after := #[], guard := none }) (v := ?_) rfl (by kernel_rfl) (by kernel_rfl) (by kernel_rfl) (by kernel_rfl) (by kernel_rfl) (fun _ _ _ h => h) (Or.inl ⟨by rfl, ?_⟩) hHeld ?_
    rotate_left 1
    · intro u hSu
      obtain ⟨q0, q1⟩ := row_cells hSu.out.tb
      go_simp
      first | done | with_reducible rfl
    (try simp only [Act.put, List.setIfInBounds_toArray, List.set_cons_zero, List.set_cons_succ])
    refine anyU_take (i := 3) (oi := { dst := some 18, op := Op.fieldAddr 26 (Operand.tmp 3) 1, type := 0, pos := "make.go:439", after := #[], guard := none }) (v := ?_) rfl (by kernel_rfl) (by kernel_rfl) (by kernel_rfl) (by kernel_rfl) (by kernel_rfl) (fun _ _ _ h => h) (Or.inl ⟨by rfl, ?_⟩) hHeld ?_
    rotate_left 1
    · intro u hSu
      obtain ⟨q0, q1⟩ := row_cells hSu.out.tb
      go_simp
      first | done | with_reducible rfl
    (try simp only [Act.put, List.setIfInBounds_toArray, List.set_cons_zero, List.set_cons_succ])
    refine anyU_take (i := 4) (oi := { dst := some 19, op := Op.load 24 (Operand.tmp 18), type := 24, pos := "make.go:439", after := #[{ on := 3, ground := Ground.data }], guard := none }) (v := ?_) rfl (by kernel_rfl) (by kernel_rfl) (by kernel_rfl) (by kernel_rfl) (by kernel_rfl) (fun _ _ _ h => h) (Or.inl ⟨by rfl, ?_⟩) hHeld ?_
    rotate_left 1
    · intro u hSu
      obtain ⟨q0, q1⟩ := row_cells hSu.out.tb
      go_simp
      first | done | with_reducible rfl
    (try simp only [Act.put, List.setIfInBounds_toArray, List.set_cons_zero, List.set_cons_succ])
    refine anyU_take (i := 5) (oi := { dst := some 20, op := Op.call { callee := Callee.builtin Builtin.len, args := #[Operand.tmp 19], argTypes := #[24] }, type := 3, pos := "make.go:439", after := #[{ on := 4, ground := Ground.data }], guard := none }) (v := ?_) rfl (by kernel_rfl) (by kernel_rfl) (by kernel_rfl) (by kernel_rfl) (by kernel_rfl) (fun _ _ _ h => h) (Or.inl ⟨by rfl, ?_⟩) hHeld ?_
    rotate_left 1
    · intro u hSu
      obtain ⟨q0, q1⟩ := row_cells hSu.out.tb
      go_simp
      first | done | with_reducible rfl
    (try simp only [Act.put, List.setIfInBounds_toArray, List.set_cons_zero, List.set_cons_succ])
    refine anyU_ready (rs := [6, 9]) (by kernel_rfl) (by simp) ?_
    refine EachU.cons (o := { dst := some 21, op := Op.call { callee := Callee.value (Operand.func 17), args := #[Operand.tmp 17, Operand.tmp 20], argTypes := #[27, 3] }, type := 3, pos := "make.go:439", after := #[{ on := 2, ground := Ground.data }, { on := 5, ground := Ground.data }], guard := none }) rfl (fun Kz hK => ?_) (EachU.cons (o := { dst := some 5, op := Op.alloc 68, type := 0, pos := "make.go:439", after := #[], guard := none }) rfl (fun Kz hK => ?_) EachU.nil)
    · go_simp
      go_at_call 17
      refine (next_any a L.length (by unfold I64; omega) _ hHeld.out.st.2).mono ?_
      rintro e w5 ⟨y, rfl, hy, hs⟩
      obtain ⟨i, rfl⟩ := Int.eq_ofNat_of_zero_le hy.1
      have hi : i < L.length := by have := hy.2.1 (by omega); omega
      have H5n := Lib.hid (hHeld.out.tape ha HQ.out hs)
      first | (have HB9 : Hid (w5.heap[wc.heap.size]? = some (.cells #[.int .i64 0, .int .i64 0, .int .i64 0, .int .i64 0, .int .i64 0] 68 (0, 0))) := Lib.hid (kept_row (heap_alloc_new wc.drew (.cells #[.int .i64 0, .int .i64 0, .int .i64 0, .int .i64 0, .int .i64 0] 68)) hs.1 (fun e => by have h1 := Option.some.inj e; have h2 := HA9.out.sz; have h3 : wc.drew.heap.size = wc.heap.size := rfl; omega))) | skip
      clear hy hs
      have i0 : (0 : Int) ≤ (i : Int) := by omega
      have i1 : (i : Int) < (L.length : Int) := by omega
      obtain ⟨m, hm⟩ : ∃ m, L[i]? = some m := ⟨_, List.getElem?_eq_getElem hi⟩
      have HM := Lib.hid hm
      clear hm
      refine hK.out _ _ (fun _ => H5n) (fun hH2 => ?_)
      clear hK Kz hHeld
      have hHeld := hH2 rfl
      clear hH2
      (try simp only [Act.put, List.setIfInBounds_toArray, List.set_cons_zero, List.set_cons_succ])
      refine anyU_take (i := 7) (oi := { dst := some 22, op := Op.indexAddr 24 (Operand.tmp 16) (Operand.tmp 21), type := 0, pos := "make.go:439", after := #[{ on := 1, ground := Ground.data }, { on := 6, ground := Ground.data }], guard := none }) (v := ?_) rfl (by kernel_rfl) (by kernel_rfl) (by kernel_rfl) (by kernel_rfl) (by kernel_rfl) (fun _ _ _ h => h) (Or.inl ⟨by rfl, ?_⟩) hHeld ?_
      rotate_left 1
      · intro u hSu
        obtain ⟨q0, q1⟩ := row_cells hSu.out.tb
        go_simp
        first | done | with_reducible rfl
      (try simp only [Act.put, List.setIfInBounds_toArray, List.set_cons_zero, List.set_cons_succ])
      refine anyU_take (i := 8) (oi := { dst := some 23, op := Op.load 68 (Operand.tmp 22), type := 68, pos := "make.go:439", after := #[{ on := 7, ground := Ground.data }], guard := none }) (v := ?_) rfl (by kernel_rfl) (by kernel_rfl) (by kernel_rfl) (by kernel_rfl) (by kernel_rfl) (fun _ _ _ h => h) (Or.inl ⟨by rfl, ?_⟩) hHeld ?_
      rotate_left 1
      · intro u hSu
        obtain ⟨q0, q1⟩ := row_cells hSu.out.tb
        obtain ⟨e0, e1, e2, e3, e4⟩ := hSu.out.lk HM.out
        go_simp
        first | done | with_reducible rfl
      (try simp only [Act.put, List.setIfInBounds_toArray, List.set_cons_zero, List.set_cons_succ])
      refine anyU_ready (rs := [9]) (by kernel_rfl) (by simp) ?_
      refine EachU.cons (o := { dst := some 5, op := Op.alloc 68, type := 0, pos := "make.go:439", after := #[], guard := none }) rfl (fun Kz hK => ?_) EachU.nil
      have HA9 := hHeld
      go_simp
      refine hK.out _ _ (fun _ => Lib.hid (hHeld.out.keep (World.grownBy_alloc _ _ none))) (fun hH2 => ?_)
      clear hK Kz hHeld
      have hHeld := hH2 rfl
      clear hH2
      (try simp only [Act.put, List.setIfInBounds_toArray, List.set_cons_zero, List.set_cons_succ])
      refine anyU_ready (rs := [10]) (by kernel_rfl) (by simp) ?_
      refine EachU.cons (o := { dst := none, op := Op.store 68 (Operand.tmp 5) (Operand.tmp 23), type := 0, pos := "make.go:439", after := #[{ on := 9, ground := Ground.data }, { on := 8, ground := Ground.data }, { on := 6, ground := Ground.chain }, { on := 0, ground := Ground.phase }, { on := 1, ground := Ground.phase }, { on := 2, ground := Ground.phase }, { on := 3, ground := Ground.phase }, { on := 4, ground := Ground.phase }, { on := 5, ground := Ground.phase }, { on := 6, ground := Ground.phase }, { on := 7, ground := Ground.phase }, { on := 8, ground := Ground.phase }, { on := 9, ground := Ground.phase }], guard := none }) rfl (fun Kz hK => ?_) EachU.nil
      first | (have lz := lk_facts (l := ⟨0, 0, 0, 0, 0⟩) HB9.out; have z0 := lz.1; have z1 := lz.2.1; have z2 := lz.2.2.1; have z3 := lz.2.2.2.1; have z4 := lz.2.2.2.2; clear lz; have y0 := frozen_of_row _ _ 0 _ _ HB9.out; have y1 := frozen_of_row _ _ 1 _ _ HB9.out; have y2 := frozen_of_row _ _ 2 _ _ HB9.out; have y3 := frozen_of_row _ _ 3 _ _ HB9.out; have y4 := frozen_of_row _ _ 4 _ _ HB9.out) | skip
      go_simp
      refine hK.out _ _ (fun h => by cases h) (fun _ => ?_)
      clear hK Kz
      (try simp only [Act.put, List.setIfInBounds_toArray, List.set_cons_zero, List.set_cons_succ])
      refine anyU_done (by kernel_rfl) ?_ _
      first | (have H9 := Lib.hid (And.intro (row5 (u0 := .int .i64 m.a) (u1 := .int .i64 m.b) (u2 := .int .i64 m.ca) (u3 := .int .i64 m.cb) (u4 := .int .i64 m.cp) HB9.out).1 (hHeld.out.other ha (row5 (u0 := .int .i64 m.a) (u1 := .int .i64 m.b) (u2 := .int .i64 m.ca) (u3 := .int .i64 m.cb) (u4 := .int .i64 m.cp) HB9.out).2 HA9.out.sz (fun b hb => Nat.lt_of_lt_of_le (HQ2.out b hb) (Nat.le_trans (by omega) HA9.out.sz)))); have HB5 : Hid (a < wc.heap.size) := Lib.hid (Nat.lt_of_lt_of_le ha (Nat.le_trans (by omega) HA9.out.sz))) | (have H9 := Lib.hid (And.intro (heap_alloc_new w5 (.cells #[.int .i64 m.a, .int .i64 m.b, .int .i64 m.ca, .int .i64 m.cb, .int .i64 m.cp] 68)) (HA9.out.keep (World.grownBy_alloc w5 (.cells #[.int .i64 m.a, .int .i64 m.b, .int .i64 m.ca, .int .i64 m.cb, .int .i64 m.cp] 68) none))); have HB5 : Hid (a < w5.heap.size) := Lib.hid (Nat.lt_of_lt_of_le ha (Nat.le_trans (by omega) HA9.out.sz)))
      clear hHeld HA9
      try clear z0 z1 z2 z3 z4 y0 y1 y2 y3 y4
      try clear HB9
      have f0 := frozen_of_row _ _ 0 _ _ H9.out.2.rb
      obtain ⟨l0, l1, l2, l3, l4⟩ := lk_facts H9.out.1
      go_wp2_with fail
      refine (next_any a 2 (by unfold I64; omega) _ H9.out.2.st.2).mono ?_
      rintro e w6 ⟨yy, rfl, hy, hs⟩
      have H10 := Lib.hid (H9.out.2.tape ha HQ.out hs)
      have HLK := Lib.hid (kept_row H9.out.1 hs.1 (fun e => by have := Option.some.inj e; have := HB5.out; omega))
      clear hs H9 l0 l1 l2 l3 l4 f0
      obtain ⟨l0, l1, l2, l3, l4⟩ := lk_facts HLK.out
      obtain ⟨d0, d1⟩ := row_cells H10.out.rb
      have f0 := frozen_of_row _ _ 0 _ _ H10.out.rb
      have f1 := frozen_of_row _ _ 1 _ _ H10.out.rb
      by_cases hy0 : yy = 0
      · have hy1 : (yy == 0) = true := by simpa using hy0
        clear hy0 hy
        have HK := H10.out.keep (World.grownBy_alloc w6 (.cells #[.int .i64 m.b, .int .i64 m.a] 70) none)
        obtain ⟨A0, A1⟩ := row_cells HK.rb
        have B0 := frozen_of_row _ _ 0 _ _ HK.rb
        have B1 := frozen_of_row _ _ 1 _ _ HK.rb
        clear HK
        have hlit := World.ownsRow_lit (size := 2) w6 #[.int .i64 m.b, .int .i64 m.a] 1 (H10.out.sz) (by decide) (by rfl) (e := 70)
        have H11 := Lib.hid ((H10.out.keep (World.grownBy_alloc w6 (.cells #[.int .i64 m.b, .int .i64 m.a] 70) none)).fin (H := [⟨m.b, m.a⟩]) (X := []) ha hlit (World.ownsRow_nil _ _ _ _))
        clear hlit H10 HLK
        go_wp2_with fail
        refine bodyPost_ret (res_fail rfl _ _ (w.heap.size + 1) _ _ rfl H11.out.1) rfl ?_
        exact ⟨[⟨m.b, m.a⟩], [], _, _, rfl, H11.out.2.1, H11.out.2.2.1, fun g _ hg => (by cases hg), ⟨by simp, by simp⟩, H11.out.2.2.2⟩
      · have hy1 : (yy == 0) = false := by simpa using hy0
        clear hy0 hy
        have HK := H10.out.keep (World.grownBy_alloc w6 (.cells #[.int .i64 m.a, .int .i64 m.b] 70) none)
        obtain ⟨A0, A1⟩ := row_cells HK.rb
        have B0 := frozen_of_row _ _ 0 _ _ HK.rb
        have B1 := frozen_of_row _ _ 1 _ _ HK.rb
        clear HK
        have hlit := World.ownsRow_lit (size := 2) w6 #[.int .i64 m.a, .int .i64 m.b] 1 (H10.out.sz) (by decide) (by rfl) (e := 70)
        have H11 := Lib.hid ((H10.out.keep (World.grownBy_alloc w6 (.cells #[.int .i64 m.a, .int .i64 m.b] 70) none)).fin (H := [⟨m.a, m.b⟩]) (X := []) ha hlit (World.ownsRow_nil _ _ _ _))
        clear hlit H10 HLK
        go_wp2_with fail
        refine bodyPost_ret (res_fail rfl _ _ (w.heap.size + 1) _ _ rfl H11.out.1) rfl ?_
        exact ⟨[⟨m.a, m.b⟩], [], _, _, rfl, H11.out.2.1, H11.out.2.2.1, fun g _ hg => (by cases hg), ⟨by simp, by simp⟩, H11.out.2.2.2⟩
    · have HA9 := hHeld
      go_simp
      refine hK.out _ _ (fun _ => Lib.hid (hHeld.out.keep (World.grownBy_alloc _ _ none))) (fun hH2 => ?_)
      clear hK Kz hHeld
      have hHeld := hH2 rfl
      clear hH2
      (try simp only [Act.put, List.setIfInBounds_toArray, List.set_cons_zero, List.set_cons_succ])
      refine anyU_ready (rs := [6]) (by kernel_rfl) (by simp) ?_
      refine EachU.cons (o := { dst := some 21, op := Op.call { callee := Callee.value (Operand.func 17), args := #[Operand.tmp 17, Operand.tmp 20], argTypes := #[27, 3] }, type := 3, pos := "make.go:439", after := #[{ on := 2, ground := Ground.data }, { on := 5, ground := Ground.data }], guard := none }) rfl (fun Kz hK => ?_) EachU.nil
      go_simp
      go_at_call 17
      refine (next_any a L.length (by unfold I64; omega) _ hHeld.out.st.2).mono ?_
      rintro e w5 ⟨y, rfl, hy, hs⟩
      obtain ⟨i, rfl⟩ := Int.eq_ofNat_of_zero_le hy.1
      have hi : i < L.length := by have := hy.2.1 (by omega); omega
      have H5n := Lib.hid (hHeld.out.tape ha HQ.out hs)
      first | (have HB9 : Hid (w5.heap[wc.heap.size]? = some (.cells #[.int .i64 0, .int .i64 0, .int .i64 0, .int .i64 0, .int .i64 0] 68 (0, 0))) := Lib.hid (kept_row (heap_alloc_new wc.drew (.cells #[.int .i64 0, .int .i64 0, .int .i64 0, .int .i64 0, .int .i64 0] 68)) hs.1 (fun e => by have h1 := Option.some.inj e; have h2 := HA9.out.sz; have h3 : wc.drew.heap.size = wc.heap.size := rfl; omega))) | skip
      clear hy hs
      have i0 : (0 : Int) ≤ (i : Int) := by omega
      have i1 : (i : Int) < (L.length : Int) := by omega
      obtain ⟨m, hm⟩ : ∃ m, L[i]? = some m := ⟨_, List.getElem?_eq_getElem hi⟩
      have HM := Lib.hid hm
      clear hm
      refine hK.out _ _ (fun _ => H5n) (fun hH2 => ?_)
      clear hK Kz hHeld
      have hHeld := hH2 rfl
      clear hH2
      (try simp only [Act.put, List.setIfInBounds_toArray, List.set_cons_zero, List.set_cons_succ])
      refine anyU_take (i := 7) (oi := { dst := some 22, op := Op.indexAddr 24 (Operand.tmp 16) (Operand.tmp 21), type := 0, pos := "make.go:439", after := #[{ on := 1, ground := Ground.data }, { on := 6, ground := Ground.data }], guard := none }) (v := ?_) rfl (by kernel_rfl) (by kernel_rfl) (by kernel_rfl) (by kernel_rfl) (by kernel_rfl) (fun _ _ _ h => h) (Or.inl ⟨by rfl, ?_⟩) hHeld ?_
      rotate_left 1
      · intro u hSu
        obtain ⟨q0, q1⟩ := row_cells hSu.out.tb
        go_simp
        first | done | with_reducible rfl
      (try simp only [Act.put, List.setIfInBounds_toArray, List.set_cons_zero, List.set_cons_succ])
      refine anyU_take (i := 8) (oi := { dst := some 23, op := Op.load 68 (Operand.tmp 22), type := 68, pos := "make.go:439", after := #[{ on := 7, ground := Ground.data }], guard := none }) (v := ?_) rfl (by kernel_rfl) (by kernel_rfl) (by kernel_rfl) (by kernel_rfl) (by kernel_rfl) (fun _ _ _ h => h) (Or.inl ⟨by rfl, ?_⟩) hHeld ?_
      rotate_left 1
      · intro u hSu
        obtain ⟨q0, q1⟩ := row_cells hSu.out.tb
        obtain ⟨e0, e1, e2, e3, e4⟩ := hSu.out.lk HM.out
        go_simp
        first | done | with_reducible rfl
      (try simp only [Act.put, List.setIfInBounds_toArray, List.set_cons_zero, List.set_cons_succ])
      refine anyU_ready (rs := [10]) (by kernel_rfl) (by simp) ?_
      refine EachU.cons (o := { dst := none, op := Op.store 68 (Operand.tmp 5) (Operand.tmp 23), type := 0, pos := "make.go:439", after := #[{ on := 9, ground := Ground.data }, { on := 8, ground := Ground.data }, { on := 6, ground := Ground.chain }, { on := 0, ground := Ground.phase }, { on := 1, ground := Ground.phase }, { on := 2, ground := Ground.phase }, { on := 3, ground := Ground.phase }, { on := 4, ground := Ground.phase }, { on := 5, ground := Ground.phase }, { on := 6, ground := Ground.phase }, { on := 7, ground := Ground.phase }, { on := 8, ground := Ground.phase }, { on := 9, ground := Ground.phase }], guard := none }) rfl (fun Kz hK => ?_) EachU.nil
      first | (have lz := lk_facts (l := ⟨0, 0, 0, 0, 0⟩) HB9.out; have z0 := lz.1; have z1 := lz.2.1; have z2 := lz.2.2.1; have z3 := lz.2.2.2.1; have z4 := lz.2.2.2.2; clear lz; have y0 := frozen_of_row _ _ 0 _ _ HB9.out; have y1 := frozen_of_row _ _ 1 _ _ HB9.out; have y2 := frozen_of_row _ _ 2 _ _ HB9.out; have y3 := frozen_of_row _ _ 3 _ _ HB9.out; have y4 := frozen_of_row _ _ 4 _ _ HB9.out) | skip
      go_simp
      refine hK.out _ _ (fun h => by cases h) (fun _ => ?_)
      clear hK Kz
      (try simp only [Act.put, List.setIfInBounds_toArray, List.set_cons_zero, List.set_cons_succ])
      refine anyU_done (by kernel_rfl) ?_ _
      first | (have H9 := Lib.hid (And.intro (row5 (u0 := .int .i64 m.a) (u1 := .int .i64 m.b) (u2 := .int .i64 m.ca) (u3 := .int .i64 m.cb) (u4 := .int .i64 m.cp) HB9.out).1 (hHeld.out.other ha (row5 (u0 := .int .i64 m.a) (u1 := .int .i64 m.b) (u2 := .int .i64 m.ca) (u3 := .int .i64 m.cb) (u4 := .int .i64 m.cp) HB9.out).2 HA9.out.sz (fun b hb => Nat.lt_of_lt_of_le (HQ2.out b hb) (Nat.le_trans (by omega) HA9.out.sz)))); have HB5 : Hid (a < wc.heap.size) := Lib.hid (Nat.lt_of_lt_of_le ha (Nat.le_trans (by omega) HA9.out.sz))) | (have H9 := Lib.hid (And.intro (heap_alloc_new w5 (.cells #[.int .i64 m.a, .int .i64 m.b, .int .i64 m.ca, .int .i64 m.cb, .int .i64 m.cp] 68)) (HA9.out.keep (World.grownBy_alloc w5 (.cells #[.int .i64 m.a, .int .i64 m.b, .int .i64 m.ca, .int .i64 m.cb, .int .i64 m.cp] 68) none))); have HB5 : Hid (a < w5.heap.size) := Lib.hid (Nat.lt_of_lt_of_le ha (Nat.le_trans (by omega) HA9.out.sz)))
      clear hHeld HA9
      try clear z0 z1 z2 z3 z4 y0 y1 y2 y3 y4
      try clear HB9
      have f0 := frozen_of_row _ _ 0 _ _ H9.out.2.rb
      obtain ⟨l0, l1, l2, l3, l4⟩ := lk_facts H9.out.1
      go_wp2_with fail
      refine (next_any a 2 (by unfold I64; omega) _ H9.out.2.st.2).mono ?_
      rintro e w6 ⟨yy, rfl, hy, hs⟩
      have H10 := Lib.hid (H9.out.2.tape ha HQ.out hs)
      have HLK := Lib.hid (kept_row H9.out.1 hs.1 (fun e => by have := Option.some.inj e; have := HB5.out; omega))
      clear hs H9 l0 l1 l2 l3 l4 f0
      obtain ⟨l0, l1, l2, l3, l4⟩ := lk_facts HLK.out
      obtain ⟨d0, d1⟩ := row_cells H10.out.rb
      have f0 := frozen_of_row _ _ 0 _ _ H10.out.rb
      have f1 := frozen_of_row _ _ 1 _ _ H10.out.rb
      by_cases hy0 : yy = 0
      · have hy1 : (yy == 0) = true := by simpa using hy0
        clear hy0 hy
        have HK := H10.out.keep (World.grownBy_alloc w6 (.cells #[.int .i64 m.b, .int .i64 m.a] 70) none)
        obtain ⟨A0, A1⟩ := row_cells HK.rb
        have B0 := frozen_of_row _ _ 0 _ _ HK.rb
        have B1 := frozen_of_row _ _ 1 _ _ HK.rb
        clear HK
        have hlit := World.ownsRow_lit (size := 2) w6 #[.int .i64 m.b, .int .i64 m.a] 1 (H10.out.sz) (by decide) (by rfl) (e := 70)
        have H11 := Lib.hid ((H10.out.keep (World.grownBy_alloc w6 (.cells #[.int .i64 m.b, .int .i64 m.a] 70) none)).fin (H := [⟨m.b, m.a⟩]) (X := []) ha hlit (World.ownsRow_nil _ _ _ _))
        clear hlit H10 HLK
        go_wp2_with fail
        refine bodyPost_ret (res_fail rfl _ _ (w.heap.size + 1) _ _ rfl H11.out.1) rfl ?_
        exact ⟨[⟨m.b, m.a⟩], [], _, _, rfl, H11.out.2.1, H11.out.2.2.1, fun g _ hg => (by cases hg), ⟨by simp, by simp⟩, H11.out.2.2.2⟩
      · have hy1 : (yy == 0) = false := by simpa using hy0
        clear hy0 hy
        have HK := H10.out.keep (World.grownBy_alloc w6 (.cells #[.int .i64 m.a, .int .i64 m.b] 70) none)
        obtain ⟨A0, A1⟩ := row_cells HK.rb
        have B0 := frozen_of_row _ _ 0 _ _ HK.rb
        have B1 := frozen_of_row _ _ 1 _ _ HK.rb
        clear HK
        have hlit := World.ownsRow_lit (size := 2) w6 #[.int .i64 m.a, .int .i64 m.b] 1 (H10.out.sz) (by decide) (by rfl) (e := 70)
        have H11 := Lib.hid ((H10.out.keep (World.grownBy_alloc w6 (.cells #[.int .i64 m.a, .int .i64 m.b] 70) none)).fin (H := [⟨m.a, m.b⟩]) (X := []) ha hlit (World.ownsRow_nil _ _ _ _))
        clear hlit H10 HLK
        go_wp2_with fail
        refine bodyPost_ret (res_fail rfl _ _ (w.heap.size + 1) _ _ rfl H11.out.1) rfl ?_
        exact ⟨[⟨m.a, m.b⟩], [], _, _, rfl, H11.out.2.1, H11.out.2.2.1, fun g _ hg => (by cases hg), ⟨by simp, by simp⟩, H11.out.2.2.2⟩
end Go.Proofs.Ytiencdgmnkphjaa

/- append at a step of a region that draws its order, whatever the source; failures while they grow. -/
namespace Go.Proofs.Ytiencdgmnkphjaa
open Go.RowKit Bs
theorem step_append_f {α : Type} (f : α → List Value) (size bytes : Nat) (hsz : 0 < size) (hf : ∀ x, (f x).length = size) (hone : ∀ x, ∀ u ∈ f x, u.oneCell' = true) (e t : TypeId) (i : TypeInfo) (z : Value)
    (ht : Try.prog.underlying t = some (.slice e)) (hi : Try.prog.info? e = some i) (hz : i.zero = some z) (hsize : i.size = size) (hby : i.bytes = bytes) (hzs : z.cells.size = size) (hb40 : bytes ≤ 1000)
    {w : World} {ops : Array Oper} {o : Oper} {a : Act} {K : Act → World → Prop} {Q : Exit → Act → World → Prop} {E : Prop} (hgd : o.guard = none) (s x : Operand)
    (ho : o.op = .call { callee := .builtin .append, args := #[s, x], argTypes := #[t, t] }) (base : Nat) (v : Value) (l : List α) (hs : a.eval s = v) (hown : w.ownsRow base e size v l.length (l.flatMap f))
    (p : Option Addr) (k c : Nat) (r : List α) (hx : a.eval x = .slice p k c) (hk : k = r.length) (hn0 : p = none → c = 0) (q : Nat → Prop) (hR : RdF w q (.slice p k c) r.length (r.flatMap f)) (hkc : k ≤ c) (h63 : l.length + r.length ≤ 100000) (hbase : base ≤ w.heap.size)
    (h : ∀ p' c' w', w'.ownsRow base e size (.slice p' (l.length + r.length) c') (l ++ r).length ((l ++ r).flatMap f) → w.grownBy w' v.ownBlock → ((Value.slice p' (l.length + r.length) c').ownBlock = v.ownBlock ∨ (Value.slice p' (l.length + r.length) c').ownBlock = some w.heap.size) → K (a.put o.dst (.slice p' (l.length + r.length) c')) w') :
    if Region.wanted o (yielded ops a.tmps) = true then Oper.wp Try.prog o a w K Q else E := by
  have hw : Region.wanted o (yielded ops a.tmps) = true := by simp [Region.wanted, hgd]
  rw [if_pos hw]
  cases p with
  | none =>
    obtain rfl := hn0 rfl
    have hr : r.length = 0 := by omega
    obtain rfl := List.eq_nil_of_length_eq_zero hr
    obtain rfl : k = 0 := hk
    have hrun := run_append_owned_none (P := Try.prog) (w := w) base t o.type e i size ht hi v l.length (l.flatMap f) hown
    obtain ⟨p', c', rfl, -, -⟩ := own_shape hown
    unfold Oper.wp
    simp [execOp, ho, resolve, invoke, builtin, hs, hx, hrun, Result.andThen]
    refine h p' c' w ?_ (grown_refl _ _) (.inl rfl)
    rw [List.append_nil]
    exact hown
  | some ad =>
    have hb2 : (l.length + k) * bytes ≤ 140737488355328 := Nat.le_trans (Nat.mul_le_mul (show l.length + k ≤ 100000 by omega) hb40) (by decide)
    obtain ⟨v', w', hr, h2, h3, _, h5⟩ := run_append_own_at (P := Try.prog) w base t o.type e i z size bytes ht hi hz hsize hby hzs hsz v l.length (l.flatMap f) hown ad k c (r.flatMap f) (by rw [flat_len f size hf, hk]) (rdf_news hR) (by
      intro u hu
      obtain ⟨y, _, hy⟩ := List.mem_flatMap.1 hu
      exact hone y u hy) (by unfold maxLen; omega) hb2 hbase
    subst hk
    obtain ⟨p', c', rfl, -, -⟩ := own_shape h2
    unfold Oper.wp execOp
    simp only [ho, resolve, invoke, builtin, Sem.run_bind, Sem.run_pure, Result.andThen_ok, List.map_toArray, List.map_cons, List.map_nil, hs, hx, hr]
    refine h p' c' w' ?_ h3 h5
    rw [List.length_append, List.flatMap_append]
    exact h2
def tvC (z : Int) : List Value := [tv z]
theorem flat_tv : ∀ X : List Int, X.flatMap tvC = X.map tv
  | [] => rfl
  | a :: t => by rw [List.flatMap_cons, flat_tv t]; rfl
theorem hp_one (x : Hp) : ∀ u ∈ hpC x, u.oneCell' = true := by
  intro u hu
  simp [hpC] at hu
  rcases hu with rfl | rfl <;> rfl
theorem tv_one (x : Int) : ∀ u ∈ tvC x, u.oneCell' = true := by
  intro u hu
  simp [tvC, tv] at hu
  subst hu
  rfl
/-- While a failure grows: its block Bf holds uH, uX; its rows are vH, vX. -/
structure GM (a : Nat) (w : World) (T : Tg) (q : Nat → Prop) (Bf : Nat) (uH uX vH vX : Value) (H : List Hp) (X : List Int) (wr : World) : Prop where
  m : FM a w T q wr
  fb : wr.heap[Bf]? = some (.cells #[uH, uX] 47 (0, 0))
  oH : wr.ownsRow (w.heap.size + 2) 70 2 vH H.length (H.flatMap hpC)
  oX : wr.ownsRow (w.heap.size + 2) 3 1 vX X.length (X.flatMap tvC)
  ap : ∀ g, vH.ownBlock = some g → vX.ownBlock ≠ some g
  nH : vH.ownBlock ≠ some Bf
  nX : vX.ownBlock ≠ some Bf
  bf : w.heap.size + 2 ≤ Bf
section
variable {a Bf : Nat} {w wr w1 : World} {T : Tg} {q : Nat → Prop} {uH uX vH vX v' : Value} {H H' : List Hp} {X X' : List Int}
theorem GM.lt (h : GM a w T q Bf uH uX vH vX H X wr) : Bf < wr.heap.size := World.block_lt_of_cell? wr ⟨Bf, 0, none⟩ (row_cells h.fb).1
theorem GM.keep (h : GM a w T q Bf uH uX vH vX H X wr) (g : wr.grownBy w1 none) : GM a w T q Bf uH uX vH vX H X w1 :=
  ⟨h.m.keep g, kept_row h.fb g (by simp), h.oH.kept g (by cases hv : vH.ownBlock <;> simp), h.oX.kept g (by cases hv : vX.ownBlock <;> simp), h.ap, h.nH, h.nX, h.bf⟩
theorem GM.tape (h : GM a w T q Bf uH uX vH vX H X wr) (ha : a < w.heap.size) (hq : ∀ b, q b → b ≠ a) (k : St a wr w1) : GM a w T q Bf uH uX vH vX H X w1 :=
  ⟨h.m.tape ha hq k, kept_row h.fb k.1 (fun e => by have := Option.some.inj e; have := h.bf; omega), own_other h.oH k.1 (by omega), own_other h.oX k.1 (by omega), h.ap, h.nH, h.nX, h.bf⟩
theorem FM.row {base size n : Nat} {e : TypeId} {v : Value} {xs : List Value} (h : FM a w T q wr) (ha : a < w.heap.size) (ho : wr.ownsRow base e size v n xs) (hb : w.heap.size + 2 ≤ base) (hq : ∀ b, q b → b < w.heap.size) (k : wr.grownBy w1 v.ownBlock) : FM a w T q w1 := by
  have hne : ∀ b, b < w.heap.size + 2 → some b ≠ v.ownBlock := fun b hlt e => by have := (ho.lt b e.symm).1; omega
  exact ⟨kept_row h.tb k (hne _ (by omega)), kept_row h.rb k (hne _ (by omega)), h.t.grown k (fun b hb => hne b (by have := hq b hb; omega)), h.st.rowT ho (by omega) ha k, Nat.le_trans h.sz k.size⟩
theorem GM.addH (h : GM a w T q Bf uH uX vH vX H X wr) (ha : a < w.heap.size) (hq : ∀ b, q b → b < w.heap.size) (hown : w1.ownsRow (w.heap.size + 2) 70 2 v' H'.length (H'.flatMap hpC)) (k : wr.grownBy w1 vH.ownBlock) (hat : v'.ownBlock = vH.ownBlock ∨ v'.ownBlock = some wr.heap.size) :
    GM a w T q Bf uH uX v' vX H' X w1 := by
  refine ⟨h.m.row ha h.oH (Nat.le_refl _) hq k, kept_row h.fb k (fun e => h.nH e.symm), hown, h.oX.kept k ?_, ?_, ?_, h.nX, h.bf⟩
  · cases hv : vX.ownBlock with
    | none => exact .inl rfl
    | some g => exact .inr (fun e => h.ap g e.symm hv)
  · intro g hg e
    rcases hat with hat | hat
    · exact h.ap g (hat ▸ hg) e
    · have h1 : g = wr.heap.size := Option.some.inj (hg.symm.trans hat)
      have := (h.oX.lt g e).2
      omega
  · intro e
    rcases hat with hat | hat
    · exact h.nH (hat ▸ e)
    · have h1 : Bf = wr.heap.size := Option.some.inj (e.symm.trans hat)
      have := h.lt
      omega
theorem GM.addX (h : GM a w T q Bf uH uX vH vX H X wr) (ha : a < w.heap.size) (hq : ∀ b, q b → b < w.heap.size) (hown : w1.ownsRow (w.heap.size + 2) 3 1 v' X'.length (X'.flatMap tvC)) (k : wr.grownBy w1 vX.ownBlock) (hat : v'.ownBlock = vX.ownBlock ∨ v'.ownBlock = some wr.heap.size) :
    GM a w T q Bf uH uX vH v' H X' w1 := by
  refine ⟨h.m.row ha h.oX (Nat.le_refl _) hq k, kept_row h.fb k (fun e => h.nX e.symm), h.oH.kept k ?_, hown, ?_, h.nH, ?_, h.bf⟩
  · cases hv : vH.ownBlock with
    | none => exact .inl rfl
    | some g => exact .inr (fun e => h.ap g hv e.symm)
  · intro g hg e
    rcases hat with hat | hat
    · exact h.ap g hg (hat ▸ e)
    · have h1 : g = wr.heap.size := Option.some.inj (e.symm.trans hat)
      have := (h.oH.lt g hg).2
      omega
  · intro e
    rcases hat with hat | hat
    · exact h.nX (hat ▸ e)
    · have h1 : Bf = wr.heap.size := Option.some.inj (e.symm.trans hat)
      have := h.lt
      omega
theorem GM.put2 (h : GM a w T q Bf uH uX vH vX H X wr) (ha : a < w.heap.size) (hq : ∀ b, q b → b < w.heap.size) :
    GM a w T q Bf vH vX vH vX H X ((wr.setCell ⟨Bf, 0, none⟩ vH).setCell ⟨Bf, 1, none⟩ vX) := by
  have k := grown_store2 wr Bf vH vX
  have hbf := h.bf
  have o : ∀ {size n : Nat} {e : TypeId} {v : Value} {xs : List Value}, wr.ownsRow (w.heap.size + 2) e size v n xs → v.ownBlock ≠ some Bf → ((wr.setCell ⟨Bf, 0, none⟩ vH).setCell ⟨Bf, 1, none⟩ vX).ownsRow (w.heap.size + 2) e size v n xs := fun ho hne => ho.kept k (.inr hne)
  exact ⟨h.m.other ha k hbf (fun b hb => by have := hq b hb; omega), store2 h.fb, o h.oH h.nH, o h.oX h.nX, h.ap, h.nH, h.nX, h.bf⟩
theorem GM.start (h : FM a w T q wr) (hH : wr.ownsRow (w.heap.size + 2) 70 2 vH H.length (H.flatMap hpC)) (hX : wr.ownsRow (w.heap.size + 2) 3 1 vX X.length (X.map tv)) (ap : ∀ g, vH.ownBlock = some g → vX.ownBlock ≠ some g) :
    GM a w T q wr.heap.size vH vX vH vX H X (wr.alloc (.cells #[vH, vX] 47)) := by
  have g := World.grownBy_alloc wr (.cells #[vH, vX] 47) none
  exact ⟨h.keep g, heap_alloc_new wr _, hH.alloc _, by rw [flat_tv]; exact hX.alloc _, ap, fun e => by have := (hH.lt _ e).2; omega, fun e => by have := (hX.lt _ e).2; omega, h.sz⟩
end
theorem Among.keepR {P : Int → Prop} {w w' : World} {a b off n : Nat} {r : Option Nat} (h : Among P w a b off n) (g : w.grownBy w' r) (hne : some b ≠ r) : Among P w' a b off n :=
  ⟨h.1, Nat.lt_of_lt_of_le h.2.1 g.size, fun i hi => by obtain ⟨x, hx, hc⟩ := h.2.2 i hi; exact ⟨x, hx, g.cell hc (by exact hne)⟩⟩
theorem info_hopT : (Try.prog.info? 70).map (fun i => (i.zero, i.size, i.bytes)) = some (some (.agg #[.int .i64 0, .int .i64 0]), 2, 16) := by kernel_rfl
end Go.Proofs.Ytiencdgmnkphjaa

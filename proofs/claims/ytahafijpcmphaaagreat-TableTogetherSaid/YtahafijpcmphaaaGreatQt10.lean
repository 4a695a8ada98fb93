/- Parts of the proof, packed: ToUnt2, ShPre, ShCtM, ShNxM, ToReach, ToStep, ToOpn, ToOpnF, ToIns, ToArnM. -/
import Derived.Test.YtahafijpcmphaaaGreatQt8
import Derived.Test.YtahafijpcmphaaaGreatQt7
import Derived.Test.YtahafijpcmphaaaGreatQt9
import Derived.Test.YtahafijpcmphaaaGreatQt4
import Derived.Maps.AppendAt
import Derived.Test.YtahafijpcmphaaaGreatQt1
import Derived.Test.YtahafijpcmphaaaGreatQt3
import Derived.Deep.CutBlock
import Derived.Deep.Onto
/- As until: what is not late keeps what holds. -/
namespace Go.Proofs.YtahafijpcmphaaaGreat
set_option maxRecDepth 100000
open Go
section
variable {P : Program} {ops : Array Oper} {Q : Exit → Act → World → Prop} {md : Region.Mode} {S : World → Prop} {late : Nat → Bool}
def anyV (P : Program) (md : Region.Mode) (ops : Array Oper) (Q : Exit → Act → World → Prop) (S : World → Prop) (late : Nat → Bool) : Nat → Array Bool → Act → World → Prop
 | 0, seen, a, w => Region.ready md ops seen = [] ∧ Q .normal a w
 | n + 1, seen, a, w => (Region.ready md ops seen = [] → Q .normal a w) ∧
   ∀ k, k ∈ Region.ready md ops seen → wpOp P ops Q k (fun b v => (late k = false → S w → S v) ∧ anyV P md ops Q S late n (seen.setIfInBounds k true) b v) a w
theorem anyV_any (n : Nat) : ∀ (seen : Array Bool) (a : Act) (w : World), anyV P md ops Q S late n seen a w → wpAny P md ops Q n seen a w := by
 induction n with
 | zero => intro seen a w h; exact h
 | succ n ih => intro seen a w h; exact ⟨h.1, fun k hk => wpOp_mono (fun b v hb => ih _ b v hb.2) (h.2 k hk)⟩
theorem anyV_first {i : Nat} {oi : Oper} {v : Value} (hi : ops[i]? = some oi) (hsel : ∀ (j : Nat) (o : Oper) cs b, ops[j]? = some o → o.op ≠ .select cs b)
  (hQ : ∀ c a w, Q (.panic c) (a.put oi.dst v) w → Q (.panic c) a w) (hw : waits md ops late i = true) (n : Nat) :
  ∀ (seen : Array Bool) (a : Act) (w : World),
   (∀ j oj, ops[j]? = some oj → j ≠ i → seen.getD j true = false → (∀ e ∈ oj.after, Region.binds md e = true → e.on ≠ i) → oi.apart ops oj = true) →
   Shut1 md ops seen → i ∈ Region.ready md ops seen → YieldsIf P ops S oi v a → S w → anyV P md ops Q S late n (seen.setIfInBounds i true) (a.put oi.dst v) w → anyV P md ops Q S late (n + 1) seen a w := by
 have now : ∀ (m : Nat) (seen : Array Bool) (a : Act) (w : World), YieldsIf P ops S oi v a → S w → anyV P md ops Q S late m (seen.setIfInBounds i true) (a.put oi.dst v) w →
   wpOp P ops Q i (fun b u => (late i = false → S w → S u) ∧ anyV P md ops Q S late m (seen.setIfInBounds i true) b u) a w := fun m seen a w hy hS h => hy.wpOp hi hS ⟨fun _ _ => hS, h⟩
 induction n with
 | zero =>
  intro seen a w _ _ hr hy hS h
  refine ⟨fun e => (by rw [e] at hr; cases hr), fun j hj => ?_⟩
  by_cases e : j = i
  ·exact e ▸ now 0 seen a w hy hS h
  ·have := ready_mono hj e
   rw [h.1] at this
   cases this
 | succ n ih =>
  intro seen a w hf hc hr hy hS h
  refine ⟨fun e => (by rw [e] at hr; cases hr), fun j hj => ?_⟩
  by_cases e : j = i
  ·exact e ▸ now (n + 1) seen a w hy hS h
  obtain ⟨hun, oj, hoj, hall⟩ := mem_ready.1 hj
  have hno : ∀ e ∈ oj.after, Region.binds md e = true → e.on ≠ i := fun e he hb hei => by
   have h1 := hall e he hb
   have h0 := (mem_ready.1 hr).1
   rw [hei] at h1
   by_cases hlt : i < seen.size
   ·simp [hlt] at h0 h1
    rw [h0] at h1
    cases h1
   ·simp [Array.getElem?_eq_none (Nat.le_of_not_lt hlt)] at h1
  have hl : late j = false := by
   cases hl : late j with
   | false => rfl
   | true =>
    have h1 := waits_seen hw hc hj hl
    have h0 := (mem_ready.1 hr).1
    by_cases hlt : i < seen.size
    ·simp [hlt] at h0 h1
     rw [h0] at h1
     cases h1
    ·simp [Array.getElem?_eq_none (Nat.le_of_not_lt hlt)] at h1
  refine wpOp_mono (fun b u hb => ⟨hb.2.1, ih _ b u (fun k ok hk hki hsk hnk => hf k ok hk hki ?_ hnk) (hc.step hj) (ready_mono hr (Ne.symm e)) hb.1 (hb.2.1 hl hS) (by rw [Array.setIfInBounds_comm _ _ e]; exact hb.2.2)⟩)
   (wpOp_putIf hoj (hf j oj hoj e hun hno) (fun cs b => hsel i oi cs b hi) (fun cs b => hsel j oj cs b hoj) hQ hy (h.2 j (ready_mono hj e)))
  by_cases hjk : j = k
  ·exact hjk ▸ hun
  ·rwa [getD_set_ne true hjk] at hsk
theorem anyV_take {i : Nat} {oi : Oper} {v : Value} {n : Nat} {seen : Array Bool} {a : Act} {w : World} (hi : ops[i]? = some oi) (hw : waits md ops late i = true)
  (hc : shut1 md ops seen = true) (hs : Region.noSelect ops = true) (hf : Region.free md ops seen i = true) (hr : (Region.ready md ops seen).contains i = true)
  (hQ : ∀ c a w, Q (.panic c) (a.put oi.dst v) w → Q (.panic c) a w) (hy : YieldsIf P ops S oi v a) (hS : S w)
  (h : anyV P md ops Q S late n (seen.setIfInBounds i true) (a.put oi.dst v) w) : anyV P md ops Q S late (n + 1) seen a w :=
 anyV_first hi (Region.noSelect_spec hs) hQ hw n seen a w (Region.free_spec hi hf) (shut1_spec hc) (by simpa using hr) hy hS h
def EachV (P : Program) (md : Region.Mode) (ops : Array Oper) (Q : Exit → Act → World → Prop) (S : World → Prop) (late : Nat → Bool) (n : Nat) (seen : Array Bool) (a : Act) (w : World) (rs : List Nat) : Prop :=
 ∀ k ∈ rs, wpOp P ops Q k (fun b v => (late k = false → S w → S v) ∧ anyV P md ops Q S late n (seen.setIfInBounds k true) b v) a w
theorem EachV.nil {n : Nat} {seen : Array Bool} {a : Act} {w : World} : EachV P md ops Q S late n seen a w [] := fun _ h => by cases h
theorem EachV.cons {n : Nat} {seen : Array Bool} {a : Act} {w : World} {i : Nat} {o : Oper} {rs : List Nat} (ho : ops[i]? = some o)
  (h : ∀ K : Act → World → Prop, Shut (∀ b v, (late i = false → S w → S v) → ((late i = false → S w → S v) → anyV P md ops Q S late n (seen.setIfInBounds i true) b v) → K b v) → if Region.wanted o (yielded ops a.tmps) = true then Oper.wp P o a w K Q else K (a.put o.dst undef) w)
  (hs : EachV P md ops Q S late n seen a w rs) : EachV P md ops Q S late n seen a w (i :: rs) := fun j hj => by
 rcases List.mem_cons.1 hj with rfl | hj
 ·exact wpOp_step ho (fun K hK => h K (fun b v hS hW => hK b v ⟨hS, hW hS⟩))
 ·exact hs j hj
theorem anyV_ready {rs : List Nat} {n : Nat} {seen : Array Bool} {a : Act} {w : World} (hr : Region.ready md ops seen = rs) (hne : rs ≠ []) (h : EachV P md ops Q S late n seen a w rs) : anyV P md ops Q S late (n + 1) seen a w :=
 ⟨fun e => absurd (hr ▸ e) hne, hr ▸ h⟩
theorem anyV_done {seen : Array Bool} {a : Act} {w : World} (hr : Region.ready md ops seen = []) (h : Q .normal a w) (n : Nat) : anyV P md ops Q S late n seen a w := by
 cases n with
 | zero => exact ⟨hr, h⟩
 | succ n => exact ⟨fun _ => h, by rw [hr]; intro k hk; cases hk⟩
theorem region_until2 {id : Nat} {a : Act} {w : World} (late : Nat → Bool) (hm : P.follows .mixedOrders = true) (hS : S w.drew) (h : S w.drew → anyV P .any ops Q S late ops.size (Array.replicate ops.size false) a w.drew) :
  (Code.region id ops true).wp P Q a w := wp_region_any hm (anyV_any _ _ _ _ (h hS))
end
theorem zW {P : Program} {ops : Array Oper} {Q : Exit → Act → World → Prop} {md : Region.Mode} {S : World → Prop} {late : Nat → Bool} {i : Nat} {d o t p f g} {v : Value} {n : Nat} {l : Array Bool} {a : Act} {w : World} (hi : ops[i]? = some (⟨d, o, t, p, f, g⟩ : Oper)) (hy : ∀ w, S w → (execOp a.eval (⟨d, o, t, p, f, g⟩ : Oper)).run P w = .ok (.value v) w) (hS : S w) (h : anyV P md ops Q S late n (l.setIfInBounds i true) (a.put d v) w) (hw : waits md ops late i = true := by kernel_rfl) (hc : shut1 md ops l = true := by kernel_rfl) (hs : Region.noSelect ops = true := by kernel_rfl) (hf : Region.free md ops l i = true := by kernel_rfl) (hr : (Region.ready md ops l).contains i = true := by kernel_rfl) (hQ : ∀ c a w, Q (.panic c) (a.put d v) w → Q (.panic c) a w := by exact fun _ _ _ h => h) (hx : Region.wanted (⟨d, o, t, p, f, g⟩ : Oper) (yielded ops a.tmps) = true := by rfl) : anyV P md ops Q S late (n + 1) l a w :=
 anyV_take hi hw hc hs hf hr hQ (Or.inl ⟨hx, hy⟩) hS h
end Go.Proofs.YtahafijpcmphaaaGreat

/- The laws of shortest: what they begin with. -/
namespace Go.Proofs.YtahafijpcmphaaaGreat
set_option maxRecDepth 100000
open Go.RowKit Go.Maps Bs
theorem own_formS {α : Type} {f : α → List Value} {w : World} {base size : Nat} {e : TypeId} {v : Value} {l : List α} (h : w.ownsRow base e size v l.length (l.flatMap f)) : (v = .slice none 0 0) ∨ ∃ g cap, v = .slice (some ⟨g, 0, none⟩) l.length cap := by
 rcases h.2 with ⟨rfl, h0⟩ | ⟨g, cap, cur, rfl, _⟩
 ·exact .inl rfl
 ·exact .inr ⟨g, cap, rfl⟩
end Go.Proofs.YtahafijpcmphaaaGreat

/- Counting without the limit: at most eight routers. -/
namespace Go.Proofs.YtahafijpcmphaaaGreat
set_option maxRecDepth 100000
open Go.RowKit Go.Maps Bs
theorem ids_pair {R : List Rt} {L : List Lk} (h : okT R L = true) : (ids R).Pairwise (· < ·) := by
 have hr := pair_of_asc ltR ltR_trans R (okT_all h).rs
 unfold ids
 rw [List.pairwise_map]
 exact hr.imp (fun {a b} h => of_decide_eq_true h)
theorem nodup_of_lt {l : List Int} (h : l.Pairwise (· < ·)) : l.Nodup := h.imp (fun {a b} h e => by omega)
noncomputable def nearB (R : List Rt) (L : List Lk) (z r v : Int) : Bool := match dst R L v z, dst R L r z with
 | some x, some d => decide (x < d)
 | _, _ => false
theorem nearB_iff {R : List Rt} {L : List Lk} {z r v : Int} : nearB R L z r v = true ↔ ∃ x d, dst R L v z = some x ∧ dst R L r z = some d ∧ x < d := by
 unfold nearB
 cases h1 : dst R L v z with
 | none => simp
 | some x =>
  cases h2 : dst R L r z with
  | none => simp
  | some d => simp
theorem nxt_near {R : List Rt} {L : List Lk} {z r u : Int} (hu : u ∈ nxt R L r z) : u ∈ ids R ∧ nearB R L z r u = true := by
 obtain ⟨d, x, c, h1, h2, h3, h4, -⟩ := nxt_step hu
 exact ⟨(dst_both h2).2.1, nearB_iff.2 ⟨x, d, h2, h1, by omega⟩⟩
end Go.Proofs.YtahafijpcmphaaaGreat

/- The law ShortestNexts: its mathematics. -/
namespace Go.Proofs.YtahafijpcmphaaaGreat
set_option maxRecDepth 100000
open Go.RowKit Go.Maps Bs
theorem priceB_edg {u v c : Int} {l : Lk} (h : priceB u v l = some c) : (l.a = u ∧ l.b = v ∧ l.ca = c) ∨ (l.b = u ∧ l.a = v ∧ l.cb = c) := by
 unfold priceB at h
 split at h
 ·rename_i h1
  exact .inl ⟨h1.1, h1.2, Option.some.inj h⟩
 ·split at h
  ·rename_i h1
   first
    | exact .inr ⟨h1.2, h1.1, Option.some.inj h⟩
    | exact .inr ⟨h1.1, h1.2, Option.some.inj h⟩
  ·cases h
theorem edg_uniq {R : List Rt} {L : List Lk} (h : okT R L = true) {u v c d : Int} (h1 : edg L u v c) (h2 : edg L u v d) : c = d := by
 have ho := okT_all h
 have he := ends_lt ho
 obtain ⟨l, hl, k1⟩ := h1
 obtain ⟨m, hm, k2⟩ := h2
 have e1 := he l hl
 have e2 := he m hm
 obtain ⟨i, hi⟩ := List.mem_iff_getElem?.1 hl
 obtain ⟨j, hj⟩ := List.mem_iff_getElem?.1 hm
 have key : l.a = m.a → l.b = m.b → l = m := fun ea eb => by
  have := ends_inj ho hi hj ea eb
  rw [this, hj] at hi
  exact (Option.some.inj hi).symm
 rcases k1 with ⟨p1, p2, p3⟩ | ⟨p1, p2, p3⟩ <;> rcases k2 with ⟨q1, q2, q3⟩ | ⟨q1, q2, q3⟩
 ·rw [← p3, ← q3, key (p1.trans q1.symm) (p2.trans q2.symm)]
 ·omega
 ·omega
 ·rw [← p3, ← q3, key (p2.trans q2.symm) (p1.trans q1.symm)]
theorem price_edg {R : List Rt} {L : List Lk} (h : okT R L = true) {u v c : Int} (he : edg L u v c) : priceV L u v = (c, true) := by
 have h2 : (priceV L u v).2 = true := by
  rw [price_ok]
  obtain ⟨l, hl, ⟨rfl, rfl, -⟩ | ⟨rfl, rfl, -⟩⟩ := he
  ·exact ⟨l, hl, .inr ⟨rfl, rfl⟩⟩
  ·exact ⟨l, hl, .inl ⟨rfl, rfl⟩⟩
 unfold priceV at h2 ⊢
 cases hf : L.findSome? (priceB u v) with
 | none => rw [hf] at h2; cases h2
 | some d =>
  obtain ⟨l, hl, hp⟩ := List.exists_of_findSome?_eq_some hf
  have : edg L u v d := ⟨l, hl, priceB_edg hp⟩
  rw [edg_uniq h he this]
theorem price_ed2 {R : List Rt} {L : List Lk} (_ : okT R L = true) {u v c : Int} (hp : priceV L u v = (c, true)) : edg L u v c := by
 unfold priceV at hp
 cases hf : L.findSome? (priceB u v) with
 | none => rw [hf] at hp; cases hp
 | some d =>
  rw [hf] at hp
  obtain ⟨l, hl, h1⟩ := List.exists_of_findSome?_eq_some hf
  have : d = c := congrArg Prod.fst hp
  exact ⟨l, hl, priceB_edg (this ▸ h1)⟩
end Go.Proofs.YtahafijpcmphaaaGreat

/- Components: the routers that can be reached from each other (the mathematics). -/
namespace Go.Proofs.YtahafijpcmphaaaGreat
set_option maxRecDepth 100000
open Go.RowKit Bs
end Go.Proofs.YtahafijpcmphaaaGreat

/- append at a step of a region that draws its order, whatever the source; failures while they grow. -/
namespace Go.Proofs.YtahafijpcmphaaaGreat
set_option maxRecDepth 100000
open Go.RowKit Bs
theorem step_append_f {α : Type} (f : α → List Value) (size bytes : Nat) (hsz : 0 < size) (hf : ∀ x, (f x).length = size) (hone : ∀ x, ∀ u ∈ f x, u.oneCell' = true) (e t : TypeId) (i : TypeInfo) (z : Value)
  (ht : Tryz.prog.underlying t = some (.slice e)) (hi : Tryz.prog.info? e = some i) (hz : i.zero = some z) (hsize : i.size = size) (hby : i.bytes = bytes) (hzs : z.cells.size = size) (hb40 : bytes ≤ 1000)
  {w : World} {ops : Array Oper} {o : Oper} {a : Act} {K : Act → World → Prop} {Q : Exit → Act → World → Prop} {E : Prop} (hgd : o.guard = none) (s x : Operand)
  (ho : o.op = .call { callee := .builtin .append, args := #[s, x], argTypes := #[t, t] }) (base : Nat) (v : Value) (l : List α) (hs : a.eval s = v) (hown : w.ownsRow base e size v l.length (l.flatMap f))
  (p : Option Addr) (k c : Nat) (r : List α) (hx : a.eval x = .slice p k c) (hk : k = r.length) (hn0 : p = none → c = 0) (q : Nat → Prop) (hR : RdF w q (.slice p k c) r.length (r.flatMap f)) (hkc : k ≤ c) (h63 : l.length + r.length ≤ 100000) (hbase : base ≤ w.heap.size)
  (h : ∀ p' c' w', w'.ownsRow base e size (.slice p' (l.length + r.length) c') (l ++ r).length ((l ++ r).flatMap f) → w.grownBy w' v.ownBlock → ((Value.slice p' (l.length + r.length) c').ownBlock = v.ownBlock ∨ (Value.slice p' (l.length + r.length) c').ownBlock = some w.heap.size) → K (a.put o.dst (.slice p' (l.length + r.length) c')) w') :
  if Region.wanted o (yielded ops a.tmps) = true then Oper.wp Tryz.prog o a w K Q else E := by
 have hw : Region.wanted o (yielded ops a.tmps) = true := by simp [Region.wanted, hgd]
 rw [if_pos hw]
 cases p with
 | none =>
  obtain rfl := hn0 rfl
  have hr : r.length = 0 := by omega
  obtain rfl := List.eq_nil_of_length_eq_zero hr
  obtain rfl : k = 0 := hk
  have hrun := run_append_owned_none (P := Tryz.prog) (w := w) base t o.type e i size ht hi v l.length (l.flatMap f) hown
  obtain ⟨p', c', rfl, -, -⟩ := own_shape hown
  unfold Oper.wp
  simp [execOp, ho, resolve, invoke, builtin, hs, hx, hrun, Result.andThen]
  refine h p' c' w ?_ (grown_refl _ _) (.inl rfl)
  rw [List.append_nil]
  exact hown
 | some ad =>
  have hb2 : (l.length + k) * bytes ≤ 140737488355328 := Nat.le_trans (Nat.mul_le_mul (show l.length + k ≤ 100000 by omega) hb40) (by decide)
  obtain ⟨v', w', hr, h2, h3, _, h5⟩ := run_append_own_at (P := Tryz.prog) w base t o.type e i z size bytes ht hi hz hsize hby hzs hsz v l.length (l.flatMap f) hown ad k c (r.flatMap f) (by rw [flat_len f size hf, hk]) (rdf_news hR) (by
   intro u hu
   obtain ⟨y, _, hy⟩ := List.mem_flatMap.1 hu
   exact hone y u hy) (by unfold maxLen; omega) hb2 hbase
  subst hk
  obtain ⟨p', c', rfl, -, -⟩ := own_shape h2
  unfold Oper.wp execOp
  simp only [ho, resolve, invoke, builtin, Sem.run_bind, Sem.run_pure, Result.andThen_ok, List.map_toArray, List.map_cons, List.map_nil, hs, hx, hr]
  refine h p' c' w' ?_ h3 h5
  rw [List.length_append, List.flatMap_append]
  exact h2
def tvC (z : Int) : List Value := [tv z]
theorem flat_tv : ∀ X : List Int, X.flatMap tvC = X.map tv
 | [] => rfl
 | a :: t => by rw [List.flatMap_cons, flat_tv t]; rfl
theorem tv_one (x : Int) : ∀ u ∈ tvC x, u.oneCell' = true := by
 intro u hu
 simp [tvC, tv] at hu
 subst hu
 rfl
section
variable {a Bf : Nat} {w wr w1 : World} {T : Tg} {q : Nat → Prop} {uH uX vH vX v' : Value} {H H' : List Hp} {X X' : List Int}
end
end Go.Proofs.YtahafijpcmphaaaGreat

/- A topology that comes in as an argument. -/
namespace Go.Proofs.YtahafijpcmphaaaGreat
set_option maxRecDepth 100000
open Go.ChangeShapes Go.WideShapes Go.ChangeAt Go.RowKit Go.Joins Bs
section
variable {H : Type} {enc : TypeId × Value → H} {W : World} {base : Nat} {v : Value} {d : DataW H} {ps : List MemPlace}
end
end Go.Proofs.YtahafijpcmphaaaGreat

/- A failure that comes in as an argument; failures out of rows. -/
namespace Go.Proofs.YtahafijpcmphaaaGreat
set_option maxRecDepth 100000
open Go.ChangeShapes Go.WideShapes Go.ChangeAt Go.RowKit Go.Joins Bs
section
variable {H : Type} {enc : TypeId × Value → H} {W : World} {base : Nat} {v : Value} {d : DataW H} {ps : List MemPlace}
theorem rd_of_rdf {w : World} {q : Nat → Prop} {p : Option Addr} {n c : Nat} {xs : List Value} (h : RdF w q (.slice p n c) n xs) (hl : xs.length = n) : Rd w q (.slice p n c) xs := by
 obtain ⟨p1, c1, e, hx⟩ := h
 refine ⟨p1, c1, by rw [hl]; exact e, hx⟩
end
end Go.Proofs.YtahafijpcmphaaaGreat

/- The reference's Insert. -/
namespace Go.Proofs.YtahafijpcmphaaaGreat
set_option maxRecDepth 100000
open Go.RowKit Bs
def insU (l : List Int) (n : Int) : List Int := if (l.drop (l.takeWhile (fun y => decide (y < n))).length).head? = some n then l else l.takeWhile (fun y => decide (y < n)) ++ n :: l.drop (l.takeWhile (fun y => decide (y < n))).length
theorem tw_len (p : Int → Bool) : ∀ (l : List Int) (j : Nat), j ≤ l.length → (∀ i x, i < j → l[i]? = some x → p x = true) → (∀ x, l[j]? = some x → p x = false) → (l.takeWhile p).length = j ∧ l.takeWhile p = l.take j
 | [], j, hj, _, _ => by
  obtain rfl : j = 0 := by simpa using hj
  exact ⟨rfl, rfl⟩
 | a :: t, 0, _, _, h2 => by
  rw [List.takeWhile_cons, h2 a rfl]
  exact ⟨rfl, rfl⟩
 | a :: t, j + 1, hj, h1, h2 => by
  obtain ⟨e1, e2⟩ := tw_len p t j (by simpa using hj) (fun i x hi hx => h1 (i + 1) x (by omega) (by simpa using hx)) (fun x hx => h2 x (by simpa using hx))
  rw [List.takeWhile_cons, h1 0 a (by omega) rfl]
  simp only [if_true, List.length_cons, List.take_succ_cons]
  exact ⟨by rw [e1], by rw [e2]⟩
theorem insU_at {l : List Int} {n : Int} {j : Nat} (hj : j ≤ l.length) (h1 : ∀ i x, i < j → l[i]? = some x → x < n) (h2 : ∀ x, l[j]? = some x → ¬ x < n) : insU l n = if l[j]? = some n then l else l.take j ++ n :: l.drop j := by
 obtain ⟨e1, e2⟩ := tw_len (fun y => decide (y < n)) l j hj (fun i x hi hx => decide_eq_true (h1 i x hi hx)) (fun x hx => decide_eq_false (h2 x hx))
 unfold insU
 rw [e1, e2, List.head?_drop]
def InsPostZ (l : List Int) (q : Nat → Prop) (w : World) (e : Ending) (w' : World) : Prop :=
 ∃ p c, e = .returned (.slice p l.length c) ∧ Rd w' (fun b => q b ∨ w.heap.size ≤ b) (.slice p l.length c) (l.map tv) ∧ (p = none → c = 0) ∧ (l.length ≤ c ∧ c ≤ 9223372036854775807) ∧ w.grownBy w' none
set_option maxHeartbeats 6400000 in
theorem rins_any (l : List Int) (n : Int) (p : Option Addr) (c : Nat) (q : Nat → Prop) (w : World) (hR : Rd w q (.slice p l.length c) (l.map tv)) (hp : p = none → c = 0) (hc1 : l.length ≤ c) (hc2 : c ≤ 9223372036854775807) (hm : l.length ≤ 1000) :
  Calls Tryz.prog 80 #[.slice p l.length c, .int .i64 n] w fun e w' => InsPostZ (insU l n) q w e w' := by
 obtain ⟨ii, hii, hi0, hi1, hi2⟩ := info_parts info_int
 have HR := Lib.hid hR
 have HPN := Lib.hid hp
 clear hR hp
 go_enter Tryz.func80, Tryz.ntmps80
 go_upto_block 0 with fail
 go_cut [5] from 7 to 20 (fun v wx => ∃ j : Nat, j ≤ l.length ∧ v = .int .i64 (j : Int) ∧ Hid ((∀ i x, i < j → l[i]? = some x → x < n) ∧ ∀ x, l[j]? = some x → ¬ x < n) ∧ w = wx)
 case first =>
  go_wp2_with fail
  go_loopw [5] (fun a wr => ∃ j : Nat, j ≤ l.length ∧ a = .int .i64 (j : Int) ∧ Hid (∀ i x, i < j → l[i]? = some x → x < n) ∧ w = wr) (fun a _ => l.length - (RowKit.intOf a).toNat)
  case atStart => exact ⟨0, Nat.zero_le _, rfl, Lib.hid (fun i x h => by omega), rfl⟩
  case round =>
   obtain ⟨j, hj, rfl, HN, rfl⟩ := hrel
   by_cases hlt : j < l.length
   ·obtain ⟨-, b, off, rfl, -, hc⟩ := rdi_at HR.out (by omega)
    obtain ⟨x, hx⟩ : ∃ x, l[j]? = some x := ⟨_, List.getElem?_eq_getElem hlt⟩
    have d0 := hc j x hx
    have HX := Lib.hid hx
    have hlt' : (j : Int) < (l.length : Int) := by omega
    have j0 : (0 : Int) ≤ (j : Int) := by omega
    clear hc hx
    by_cases hxn : x < n
    ·have HN2 : Hid (∀ i x, i < j + 1 → l[i]? = some x → x < n) := Lib.hid (fun i z hi hz => by
      by_cases hij : i < j
      ·exact HN.out i z hij hz
      ·obtain rfl : i = j := by omega
       rw [HX.out] at hz
       obtain rfl := Option.some.inj hz
       exact hxn)
     go_wp2_with fail
     exact ⟨⟨j + 1, by omega, congrArg _ (by omega), HN2, by first | rfl | trivial⟩, by simp only [RowKit.intOf]; omega⟩
    ·have hxd : decide (x < n) = false := decide_eq_false hxn
     have HE : Hid ((∀ i x, i < j → l[i]? = some x → x < n) ∧ ∀ x, l[j]? = some x → ¬ x < n) := Lib.hid ⟨HN.out, fun z hz => by rw [HX.out] at hz; obtain rfl := Option.some.inj hz; exact hxn⟩
     go_wp2_with fail
     go_meet
     exact ⟨j, hj, rfl, HE, by first | rfl | trivial⟩
   ·obtain rfl : j = l.length := by omega
    have hld : decide ((l.length : Int) < (l.length : Int)) = false := decide_eq_false (by omega)
    have HE : Hid ((∀ i x, i < l.length → l[i]? = some x → x < n) ∧ ∀ x, l[l.length]? = some x → ¬ x < n) := Lib.hid ⟨HN.out, fun z hz => by rw [List.getElem?_eq_none (Nat.le_refl _)] at hz; cases hz⟩
    go_wp2_with fail
    go_meet
    exact ⟨l.length, hj, rfl, HE, by first | rfl | trivial⟩
 case rest =>
 obtain ⟨j, hj, rfl, HE, rfl⟩ := hcut
 have hat := insU_at hj HE.out.1 HE.out.2
 go_upto_region 4 with fail
 go_cut [32] from 21 to 32 (fun v wx => v = .bool (decide (l[j]? = some n)) ∧ w = wx)
 case first =>
  by_cases hlt : j < l.length
  ·obtain ⟨-, b, off, rfl, -, hc⟩ := rdi_at HR.out (by omega)
   obtain ⟨x, hx⟩ : ∃ x, l[j]? = some x := ⟨_, List.getElem?_eq_getElem hlt⟩
   have d0 := hc j x hx
   have hlt' : (j : Int) < (l.length : Int) := by omega
   have j0 : (0 : Int) ≤ (j : Int) := by omega
   have HV : Hid ((x == n) = decide (l[j]? = some n)) := Lib.hid (by rw [hx]; by_cases h : x = n <;> simp [h])
   clear hc hx hat
   go_wp2_with fail
   go_meet
   exact ⟨congrArg _ HV.out, by first | rfl | trivial⟩
  ·have hld : decide ((j : Int) < (l.length : Int)) = false := decide_eq_false (by omega)
   have HV : Hid (false = decide (l[j]? = some n)) := Lib.hid (by rw [List.getElem?_eq_none (by omega)]; simp)
   clear hat
   go_wp2_with fail
   go_meet
   exact ⟨congrArg _ HV.out, by first | rfl | trivial⟩
 case rest =>
 obtain ⟨rfl, rfl⟩ := hcut
 go_upto_if 32 with fail
 by_cases hjn : l[j]? = some n
 ·have hjd : decide (l[j]? = some n) = true := decide_eq_true hjn
  rw [if_pos hjn] at hat
  have HAT := Lib.hid hat
  rw [hjd]
  clear hjn hat hjd
  go_wp2_with fail
  go_ret
  rw [HAT.out]
  exact ⟨p, c, rfl, HR.out.mono (fun b hb => .inl hb), HPN.out, ⟨hc1, hc2⟩, grown_refl _ _⟩
 ·have hjd : decide (l[j]? = some n) = false := decide_eq_false hjn
  rw [if_neg hjn] at hat
  obtain ⟨T1, hT1⟩ : ∃ T1, l.take j = T1 := ⟨_, rfl⟩
  obtain ⟨T2, hT2⟩ : ∃ T2, l.drop j = T2 := ⟨_, rfl⟩
  have HI : Hid (insU l n = T1 ++ n :: T2) := Lib.hid (by rw [← hT1, ← hT2]; exact hat)
  have HJ : Hid (j = T1.length) := Lib.hid (by rw [← hT1, List.length_take]; omega)
  have HJ2 : Hid (l.length - j = T2.length) := Lib.hid (by rw [← hT2, List.length_drop])
  have HT := Lib.hid (And.intro hT1 hT2)
  have HRF : Hid (RdF w (fun b => b < w.heap.size) (.slice p l.length c) l.length (l.flatMap tvC)) := Lib.hid (by
   obtain ⟨p', c', e, hx⟩ := HR.out.old
   rw [flat_tv]
   exact ⟨p', c', by rw [List.length_map] at e; exact e, hx⟩)
  rw [hjd]
  clear hjn hat hjd hT1 hT2
  cases p with
  | none =>
   obtain rfl := HPN.out rfl
   obtain rfl : j = 0 := by omega
   have hl0 : l.length = 0 := by omega
   obtain rfl := List.eq_nil_of_length_eq_zero hl0
   go_wp2_with (at_builtin; refine hold_on ?_)
   refine Lib.hid ?_
   refine (wpList_append_f tvC 1 8 (by decide) (fun _ => rfl) tv_one 3 22 ii _ Tryz.underlying22 hii hi0 hi1 hi2 rfl (by decide) rfl _ _ rfl w.heap.size (.slice none 0 0) [] 0 rfl rfl (World.ownsRow_nil _ _ _ _) _ _ _ T1 rfl HJ.out (by simp) _ (show RdF w (fun _ => True) (.slice none 0 0) T1.length (T1.flatMap tvC) from by obtain rfl := HT.out.1; exact rdf_nil _ _ _ _) (by omega) (by rw [← HJ.out]; omega) (Nat.le_refl _) ?_)
   intro v1 w4 hown1 hg1
   have HO1 : Hid (w4.ownsRow w.heap.size 3 1 v1 T1.length (T1.flatMap tvC)) := Lib.hid hown1
   have G4 := Lib.hid (show w.grownBy w4 none from hg1)
   clear hown1 hg1
   obtain ⟨p1, c1, rfl, -, -⟩ := own_shape HO1.out
   go_wp2_with (at_builtin; refine hold_on ?_)
   refine Lib.hid ?_
   refine (wpList_append_f tvC 1 8 (by decide) (fun _ => rfl) tv_one 3 22 ii _ Tryz.underlying22 hii hi0 hi1 hi2 rfl (by decide) rfl _ _ rfl w.heap.size _ T1 _ rfl rfl (HO1.out.alloc _) _ _ _ [n] rfl rfl (by simp) (fun _ => True) (rdf_one _ trivial (cell_one w4 _ _) 1) (by omega) (by rw [← HJ.out]; simp <;> omega) (by have := G4.out.size; simp <;> omega) ?_)
   intro v2 w5 hown2 hg2
   have G5 := Lib.hid (old_grow (grown_trans G4.out (World.grownBy_alloc w4 _ none)) (HO1.out.alloc _) (Nat.le_refl _) hg2)
   obtain ⟨T3, hT3⟩ : ∃ T3, T3 = T1 ++ [n] := ⟨_, rfl⟩
   rw [← hT3] at hown2
   have HO2 := Lib.hid hown2
   have HT3 := Lib.hid hT3
   clear hown2 hT3 hg2
   obtain ⟨p2, c2, rfl, -, -⟩ := own_shape HO2.out
   go_wp2_with (at_builtin; refine hold_on ?_)
   refine Lib.hid ?_
   refine (wpList_append_f tvC 1 8 (by decide) (fun _ => rfl) tv_one 3 22 ii _ Tryz.underlying22 hii hi0 hi1 hi2 rfl (by decide) rfl _ _ rfl w.heap.size _ T3 _ rfl rfl HO2.out _ _ _ T2 rfl (by have := HJ2.out; omega) (by simp) _ (show RdF w5 (fun _ => True) (.slice none 0 0) T2.length (T2.flatMap tvC) from by obtain rfl := HT.out.2; exact rdf_nil _ _ _ _) (by omega) (by rw [← HJ2.out, HT3.out, List.length_append, ← HJ.out]; simp <;> omega) G5.out.size ?_)
   intro v3 w6 hown3 hg3
   have HE : Hid (insU [] n = T3 ++ T2) := Lib.hid (by rw [HT3.out, HI.out]; simp)
   rw [← HE.out] at hown3
   have HO3 := Lib.hid hown3
   have G6 := Lib.hid (old_grow G5.out HO2.out (Nat.le_refl _) hg3)
   clear hown3 hg3
   obtain ⟨p3, c3, rfl, h31, h32⟩ := own_shape HO3.out
   have hp3 : p3 = none → c3 = 0 := by
    rintro rfl
    rcases own_formF HO3.out with ⟨e, -⟩ | ⟨g, cap, e, -⟩
    ·injection e with e1 e2 e3
    ·injection e with e1 e2 e3
     cases e1
   have HH := Lib.hid (And.intro h31 (And.intro h32 hp3))
   clear h31 h32 hp3
   go_wp2_with fail
   go_ret
   refine ⟨p3, c3, rfl, ?_, HH.out.2.2, ⟨HH.out.1, HH.out.2.1⟩, G6.out⟩
   have hr := rd_of_rdf (rdf_of_own HO3.out) (by rw [flat_tv]; simp)
   rw [flat_tv] at hr
   exact hr.mono (fun b hb => .inr hb)
  | some ad =>
   obtain ⟨b, off, spot⟩ := ad
   have hsp : l.length = 0 ∨ spot = none := by
    by_cases h0 : l.length = 0
    ·exact .inl h0
    ·obtain ⟨-, b', off', e, -⟩ := rdi_at HR.out (by omega)
     injection e with e
     injection e with e1 e2 e3
     exact .inr e3
   by_cases hcj : c = j
   ·obtain rfl : j = l.length := by omega
    subst hcj
    go_wp2_with (at_builtin; refine hold_on ?_)
    refine Lib.hid ?_
    refine (wpList_append_f tvC 1 8 (by decide) (fun _ => rfl) tv_one 3 22 ii _ Tryz.underlying22 hii hi0 hi1 hi2 rfl (by decide) rfl _ _ rfl w.heap.size (.slice none 0 0) [] 0 rfl rfl (World.ownsRow_nil _ _ _ _) _ _ _ T1 rfl HJ.out (by simp) _ (HT.out.1 ▸ RdF.part (f := tvC) (k := 1) (fun _ => rfl) HRF.out _ hj _) (by omega) (by rw [← HJ.out]; omega) (Nat.le_refl _) ?_)
    intro v1 w4 hown1 hg1
    have HO1 : Hid (w4.ownsRow w.heap.size 3 1 v1 T1.length (T1.flatMap tvC)) := Lib.hid hown1
    have G4 := Lib.hid (show w.grownBy w4 none from hg1)
    clear hown1 hg1
    obtain ⟨p1, c1, rfl, -, -⟩ := own_shape HO1.out
    go_wp2_with (at_builtin; refine hold_on ?_)
    refine Lib.hid ?_
    refine (wpList_append_f tvC 1 8 (by decide) (fun _ => rfl) tv_one 3 22 ii _ Tryz.underlying22 hii hi0 hi1 hi2 rfl (by decide) rfl _ _ rfl w.heap.size _ T1 _ rfl rfl (HO1.out.alloc _) _ _ _ [n] rfl rfl (by simp) (fun _ => True) (rdf_one _ trivial (cell_one w4 _ _) 1) (by omega) (by rw [← HJ.out]; simp <;> omega) (by have := G4.out.size; simp <;> omega) ?_)
    intro v2 w5 hown2 hg2
    have G5 := Lib.hid (old_grow (grown_trans G4.out (World.grownBy_alloc w4 _ none)) (HO1.out.alloc _) (Nat.le_refl _) hg2)
    obtain ⟨T3, hT3⟩ : ∃ T3, T3 = T1 ++ [n] := ⟨_, rfl⟩
    rw [← hT3] at hown2
    have HO2 := Lib.hid hown2
    have HT3 := Lib.hid hT3
    clear hown2 hT3 hg2
    obtain ⟨p2, c2, rfl, -, -⟩ := own_shape HO2.out
    go_wp2_with (at_builtin; refine hold_on ?_)
    refine Lib.hid ?_
    refine (wpList_append_f tvC 1 8 (by decide) (fun _ => rfl) tv_one 3 22 ii _ Tryz.underlying22 hii hi0 hi1 hi2 rfl (by decide) rfl _ _ rfl w.heap.size _ T3 _ rfl rfl HO2.out _ _ _ T2 rfl (by have := HJ2.out; omega) (by simp) _ (show RdF w5 (fun _ => True) (.slice _ 0 _) T2.length (T2.flatMap tvC) from by rw [← HT.out.2, List.drop_length]; exact rdf_nil _ _ _ _) (by omega) (by rw [← HJ2.out, HT3.out, List.length_append, ← HJ.out]; simp <;> omega) G5.out.size ?_)
    intro v3 w6 hown3 hg3
    have HE : Hid (insU l n = T3 ++ T2) := Lib.hid (by rw [HT3.out, HI.out]; simp)
    rw [← HE.out] at hown3
    have HO3 := Lib.hid hown3
    have G6 := Lib.hid (old_grow G5.out HO2.out (Nat.le_refl _) hg3)
    clear hown3 hg3
    obtain ⟨p3, c3, rfl, h31, h32⟩ := own_shape HO3.out
    have hp3 : p3 = none → c3 = 0 := by
     rintro rfl
     rcases own_formF HO3.out with ⟨e, -⟩ | ⟨g, cap, e, -⟩
     ·injection e with e1 e2 e3
     ·injection e with e1 e2 e3
      cases e1
    have HH := Lib.hid (And.intro h31 (And.intro h32 hp3))
    clear h31 h32 hp3
    go_wp2_with fail
    go_ret
    refine ⟨p3, c3, rfl, ?_, HH.out.2.2, ⟨HH.out.1, HH.out.2.1⟩, G6.out⟩
    have hr := rd_of_rdf (rdf_of_own HO3.out) (by rw [flat_tv]; simp)
    rw [flat_tv] at hr
    exact hr.mono (fun b hb => .inr hb)
   ·have n0 : ¬ c - j = 0 := by omega
    by_cases hjl : j = l.length
    ·subst hjl
     go_wp2_with (at_builtin; refine hold_on ?_)
     refine Lib.hid ?_
     refine (wpList_append_f tvC 1 8 (by decide) (fun _ => rfl) tv_one 3 22 ii _ Tryz.underlying22 hii hi0 hi1 hi2 rfl (by decide) rfl _ _ rfl w.heap.size (.slice none 0 0) [] 0 rfl rfl (World.ownsRow_nil _ _ _ _) _ _ _ T1 rfl HJ.out (by simp) _ (HT.out.1 ▸ RdF.part (f := tvC) (k := 1) (fun _ => rfl) HRF.out _ hj _) (by omega) (by rw [← HJ.out]; omega) (Nat.le_refl _) ?_)
     intro v1 w4 hown1 hg1
     have HO1 : Hid (w4.ownsRow w.heap.size 3 1 v1 T1.length (T1.flatMap tvC)) := Lib.hid hown1
     have G4 := Lib.hid (show w.grownBy w4 none from hg1)
     clear hown1 hg1
     obtain ⟨p1, c1, rfl, -, -⟩ := own_shape HO1.out
     go_wp2_with (at_builtin; refine hold_on ?_)
     refine Lib.hid ?_
     refine (wpList_append_f tvC 1 8 (by decide) (fun _ => rfl) tv_one 3 22 ii _ Tryz.underlying22 hii hi0 hi1 hi2 rfl (by decide) rfl _ _ rfl w.heap.size _ T1 _ rfl rfl (HO1.out.alloc _) _ _ _ [n] rfl rfl (by simp) (fun _ => True) (rdf_one _ trivial (cell_one w4 _ _) 1) (by omega) (by rw [← HJ.out]; simp <;> omega) (by have := G4.out.size; simp <;> omega) ?_)
     intro v2 w5 hown2 hg2
     have G5 := Lib.hid (old_grow (grown_trans G4.out (World.grownBy_alloc w4 _ none)) (HO1.out.alloc _) (Nat.le_refl _) hg2)
     obtain ⟨T3, hT3⟩ : ∃ T3, T3 = T1 ++ [n] := ⟨_, rfl⟩
     rw [← hT3] at hown2
     have HO2 := Lib.hid hown2
     have HT3 := Lib.hid hT3
     clear hown2 hT3 hg2
     obtain ⟨p2, c2, rfl, -, -⟩ := own_shape HO2.out
     go_wp2_with (at_builtin; refine hold_on ?_)
     refine Lib.hid ?_
     refine (wpList_append_f tvC 1 8 (by decide) (fun _ => rfl) tv_one 3 22 ii _ Tryz.underlying22 hii hi0 hi1 hi2 rfl (by decide) rfl _ _ rfl w.heap.size _ T3 _ rfl rfl HO2.out _ _ _ T2 rfl (by have := HJ2.out; omega) (by simp) _ (show RdF w5 (fun _ => True) (.slice _ 0 _) T2.length (T2.flatMap tvC) from by rw [← HT.out.2, List.drop_length]; exact rdf_nil _ _ _ _) (by omega) (by rw [← HJ2.out, HT3.out, List.length_append, ← HJ.out]; simp <;> omega) G5.out.size ?_)
     intro v3 w6 hown3 hg3
     have HE : Hid (insU l n = T3 ++ T2) := Lib.hid (by rw [HT3.out, HI.out]; simp)
     rw [← HE.out] at hown3
     have HO3 := Lib.hid hown3
     have G6 := Lib.hid (old_grow G5.out HO2.out (Nat.le_refl _) hg3)
     clear hown3 hg3
     obtain ⟨p3, c3, rfl, h31, h32⟩ := own_shape HO3.out
     have hp3 : p3 = none → c3 = 0 := by
      rintro rfl
      rcases own_formF HO3.out with ⟨e, -⟩ | ⟨g, cap, e, -⟩
      ·injection e with e1 e2 e3
      ·injection e with e1 e2 e3
       cases e1
     have HH := Lib.hid (And.intro h31 (And.intro h32 hp3))
     clear h31 h32 hp3
     go_wp2_with fail
     go_ret
     refine ⟨p3, c3, rfl, ?_, HH.out.2.2, ⟨HH.out.1, HH.out.2.1⟩, G6.out⟩
     have hr := rd_of_rdf (rdf_of_own HO3.out) (by rw [flat_tv]; simp)
     rw [flat_tv] at hr
     exact hr.mono (fun b hb => .inr hb)
    ·obtain rfl : spot = none := hsp.resolve_left (by omega)
     go_wp2_with (at_builtin; refine hold_on ?_)
     refine Lib.hid ?_
     refine (wpList_append_f tvC 1 8 (by decide) (fun _ => rfl) tv_one 3 22 ii _ Tryz.underlying22 hii hi0 hi1 hi2 rfl (by decide) rfl _ _ rfl w.heap.size (.slice none 0 0) [] 0 rfl rfl (World.ownsRow_nil _ _ _ _) _ _ _ T1 rfl HJ.out (by simp) _ (HT.out.1 ▸ RdF.part (f := tvC) (k := 1) (fun _ => rfl) HRF.out _ hj _) (by omega) (by rw [← HJ.out]; omega) (Nat.le_refl _) ?_)
     intro v1 w4 hown1 hg1
     have HO1 : Hid (w4.ownsRow w.heap.size 3 1 v1 T1.length (T1.flatMap tvC)) := Lib.hid hown1
     have G4 := Lib.hid (show w.grownBy w4 none from hg1)
     clear hown1 hg1
     obtain ⟨p1, c1, rfl, -, -⟩ := own_shape HO1.out
     go_wp2_with (at_builtin; refine hold_on ?_)
     refine Lib.hid ?_
     refine (wpList_append_f tvC 1 8 (by decide) (fun _ => rfl) tv_one 3 22 ii _ Tryz.underlying22 hii hi0 hi1 hi2 rfl (by decide) rfl _ _ rfl w.heap.size _ T1 _ rfl rfl (HO1.out.alloc _) _ _ _ [n] rfl rfl (by simp) (fun _ => True) (rdf_one _ trivial (cell_one w4 _ _) 1) (by omega) (by rw [← HJ.out]; simp <;> omega) (by have := G4.out.size; simp <;> omega) ?_)
     intro v2 w5 hown2 hg2
     have G5 := Lib.hid (old_grow (grown_trans G4.out (World.grownBy_alloc w4 _ none)) (HO1.out.alloc _) (Nat.le_refl _) hg2)
     obtain ⟨T3, hT3⟩ : ∃ T3, T3 = T1 ++ [n] := ⟨_, rfl⟩
     rw [← hT3] at hown2
     have HO2 := Lib.hid hown2
     have HT3 := Lib.hid hT3
     clear hown2 hT3 hg2
     obtain ⟨p2, c2, rfl, -, -⟩ := own_shape HO2.out
     go_wp2_with (at_builtin; refine hold_on ?_)
     refine Lib.hid ?_
     refine (wpList_append_f tvC 1 8 (by decide) (fun _ => rfl) tv_one 3 22 ii _ Tryz.underlying22 hii hi0 hi1 hi2 rfl (by decide) rfl _ _ rfl w.heap.size _ T3 _ rfl rfl HO2.out _ _ _ T2 rfl (by have := HJ2.out; omega) (by simp) _ (show RdF w5 _ (.slice (some ⟨b, off + j, none⟩) (l.length - j) (c - j)) T2.length (T2.flatMap tvC) from by have := RdF.rest (f := tvC) (k := 1) (fun _ => rfl) (HRF.out.keep G5.out) j (c - j); rw [Nat.mul_one, HT.out.2] at this; exact this) (by omega) (by rw [← HJ2.out, HT3.out, List.length_append, ← HJ.out]; simp <;> omega) G5.out.size ?_)
     intro v3 w6 hown3 hg3
     have HE : Hid (insU l n = T3 ++ T2) := Lib.hid (by rw [HT3.out, HI.out]; simp)
     rw [← HE.out] at hown3
     have HO3 := Lib.hid hown3
     have G6 := Lib.hid (old_grow G5.out HO2.out (Nat.le_refl _) hg3)
     clear hown3 hg3
     obtain ⟨p3, c3, rfl, h31, h32⟩ := own_shape HO3.out
     have hp3 : p3 = none → c3 = 0 := by
      rintro rfl
      rcases own_formF HO3.out with ⟨e, -⟩ | ⟨g, cap, e, -⟩
      ·injection e with e1 e2 e3
      ·injection e with e1 e2 e3
       cases e1
     have HH := Lib.hid (And.intro h31 (And.intro h32 hp3))
     clear h31 h32 hp3
     go_wp2_with fail
     go_ret
     refine ⟨p3, c3, rfl, ?_, HH.out.2.2, ⟨HH.out.1, HH.out.2.1⟩, G6.out⟩
     have hr := rd_of_rdf (rdf_of_own HO3.out) (by rw [flat_tv]; simp)
     rw [flat_tv] at hr
     exact hr.mono (fun b hb => .inr hb)
end Go.Proofs.YtahafijpcmphaaaGreat

/- The reference's Around: the mathematics. -/
namespace Go.Proofs.YtahafijpcmphaaaGreat
set_option maxRecDepth 100000
open Go.RowKit Bs
theorem insU_cons (a : Int) (t : List Int) (n : Int) : insU (a :: t) n = if a < n then a :: insU t n else if a = n then a :: t else n :: a :: t := by
 unfold insU
 by_cases h : a < n
 ·rw [if_pos h]
  rw [List.takeWhile_cons, decide_eq_true h]
  simp only [if_true, List.length_cons, List.drop_succ_cons, List.cons_append]
  split <;> rfl
 ·rw [if_neg h]
  rw [List.takeWhile_cons, decide_eq_false h]
  simp
theorem insU_spec (n : Int) : ∀ l : List Int, l.Pairwise (· < ·) → (insU l n).Pairwise (· < ·) ∧ ∀ x, x ∈ insU l n ↔ x = n ∨ x ∈ l
 | [], _ => by
  have : insU [] n = [n] := by simp [insU]
  rw [this]
  simp
 | a :: t, h => by
  obtain ⟨h1, h2⟩ := List.pairwise_cons.1 h
  obtain ⟨i1, i2⟩ := insU_spec n t h2
  rw [insU_cons]
  by_cases ha : a < n
  ·rw [if_pos ha]
   refine ⟨List.pairwise_cons.2 ⟨fun y hy => ?_, i1⟩, fun x => ?_⟩
   ·rcases (i2 y).1 hy with rfl | hy
    ·exact ha
    ·exact h1 y hy
   ·rw [List.mem_cons, i2, List.mem_cons]
    constructor
    ·rintro (h | h | h)
     ·exact .inr (.inl h)
     ·exact .inl h
     ·exact .inr (.inr h)
    ·rintro (h | h | h)
     ·exact .inr (.inl h)
     ·exact .inl h
     ·exact .inr (.inr h)
  ·rw [if_neg ha]
   by_cases e : a = n
   ·rw [if_pos e]
    subst e
    exact ⟨h, fun x => by simp⟩
   ·rw [if_neg e]
    refine ⟨List.pairwise_cons.2 ⟨fun y hy => ?_, h⟩, fun x => by simp⟩
    rcases List.mem_cons.1 hy with rfl | hy
    ·omega
    ·have := h1 y hy
     omega
end Go.Proofs.YtahafijpcmphaaaGreat

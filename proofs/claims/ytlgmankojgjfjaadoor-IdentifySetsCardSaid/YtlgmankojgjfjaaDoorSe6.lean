/- Parts of the proof, packed: ToUntil, ToUnt2, IdHas, IdSet, IdSetW, IdEdgR, IdRck, IdRcn, IdAwk, IdInt. -/
import Derived.Deep.RegionHeld
import Derived.Test.YtlgmankojgjfjaaDoorSe1
import Derived.Test.YtlgmankojgjfjaaDoorSe5
import Derived.Test.YtlgmankojgjfjaaDoorSe3
import Derived.Deep.AppendLies
import Derived.Deep.RegionLaw
import Derived.Deep.CutRange
import Derived.Test.YtlgmankojgjfjaaDoorSe4
import Derived.Laws.StructEq
/- A region that draws its order: loads are taken first although a late operation writes their cells; what they want of the world holds until then. -/
namespace Go.Proofs.YtlgmankojgjfjaaDoor
open Go
section
variable {P : Program} {ops : Array Oper} {Q : Exit → Act → World → Prop} {md : Region.Mode} {S : World → Prop} {late : Nat → Bool}
/-- Any order from here on; S holds behind whatever is not late. -/
def anyU (P : Program) (md : Region.Mode) (ops : Array Oper) (Q : Exit → Act → World → Prop) (S : World → Prop) (late : Nat → Bool) : Nat → Array Bool → Act → World → Prop
  | 0, seen, a, w => Region.ready md ops seen = [] ∧ Q .normal a w
  | n + 1, seen, a, w => (Region.ready md ops seen = [] → Q .normal a w) ∧
      ∀ k, k ∈ Region.ready md ops seen → wpOp P ops Q k (fun b v => (late k = false → S v) ∧ anyU P md ops Q S late n (seen.setIfInBounds k true) b v) a w
set_option maxRecDepth 100000 in
theorem anyU_any (n : Nat) : ∀ (seen : Array Bool) (a : Act) (w : World), anyU P md ops Q S late n seen a w → wpAny P md ops Q n seen a w := by
  induction n with
  | zero => intro seen a w h; exact h
  | succ n ih => intro seen a w h; exact ⟨h.1, fun k hk => wpOp_mono (fun b v hb => ih _ b v hb.2) (h.2 k hk)⟩
/-- Number j waits for number i, perhaps by way of others. -/
def reach (md : Region.Mode) (ops : Array Oper) : Nat → Nat → Nat → Bool
  | 0, _, _ => false
  | n + 1, j, i => match ops[j]? with
    | some o => o.after.any fun e => Region.binds md e && (e.on == i || reach md ops n e.on i)
    | none => false
/-- Whatever is late waits for number i. -/
def waits (md : Region.Mode) (ops : Array Oper) (late : Nat → Bool) (i : Nat) : Bool :=
  (List.range ops.size).all fun j => !late j || reach md ops ops.size j i
/-- What has come up has come up behind all that it waits for. -/
def Shut1 (md : Region.Mode) (ops : Array Oper) (seen : Array Bool) : Prop :=
  ∀ (j : Nat) (o : Oper), ops[j]? = some o → seen.getD j false = true → ∀ e ∈ o.after, Region.binds md e = true → seen.getD e.on false = true
def shut1 (md : Region.Mode) (ops : Array Oper) (seen : Array Bool) : Bool :=
  (List.range ops.size).all fun j => !seen.getD j false || (match ops[j]? with
    | some o => o.after.all fun e => !Region.binds md e || seen.getD e.on false
    | none => true)
set_option maxRecDepth 100000 in
theorem shut1_spec {seen : Array Bool} (h : shut1 md ops seen = true) : Shut1 md ops seen := by
  intro j o ho hj e he hb
  unfold shut1 at h
  rw [List.all_eq_true] at h
  have h1 := h j (List.mem_range.2 (Array.getElem?_eq_some_iff.1 ho).1)
  rw [hj, ho] at h1
  simp only [Bool.not_true, Bool.false_or] at h1
  rw [Array.all_eq_true_iff_forall_mem] at h1
  have h2 := h1 e he
  rw [hb] at h2
  simpa using h2
set_option maxRecDepth 100000 in
theorem Shut1.step {seen : Array Bool} {j : Nat} (h : Shut1 md ops seen) (hj : j ∈ Region.ready md ops seen) : Shut1 md ops (seen.setIfInBounds j true) := by
  intro k o ho hk e he hb
  by_cases hjk : j = k
  · subst hjk
    obtain ⟨_, o2, ho2, hall⟩ := mem_ready.1 hj
    rw [ho] at ho2
    obtain rfl := Option.some.inj ho2
    exact getD_set_true (hall e he hb)
  · rw [getD_set_ne false hjk] at hk
    exact getD_set_true (h k o ho hk e he hb)
set_option maxRecDepth 100000 in
theorem reach_seen {seen : Array Bool} (hc : Shut1 md ops seen) (i : Nat) : ∀ (n j : Nat) (o : Oper), ops[j]? = some o → (∀ e ∈ o.after, Region.binds md e = true → seen.getD e.on false = true) → reach md ops n j i = true → seen.getD i false = true := by
  intro n
  induction n with
  | zero => intro j o _ _ h; cases h
  | succ n ih =>
    intro j o ho hall h
    unfold reach at h
    rw [ho] at h
    simp only at h
    rw [Array.any_eq_true'] at h
    obtain ⟨e, he, hb⟩ := h
    rw [Bool.and_eq_true, Bool.or_eq_true] at hb
    have h1 := hall e he hb.1
    rcases hb.2 with h2 | h2
    · have : e.on = i := by simpa using h2
      rwa [this] at h1
    · cases ho2 : ops[e.on]? with
      | none =>
        cases n with
        | zero => cases h2
        | succ n =>
          unfold reach at h2
          rw [ho2] at h2
          cases h2
      | some o2 => exact ih e.on o2 ho2 (hc e.on o2 ho2 h1) h2
set_option maxRecDepth 100000 in
theorem waits_seen {seen : Array Bool} {i j : Nat} (hw : waits md ops late i = true) (hc : Shut1 md ops seen) (hj : j ∈ Region.ready md ops seen) (hl : late j = true) : seen.getD i false = true := by
  obtain ⟨_, o, ho, hall⟩ := mem_ready.1 hj
  unfold waits at hw
  rw [List.all_eq_true] at hw
  have h1 := hw j (List.mem_range.2 (Array.getElem?_eq_some_iff.1 ho).1)
  rw [hl] at h1
  exact reach_seen hc i _ j o ho hall (by simpa using h1)
set_option maxRecDepth 100000 in
theorem anyU_first {i : Nat} {oi : Oper} {v : Value} (hi : ops[i]? = some oi) (hsel : ∀ (j : Nat) (o : Oper) cs b, ops[j]? = some o → o.op ≠ .select cs b)
    (hQ : ∀ c a w, Q (.panic c) (a.put oi.dst v) w → Q (.panic c) a w) (hw : waits md ops late i = true) (n : Nat) :
    ∀ (seen : Array Bool) (a : Act) (w : World),
      (∀ j oj, ops[j]? = some oj → j ≠ i → seen.getD j true = false → (∀ e ∈ oj.after, Region.binds md e = true → e.on ≠ i) → oi.apart ops oj = true) →
      Shut1 md ops seen → i ∈ Region.ready md ops seen → YieldsIf P ops S oi v a → S w → anyU P md ops Q S late n (seen.setIfInBounds i true) (a.put oi.dst v) w → anyU P md ops Q S late (n + 1) seen a w := by
  have now : ∀ (m : Nat) (seen : Array Bool) (a : Act) (w : World), YieldsIf P ops S oi v a → S w → anyU P md ops Q S late m (seen.setIfInBounds i true) (a.put oi.dst v) w →
      wpOp P ops Q i (fun b u => (late i = false → S u) ∧ anyU P md ops Q S late m (seen.setIfInBounds i true) b u) a w := fun m seen a w hy hS h => hy.wpOp hi hS ⟨fun _ => hS, h⟩
  induction n with
  | zero =>
    intro seen a w _ _ hr hy hS h
    refine ⟨fun e => (by rw [e] at hr; cases hr), fun j hj => ?_⟩
    by_cases e : j = i
    · exact e ▸ now 0 seen a w hy hS h
    · have := ready_mono hj e
      rw [h.1] at this
      cases this
  | succ n ih =>
    intro seen a w hf hc hr hy hS h
    refine ⟨fun e => (by rw [e] at hr; cases hr), fun j hj => ?_⟩
    by_cases e : j = i
    · exact e ▸ now (n + 1) seen a w hy hS h
    obtain ⟨hun, oj, hoj, hall⟩ := mem_ready.1 hj
    have hno : ∀ e ∈ oj.after, Region.binds md e = true → e.on ≠ i := fun e he hb hei => by
      have h1 := hall e he hb
      have h0 := (mem_ready.1 hr).1
      rw [hei] at h1
      by_cases hlt : i < seen.size
      · simp [hlt] at h0 h1
        rw [h0] at h1
        cases h1
      · simp [Array.getElem?_eq_none (Nat.le_of_not_lt hlt)] at h1
    have hl : late j = false := by
      cases hl : late j with
      | false => rfl
      | true =>
        have h1 := waits_seen hw hc hj hl
        have h0 := (mem_ready.1 hr).1
        by_cases hlt : i < seen.size
        · simp [hlt] at h0 h1
          rw [h0] at h1
          cases h1
        · simp [Array.getElem?_eq_none (Nat.le_of_not_lt hlt)] at h1
    refine wpOp_mono (fun b u hb => ⟨hb.2.1, ih _ b u (fun k ok hk hki hsk hnk => hf k ok hk hki ?_ hnk) (hc.step hj) (ready_mono hr (Ne.symm e)) hb.1 (hb.2.1 hl) (by rw [Array.setIfInBounds_comm _ _ e]; exact hb.2.2)⟩)
      (wpOp_putIf hoj (hf j oj hoj e hun hno) (fun cs b => hsel i oi cs b hi) (fun cs b => hsel j oj cs b hoj) hQ hy (h.2 j (ready_mono hj e)))
    by_cases hjk : j = k
    · exact hjk ▸ hun
    · rwa [getD_set_ne true hjk] at hsk
set_option maxRecDepth 100000 in
theorem anyU_take {i : Nat} {oi : Oper} {v : Value} {n : Nat} {seen : Array Bool} {a : Act} {w : World} (hi : ops[i]? = some oi) (hw : waits md ops late i = true)
    (hc : shut1 md ops seen = true) (hs : Region.noSelect ops = true) (hf : Region.free md ops seen i = true) (hr : (Region.ready md ops seen).contains i = true)
    (hQ : ∀ c a w, Q (.panic c) (a.put oi.dst v) w → Q (.panic c) a w) (hy : YieldsIf P ops S oi v a) (hS : S w)
    (h : anyU P md ops Q S late n (seen.setIfInBounds i true) (a.put oi.dst v) w) : anyU P md ops Q S late (n + 1) seen a w :=
  anyU_first hi (Region.noSelect_spec hs) hQ hw n seen a w (Region.free_spec hi hf) (shut1_spec hc) (by simpa using hr) hy hS h
/-- Each of some operations comes up next. -/
def EachU (P : Program) (md : Region.Mode) (ops : Array Oper) (Q : Exit → Act → World → Prop) (S : World → Prop) (late : Nat → Bool) (n : Nat) (seen : Array Bool) (a : Act) (w : World) (rs : List Nat) : Prop :=
  ∀ k ∈ rs, wpOp P ops Q k (fun b v => (late k = false → S v) ∧ anyU P md ops Q S late n (seen.setIfInBounds k true) b v) a w
set_option maxRecDepth 100000 in
theorem EachU.nil {n : Nat} {seen : Array Bool} {a : Act} {w : World} : EachU P md ops Q S late n seen a w [] := fun _ h => by cases h
set_option maxRecDepth 100000 in
theorem EachU.cons {n : Nat} {seen : Array Bool} {a : Act} {w : World} {i : Nat} {o : Oper} {rs : List Nat} (ho : ops[i]? = some o)
    (h : ∀ K : Act → World → Prop, Shut (∀ b v, (late i = false → S v) → ((late i = false → S v) → anyU P md ops Q S late n (seen.setIfInBounds i true) b v) → K b v) → if Region.wanted o (yielded ops a.tmps) = true then Oper.wp P o a w K Q else K (a.put o.dst undef) w)
    (hs : EachU P md ops Q S late n seen a w rs) : EachU P md ops Q S late n seen a w (i :: rs) := fun j hj => by
  rcases List.mem_cons.1 hj with rfl | hj
  · exact wpOp_step ho (fun K hK => h K (fun b v hS hW => hK b v ⟨hS, hW hS⟩))
  · exact hs j hj
set_option maxRecDepth 100000 in
theorem anyU_ready {rs : List Nat} {n : Nat} {seen : Array Bool} {a : Act} {w : World} (hr : Region.ready md ops seen = rs) (hne : rs ≠ []) (h : EachU P md ops Q S late n seen a w rs) : anyU P md ops Q S late (n + 1) seen a w :=
  ⟨fun e => absurd (hr ▸ e) hne, hr ▸ h⟩
set_option maxRecDepth 100000 in
theorem anyU_done {seen : Array Bool} {a : Act} {w : World} (hr : Region.ready md ops seen = []) (h : Q .normal a w) (n : Nat) : anyU P md ops Q S late n seen a w := by
  cases n with
  | zero => exact ⟨hr, h⟩
  | succ n => exact ⟨fun _ => h, by rw [hr]; intro k hk; cases hk⟩
set_option maxRecDepth 100000 in
theorem region_until {id : Nat} {a : Act} {w : World} (late : Nat → Bool) (hm : P.follows .mixedOrders = true) (hS : S w.drew) (h : S w.drew → anyU P .any ops Q S late ops.size (Array.replicate ops.size false) a w.drew) :
    (Code.region id ops true).wp P Q a w := wp_region_any hm (anyU_any _ _ _ _ (h hS))
end
end Go.Proofs.YtlgmankojgjfjaaDoor

/- As until: what is not late keeps what holds. -/
namespace Go.Proofs.YtlgmankojgjfjaaDoor
open Go
section
variable {P : Program} {ops : Array Oper} {Q : Exit → Act → World → Prop} {md : Region.Mode} {S : World → Prop} {late : Nat → Bool}
end
end Go.Proofs.YtlgmankojgjfjaaDoor

/- identify: a binary search for an ID; has; the reference's Edge. -/
namespace Go.Proofs.YtlgmankojgjfjaaDoor
open Go.RowKit Bs
set_option maxRecDepth 100000 in
theorem ihas1_any (r : Ed) (id : Int) (w : World) :
    Calls Tryd.prog 54 #[.agg #[.int .i64 r.r, .int .i64 r.i], .int .i64 id] w fun e w' => e = .returned (.int .i64 (cmpV r.i id)) ∧ w.grownBy w' none := by
  obtain ⟨k1, k2⟩ := tone_box w #[.int .i64 r.r, .int .i64 r.i] 39
  have HB := Lib.hid (And.intro k1 k2)
  clear k1 k2
  go_enter Tryd.func54, Tryd.ntmps54
  go_upto_region 1 with fail
  generalize w.alloc _ = w1 at *
  have c1 : w1.cell? ⟨w.heap.size, 1, none⟩ = some (.int .i64 r.i) := cell_of_row _ _ _ _ _ _ HB.out.1
  go_wp2_with (go_at_call 28; refine (tcmp_any _ _ _).mono ?_; rintro e w' ⟨rfl, rfl⟩)
  go_ret
  exact ⟨rfl, HB.out.2⟩
def BsEPost (E : List Ed) (id : Int) (w : World) (e : Ending) (w' : World) : Prop := ∃ (i : Nat) (b : Bool), e = .returned (.tuple #[.int .i64 (i : Int), .bool b]) ∧ Hid (BsE E id i b) ∧ w.grownBy w' none
set_option maxRecDepth 100000 in
set_option maxHeartbeats 3200000 in
theorem ibsE_any (E : List Ed) (id : Int) (p : Option Addr) (c : Nat) (q : Nat → Prop) (w : World) (hR : RdF w q (.slice p E.length c) E.length (E.flatMap edC)) (hm : E.length ≤ 1000000) :
    Calls Tryd.prog 53 #[.slice p E.length c, .int .i64 id, .func (.func 54) #[] #[]] w fun e w' => BsEPost E id w e w' := by
  have eg : EnterF 54 := enters_of Tryd.func54 (by kernel_rfl) rfl
  have HR := Lib.hid hR
  clear hR
  go_enter Tryd.func53, Tryd.ntmps53
  have GZ : Hid (w.grownBy w none) := Lib.hid (grown_refl _ _)
  go_wp2_with fail
  go_loopw [9, 10] (fun vi vj wr => ∃ I J : Nat, I ≤ J ∧ J ≤ E.length ∧ vi = .int .i64 (I : Int) ∧ vj = .int .i64 (J : Int) ∧ Hid ((∀ x, 0 < I → E[I - 1]? = some x → x.i < id) ∧ ∀ x, E[J]? = some x → id ≤ x.i) ∧ Hid (w.grownBy wr none)) (fun vi vj _ => ((RowKit.intOf vj) - (RowKit.intOf vi)).toNat)
  case atStart => exact ⟨0, E.length, Nat.zero_le _, Nat.le_refl _, rfl, rfl, Lib.hid ⟨fun x h => by omega, fun x h => by rw [List.getElem?_eq_none (Nat.le_refl _)] at h; cases h⟩, GZ⟩
  case round =>
  obtain ⟨I, J, hIJ, hJ, rfl, rfl, HI, G⟩ := hrel
  obtain ⟨w2, hw2⟩ : ∃ w2, w2 = wr := ⟨_, rfl⟩
  rw [← hw2] at G ⊢
  clear GZ hw2
  by_cases hlt : I < J
  · have hlt' : (I : Int) < (J : Int) := by omega
    obtain ⟨h, hh⟩ : ∃ h, (I + J) / 2 = h := ⟨_, rfl⟩
    have h1 : I ≤ h := by omega
    have h2 : h < J := by omega
    have hsum : (I : Int) + (J : Int) ≤ 2000000 := by omega
    go_upto_region 4 with fail
    go_cut [11] from 18 to 23 (fun v wx => v = .int .i64 (h : Int) ∧ w2 = wx)
    case first =>
      go_wp2_with fail
      go_meet
      exact ⟨congrArg _ (by omega), rfl⟩
    case rest =>
    obtain ⟨rfl, rfl⟩ := hcut
    clear hh hsum
    obtain ⟨-, b, off, rfl, -, hc⟩ := ed_cells (HR.out.keep G.out) (by omega)
    obtain ⟨y, hy⟩ : ∃ y, E[h]? = some y := ⟨_, List.getElem?_eq_getElem (by omega)⟩
    obtain ⟨q0, q1⟩ := hc h y hy
    have HY := Lib.hid hy
    have i0 : (0 : Int) ≤ (h : Int) := by omega
    have i1 : (h : Int) < (E.length : Int) := by omega
    obtain ⟨z, hz⟩ : ∃ z, cmpV y.i id = z := ⟨_, rfl⟩
    have HZ := Lib.hid hz
    have hcall : ∀ w', Calls Tryd.prog 54 #[.agg #[.int .i64 y.r, .int .i64 y.i], .int .i64 id] w' fun e w2 => e = .returned (.int .i64 z) ∧ w'.grownBy w2 none := fun w' => by
      have := ihas1_any y id w'
      rw [hz] at this
      exact this
    clear hc hy hz
    by_cases hzn : z < 0
    · go_wp2_with (go_at_call 54; refine (hcall _).mono ?_; rintro e w' ⟨rfl, hg⟩; have HG := Lib.hid (grown_trans G.out hg); clear hg)
      refine ⟨⟨h + 1, J, by omega, hJ, congrArg _ (by omega), rfl, Lib.hid ⟨fun x _ hx => ?_, HI.out.2⟩, HG⟩, by simp only [RowKit.intOf]; omega⟩
      rw [show h + 1 - 1 = h by omega, HY.out] at hx
      obtain rfl := Option.some.inj hx
      exact cmpV_lt.1 (by rw [HZ.out]; exact hzn)
    · go_wp2_with (go_at_call 54; refine (hcall _).mono ?_; rintro e w' ⟨rfl, hg⟩; have HG := Lib.hid (grown_trans G.out hg); clear hg)
      refine ⟨⟨I, h, h1, by omega, rfl, rfl, Lib.hid ⟨HI.out.1, fun x hx => ?_⟩, HG⟩, by simp only [RowKit.intOf]; omega⟩
      rw [HY.out] at hx
      obtain rfl := Option.some.inj hx
      exact cmpV_ge.1 (by rw [HZ.out]; omega)
  · obtain rfl : I = J := by omega
    by_cases hlt2 : I < E.length
    · have hlt2' : (I : Int) < (E.length : Int) := by omega
      obtain ⟨-, b, off, rfl, -, hc⟩ := ed_cells (HR.out.keep G.out) (by omega)
      obtain ⟨y, hy⟩ : ∃ y, E[I]? = some y := ⟨_, List.getElem?_eq_getElem hlt2⟩
      obtain ⟨q0, q1⟩ := hc I y hy
      have HY := Lib.hid hy
      have i0 : (0 : Int) ≤ (I : Int) := by omega
      obtain ⟨z, hz⟩ : ∃ z, cmpV y.i id = z := ⟨_, rfl⟩
      have HZ := Lib.hid hz
      have hcall : ∀ w', Calls Tryd.prog 54 #[.agg #[.int .i64 y.r, .int .i64 y.i], .int .i64 id] w' fun e w2 => e = .returned (.int .i64 z) ∧ w'.grownBy w2 none := fun w' => by
        have := ihas1_any y id w'
        rw [hz] at this
        exact this
      clear hc hy hz
      go_wp2_with (go_at_call 54; refine (hcall _).mono ?_; rintro e w' ⟨rfl, hg⟩; have HG := Lib.hid (grown_trans G.out hg); clear hg)
      all_goals
        go_ret2
      refine ⟨I, _, rfl, Lib.hid ⟨by omega, HI.out.1, HI.out.2, ?_⟩, HG.out⟩
      rw [HY.out]
      show (z == 0) = decide (y.i = id)
      rw [← HZ.out]
      by_cases h0 : y.i = id
      · rw [decide_eq_true h0, cmpV_eq.2 h0]; rfl
      · rw [decide_eq_false h0]
        have : cmpV y.i id ≠ 0 := fun h => h0 (cmpV_eq.1 h)
        simpa using this
    · have hnl : ¬ (I : Int) < (E.length : Int) := by omega
      go_wp2_with fail
      go_ret2
      refine ⟨I, _, rfl, Lib.hid ⟨by omega, HI.out.1, HI.out.2, ?_⟩, G.out⟩
      rw [List.getElem?_eq_none (by omega)]
set_option maxRecDepth 100000 in
set_option maxHeartbeats 3200000 in
theorem ihas_any (sub n : Int) (E : List Ed) (id : Int) (p : Option Addr) (c : Nat) (q : Nat → Prop) (w : World) (hR : RdF w q (.slice p E.length c) E.length (E.flatMap edC)) (hv : vPl sub n E = true) :
    Calls Tryd.prog 31 #[.agg #[.int .i64 sub, .int .i64 n, .slice p E.length c], .int .i64 id] w fun e w' => e = .returned (.bool (knE E id)) ∧ w.grownBy w' none := by
  obtain ⟨h1, h2, -⟩ := vPl_asc hv
  have HE := Lib.hid h1
  obtain ⟨k1, k2⟩ := tone_box w #[.int .i64 sub, .int .i64 n, .slice p E.length c] 30
  have H0 := Lib.hid (And.intro k1 (And.intro k2 (hR.keep k2)))
  clear k1 k2 hR h1 hv
  go_enter Tryd.func31, Tryd.ntmps31
  go_upto_region 1 with fail
  generalize w.alloc _ = w1 at *
  obtain ⟨⟨d0, d1, d2⟩, -⟩ := row3i H0.out.1
  go_wp2_with fail
  refine (ibsE_any E id p c _ w1 H0.out.2.2 (by omega)).mono ?_
  rintro e w2 ⟨i, b, rfl, hb, hg⟩
  have HB : Hid (b = knE E id) := Lib.hid (bs_edge HE.out hb.out)
  have G2 := Lib.hid (grown_trans H0.out.2.1 hg)
  clear hb hg
  go_wp2_with fail
  go_ret
  rw [HB.out]
  exact ⟨rfl, G2.out⟩
end Go.Proofs.YtlgmankojgjfjaaDoor

/- identify: Sets. -/
namespace Go.Proofs.YtlgmankojgjfjaaDoor
open Go.RowKit Bs
set_option maxRecDepth 100000 in
theorem info_sb : (Tryd.prog.info? 25).map (fun i => (i.zero, i.size, i.bytes)) = some (some (.agg #[.int .i64 0, .int .u64 0]), 2, 16) := by kernel_rfl
set_option maxRecDepth 100000 in
theorem sb_row (w : World) (x : Sb) (t : TypeId) : ∀ j u, (sbC x)[j]? = some u → (w.alloc (.cells #[.int .i64 x.s, .int .u64 (x.b : Int)] t)).cell? ((⟨w.heap.size, 0, none⟩ : Addr).add j) = some u := by
  intro j u hu
  rw [add_plain]
  have hb := heap_alloc_new w (.cells #[.int .i64 x.s, .int .u64 (x.b : Int)] t)
  rcases j with _ | _ | j
  · cases hu; exact cell_of_row _ _ _ _ _ _ hb
  · cases hu; exact cell_of_row _ _ _ _ _ _ hb
  · simp [sbC] at hu
set_option maxRecDepth 100000 in
theorem sb_set (N : List Sb) (x : Sb) (v : Nat) : ((N ++ [x]).flatMap sbC).set (N.length * 2 + 1) (.int .u64 (v : Int)) = (N ++ [(⟨x.s, v⟩ : Sb)]).flatMap sbC := by
  have hl := flat_len sbC 2 (fun _ => rfl) N
  rw [List.flatMap_append, List.flatMap_append, List.set_append_right _ _ (by omega), hl]
  rw [show N.length * 2 + 1 - N.length * 2 = 1 by omega]
  simp [sbC]
/-- What Sets returns. -/
def SePost (sub n : Int) (E : List Ed) (X : List Int) (w : World) (e : Ending) (w' : World) : Prop :=
  ∃ (p : Option Addr) (c : Nat), e = .returned (.tuple #[.slice p (seO sub n E X).length c, .int .i64 (seX sub n E X)]) ∧ w'.ownsRow w.heap.size 25 2 (.slice p (seO sub n E X).length c) (seO sub n E X).length ((seO sub n E X).flatMap sbC) ∧ w.grownBy w' none
set_option maxRecDepth 100000 in
theorem se_no {sub n : Int} {E : List Ed} {X : List Int} {x : Int} (h : seX sub n E X = x) (hx : x ≠ 0) {w w' : World} (g : w.grownBy w' none) : SePost sub n E X w (.returned (.tuple #[.slice none 0 0, .int .i64 x])) w' := by
  have h0 : seO sub n E X = [] := by unfold seO; rw [if_neg (by rw [h]; exact hx)]
  exact ⟨none, 0, by rw [h0, h]; rfl, by rw [h0]; exact World.ownsRow_nil _ _ _ _, g⟩
/-- While the sets grow. -/
structure SG (W : World) (sub n : Int) (E : List Ed) (p : Option Addr) (c : Nat) (X : List Int) (px : Option Addr) (cx : Nat) (v : Value) (M : List Sb) (w : World) : Prop where
  bx : w.heap[W.heap.size]? = some (.cells #[.int .i64 sub, .int .i64 n, .slice p E.length c] 30 (0, 0))
  rd : RdF w (· < W.heap.size) (.slice p E.length c) E.length (E.flatMap edC)
  rx : Rd w (· < W.heap.size) (.slice px X.length cx) (X.map tv)
  own : w.ownsRow (W.heap.size + 1) 25 2 v M.length (M.flatMap sbC)
  gr : W.grownBy w none
  lo : W.heap.size < w.heap.size
section
variable {W w w1 : World} {sub n : Int} {E : List Ed} {p px : Option Addr} {c cx : Nat} {X : List Int} {v v' : Value} {M N : List Sb}
set_option maxRecDepth 100000 in
theorem SG.keep (h : SG W sub n E p c X px cx v M w) (g : w.grownBy w1 none) : SG W sub n E p c X px cx v M w1 :=
  ⟨kept_row h.bx g (by simp), h.rd.keep g, h.rx.keep g, h.own.kept g (by cases v.ownBlock <;> simp), grown_trans h.gr g, Nat.lt_of_lt_of_le h.lo g.size⟩
set_option maxRecDepth 100000 in
theorem SG.put (h : SG W sub n E p c X px cx v M w) (hown : w1.ownsRow (W.heap.size + 1) 25 2 v' N.length (N.flatMap sbC)) (hg : w.grownBy w1 v.ownBlock) : SG W sub n E p c X px cx v' N w1 := by
  have hne : ∀ b, b ≤ W.heap.size → some b ≠ v.ownBlock := fun b hb e => by have := (h.own.lt b e.symm).1; omega
  exact ⟨kept_row h.bx hg (hne _ (Nat.le_refl _)), h.rd.grown hg (fun b hb => hne b (Nat.le_of_lt hb)), h.rx.grown hg (fun b hb => hne b (Nat.le_of_lt hb)), hown, grown_any h.gr hg (fun b hb => hne b (Nat.le_of_lt hb)), Nat.lt_of_lt_of_le h.lo hg.size⟩
set_option maxRecDepth 100000 in
theorem SG.last {g cap : Nat} {x : Sb} (h : SG W sub n E p c X px cx (.slice (some ⟨g, 0, none⟩) (N.length + 1) cap) (N ++ [x]) w) :
    w.cell? ⟨g, N.length * 2, none⟩ = some (.int .i64 x.s) ∧ w.cell? ⟨g, N.length * 2 + 1, none⟩ = some (.int .u64 (x.b : Int)) := by
  have ho := h.own
  rw [show (N ++ [x]).length = N.length + 1 by simp] at ho
  have hc := ho.cellAt
  have hx : (N ++ [x])[N.length]? = some x := by simp
  have hf : ∀ j y, j < 2 → (sbC x)[j]? = some y → w.cell? ⟨g, N.length * 2 + j, none⟩ = some y := fun j y hj hy => by
    rw [hc (N.length * 2 + j) (by omega)]
    exact (flat_at sbC 2 (fun _ => rfl) _ N.length j x hx hj).trans hy
  exact ⟨hf 0 _ (by omega) rfl, hf 1 _ (by omega) rfl⟩
set_option maxRecDepth 100000 in
theorem SG.frz {g cap : Nat} {x : Sb} (h : SG W sub n E p c X px cx (.slice (some ⟨g, 0, none⟩) (N.length + 1) cap) (N ++ [x]) w) (o : Nat) : w.frozen? ⟨g, o, none⟩ = false := by
  have ho := h.own
  rw [show (N ++ [x]).length = N.length + 1 by simp] at ho
  exact ho.frozenAt o
set_option maxRecDepth 100000 in
theorem SG.setLast {g cap : Nat} {x : Sb} (h : SG W sub n E p c X px cx (.slice (some ⟨g, 0, none⟩) (N.length + 1) cap) (N ++ [x]) w) (b : Nat) :
    SG W sub n E p c X px cx (.slice (some ⟨g, 0, none⟩) (N.length + 1) cap) (N ++ [(⟨x.s, b⟩ : Sb)]) (w.setCell ⟨g, N.length * 2 + 1, none⟩ (.int .u64 (b : Int))) := by
  have ho := h.own
  rw [show (N ++ [x]).length = N.length + 1 by simp] at ho
  obtain ⟨s1, s2⟩ := ho.stored (N.length * 2 + 1) (.int .u64 (b : Int))
  rw [sb_set] at s1
  exact h.put (by rw [show (N ++ [(⟨x.s, b⟩ : Sb)]).length = N.length + 1 by simp]; exact s1) s2
end
set_option maxRecDepth 100000 in
theorem kn_place {sub n : Int} {E : List Ed} {id : Int} (hv : vPl sub n E = true) (hk : knE E id = true) : plOk id n = true ∧ ∃ m : Nat, plB id n = (m : Int) ∧ m < 64 := by
  obtain ⟨e, he, hi⟩ := List.any_eq_true.1 hk
  have hi := of_decide_eq_true hi
  have hw := any_mem (vPl_asc hv).2.2 he
  have h4 : 1 ≤ e.i ∧ e.i ≤ 256 := by
    unfold wrE inV at hw
    simp only [Bool.not_eq_false', Bool.and_eq_true, decide_eq_true_eq] at hw
    exact hw.2
  have hn : vl n = true := by
    unfold vPl at hv
    simp only [Bool.and_eq_true, Bool.or_eq_true, Bool.not_eq_true', decide_eq_true_eq] at hv
    rcases hv.1.1.1.1.2 with h | h
    · exact h
    · have := h.2
      have : E = [] := List.eq_nil_of_length_eq_zero this
      subst this; cases he
  have hp : plOk id n = true := by
    unfold plOk inV
    rw [hn, decide_eq_true (show 1 ≤ id ∧ id ≤ 256 by omega)]; rfl
  obtain ⟨hl, h1, h2⟩ := pl_fields hp
  refine ⟨hp, ((id - 1) % n).toNat, ?_, ?_⟩
  · unfold plB; rw [if_pos hp]
    rcases hl with rfl | rfl | rfl | rfl <;> omega
  · rcases hl with rfl | rfl | rfl | rfl <;> omega
set_option maxRecDepth 100000 in
theorem isets1_any (g : Nat) (sub n : Int) (E : List Ed) (id : Int) (p : Option Addr) (c : Nat) (q : Nat → Prop) (w : World) (hb : w.heap[g]? = some (.cells #[.int .i64 sub, .int .i64 n, .slice p E.length c] 30 (0, 0))) (hR : RdF w q (.slice p E.length c) E.length (E.flatMap edC)) (hv : vPl sub n E = true) :
    Calls Tryd.prog 30 #[.int .i64 id, .pointer (some ⟨g, 0, none⟩)] w fun e w' => e = .returned (.bool (ukE E id)) ∧ w.grownBy w' none := by
  have HR := Lib.hid hR
  obtain ⟨⟨d0, d1, d2⟩, -⟩ := row3i hb
  clear hR hb
  go_enter Tryd.func30, Tryd.ntmps30
  go_wp2_with fail
  refine (ihas_any sub n E id p c _ w HR.out hv).mono ?_
  rintro e w1 ⟨rfl, hg⟩
  go_wp2_with fail
  go_ret
  exact ⟨rfl, hg⟩
end Go.Proofs.YtlgmankojgjfjaaDoor

/- identify: Sets, the walk. -/
namespace Go.Proofs.YtlgmankojgjfjaaDoor
open Go.RowKit Bs
set_option maxRecDepth 100000 in
theorem plB_lt (id len : Int) : (plB id len).toNat < 64 := by
  unfold plB
  split
  · rename_i h
    obtain ⟨hl, h1, h2⟩ := pl_fields h
    rcases hl with rfl | rfl | rfl | rfl <;> omega
  · decide
set_option maxRecDepth 100000 in
theorem seL_u (len : Int) (X : List Int) : ∀ y ∈ seL len X, U64 y.b := by
  suffices h : ∀ (X : List Int) (M : List Sb), (∀ y ∈ M, U64 y.b) → ∀ y ∈ X.foldl (seS len) M, U64 y.b from h X [] (fun y hy => by cases hy)
  intro X
  induction X with
  | nil => exact fun M h => h
  | cons x t ih =>
    intro M h
    rw [List.foldl_cons]
    refine ih _ ?_
    have h1 : ∀ y ∈ opS M (plS x len), U64 y.b := by
      unfold opS
      split
      · exact h
      · intro y hy
        rcases List.mem_append.1 hy with hy | hy
        · exact h y hy
        · obtain rfl : y = ⟨plS x len, 0⟩ := by simpa using hy
          show (0 : Nat) < _
          decide
    unfold seS
    obtain ⟨N, z, hz⟩ := snoc_of_ne (opS_ne M (plS x len))
    rw [hz] at h1 ⊢
    rw [orS_snoc]
    intro y hy
    rcases List.mem_append.1 hy with hy | hy
    · exact h1 y (List.mem_append_left _ hy)
    · obtain rfl : y = ⟨z.s, z.b ||| b2 (plB x len).toNat⟩ := by simpa using hy
      exact Nat.or_lt_two_pow (n := 64) (h1 z (by simp)) (b2_u64 (plB_lt x len))
set_option maxRecDepth 100000 in
theorem lastS_snoc (N : List Sb) (x : Sb) (s : Int) : lastS (N ++ [x]) s = decide (x.s = s) := by
  unfold lastS; simp
set_option maxRecDepth 100000 in
set_option maxHeartbeats 12800000 in
theorem isets_any (sub n : Int) (E : List Ed) (p : Option Addr) (c : Nat) (X : List Int) (px : Option Addr) (cx : Nat) (w : World) (hR : RdF w (· < w.heap.size) (.slice p E.length c) E.length (E.flatMap edC)) (hm : E.length ≤ 9223372036854775807) (hX : Rd w (· < w.heap.size) (.slice px X.length cx) (X.map tv)) (hxm : X.length ≤ 1000000) :
    Calls Tryd.prog 11 #[.agg #[.int .i64 sub, .int .i64 n, .slice p E.length c], .slice px X.length cx] w fun e w' => SePost sub n E X w e w' := by
  obtain ⟨ie, hie, he0, he1, he2⟩ := info_parts info_sb
  have e1 : EnterF 30 := enters_of Tryd.func30 (by kernel_rfl) rfl
  have E1 := Lib.hid e1
  obtain ⟨k1, k2⟩ := tone_box w #[.int .i64 sub, .int .i64 n, .slice p E.length c] 30
  have H0 : Hid (SG w sub n E p c X px cx (.slice none 0 0) [] _) := Lib.hid ⟨k1, hR.keep k2, hX.keep k2, World.ownsRow_nil _ _ _ _, k2, by simp⟩
  clear k1 k2 hR hX e1
  go_enter Tryd.func11, Tryd.ntmps11
  go_upto_region 1 with fail
  generalize w.alloc _ = w1 at *
  obtain ⟨⟨d0, d1, d2⟩, -⟩ := row3i H0.out.bx
  go_wp2_with fail
  refine (ivplan_any sub n E p c _ w1 H0.out.rd hm).mono ?_
  rintro e w2 ⟨rfl, hg⟩
  have H1 := Lib.hid (H0.out.keep hg)
  clear hg H0 d0 d1 d2
  cases hv : vPl sub n E
  case false =>
    have HP : Hid (seX sub n E X = 1) := Lib.hid (by unfold seX; rw [if_pos hv])
    clear hv
    go_wp2_with fail
    go_ret2
    exact se_no HP.out (by decide) H1.out.gr
  have HV := Lib.hid hv
  clear hv
  go_wp2_with fail
  refine (iascZ_any X px cx _ w2 H1.out.rx (by omega)).mono ?_
  rintro e w3 ⟨rfl, hg⟩
  have H2 := Lib.hid (H1.out.keep hg)
  clear hg H1
  cases ha : ascB ltZ X
  case false =>
    have HP : Hid (seX sub n E X = 25) := Lib.hid (by unfold seX; rw [if_neg (by rw [HV.out]; decide), if_pos ha])
    clear ha
    go_wp2_with fail
    go_ret2
    exact se_no HP.out (by decide) H2.out.gr
  have HA := Lib.hid ha
  clear ha
  go_wp2_with fail
  refine (icontZ_any 30 #[.pointer (some ⟨w.heap.size, 0, none⟩)] (ukE E) E1.out X px cx _ w3 H2.out.rx (by omega) (fun r w' g => isets1_any w.heap.size sub n E r p c _ w' (kept_row H2.out.bx g (by simp)) (H2.out.rd.keep g) HV.out)).mono ?_
  rintro e w4 ⟨rfl, hg⟩
  have H3 := Lib.hid (H2.out.keep hg)
  clear hg H2
  cases hu : X.any (ukE E)
  case true =>
    have HP : Hid (seX sub n E X = 4) := Lib.hid (by unfold seX; rw [if_neg (by rw [HV.out]; decide), if_neg (by rw [HA.out]; decide), if_pos hu])
    clear hu
    go_wp2_with fail
    go_ret2
    exact se_no HP.out (by decide) H3.out.gr
  have HU := Lib.hid hu
  have HP : Hid (seX sub n E X = 0) := Lib.hid (by unfold seX; rw [if_neg (by rw [HV.out]; decide), if_neg (by rw [HA.out]; decide), if_neg (by rw [HU.out]; decide)])
  clear hu
  go_wp2_with fail
  go_loopw [6, 27] (fun v x wr => ∃ (k : Nat) (q : Option Addr) (d : Nat), k ≤ X.length ∧ x = .int .i64 (k : Int) ∧ v = .slice q (seL n (X.take k)).length d ∧ Hid (SG w sub n E p c X px cx (.slice q (seL n (X.take k)).length d) (seL n (X.take k)) wr)) (fun _ x _ => X.length - (RowKit.intOf x).toNat)
  case atStart => exact ⟨0, none, 0, Nat.zero_le _, rfl, rfl, H3⟩
  case round =>
  obtain ⟨k, q, d, hk, rfl, rfl, S0⟩ := hrel
  clear H3
  obtain ⟨w5, hw5⟩ : ∃ w5, w5 = wr := ⟨_, rfl⟩
  rw [← hw5] at S0 ⊢
  clear hw5
  by_cases hlt : k < X.length
  case neg =>
    obtain rfl : k = X.length := by omega
    have hnl : ¬ (X.length : Int) < (X.length : Int) := by omega
    rw [List.take_length] at S0 ⊢
    have HO : Hid (seO sub n E X = seL n X) := Lib.hid (by unfold seO; rw [if_pos HP.out])
    go_wp2_with fail
    go_ret2
    refine ⟨q, d, by rw [HO.out, HP.out]; rfl, ?_, S0.out.gr⟩
    rw [HO.out]
    exact S0.out.own.mono (by omega)
  case pos =>
  have hlt' : (k : Int) < (X.length : Int) := by omega
  obtain ⟨x, hx⟩ : ∃ x, X[k]? = some x := ⟨_, List.getElem?_eq_getElem hlt⟩
  have hkn : knE E x = true := by
    have := any_mem HU.out (List.mem_of_getElem? hx)
    unfold ukE at this
    simpa using this
  obtain ⟨hpl, m, hm1, hm2⟩ := kn_place HV.out hkn
  obtain ⟨-, b, off, rfl, hq, hc⟩ := tv_at S0.out.rx hx
  have a0 := hc k x hx
  have HST : Hid (seL n (X.take (k + 1)) = orS (opS (seL n (X.take k)) (plS x n)) (b2 m)) := Lib.hid (by rw [seL_take hx]; unfold seS; rw [hm1]; rfl)
  have hML : (seL n (X.take k)).length ≤ 1000000 := by
    have h1 := seL_len n (X.take k) []
    unfold seL
    rw [List.length_take] at h1
    simp only [List.length_nil] at h1
    omega
  obtain ⟨M, hM⟩ : ∃ M, seL n (X.take k) = M := ⟨_, rfl⟩
  obtain ⟨M2, hM2⟩ : ∃ M2, seL n (X.take (k + 1)) = M2 := ⟨_, rfl⟩
  rw [hM] at HST S0 hML ⊢
  rw [hM2] at HST
  have HM2 := Lib.hid hM2
  obtain ⟨⟨d0, d1, d2⟩, -⟩ := row3i S0.out.bx
  have HM := Lib.hid hM
  clear hM hM2 hc hx hkn
  go_wp2_with fail
  refine (iplc_any x n w5).mono ?_
  rintro e w6 ⟨rfl, hg⟩
  rw [hpl, hm1]
  have S1 := Lib.hid (S0.out.keep hg)
  clear hg S0 d0 d1 d2 a0 hpl hm1
  obtain ⟨s, hs⟩ : ∃ s, plS x n = s := ⟨_, rfl⟩
  rw [hs] at HST ⊢
  clear hs
  have APP : Hid (lastS M s = false → opS M s = M ++ [(⟨s, 0⟩ : Sb)]) := Lib.hid (fun h => by unfold opS; rw [h]; rfl)
  have HUM : Hid (∀ y ∈ M, U64 y.b) := Lib.hid (by rw [← HM.out]; exact seL_u n (X.take k))
  by_cases hl : lastS M s = true
  case pos =>
    have hne : M ≠ [] := by rintro rfl; cases hl
    obtain ⟨N, y, rfl⟩ := snoc_of_ne hne
    rw [lastS_snoc] at hl
    have hys := of_decide_eq_true hl
    have HOP : Hid (opS (N ++ [y]) s = N ++ [y]) := Lib.hid (by unfold opS; rw [lastS_snoc, hl]; rfl)
    have hNl : N.length ≤ 1000000 := by rw [List.length_append] at hML; simp at hML; omega
    rw [show (N ++ [y]).length = N.length + 1 by simp] at S1 ⊢
    obtain ⟨g, rfl⟩ : ∃ g, q = some ⟨g, 0, none⟩ := by
      rcases S1.out.own.2 with ⟨e1, h0⟩ | ⟨g, cap, cur, e1, _⟩
      · simp at h0
      · injection e1 with e2; exact ⟨g, e2⟩
    obtain ⟨ys, yb⟩ := y
    have hU : U64 yb := HUM.out ⟨ys, yb⟩ (by simp)
    dsimp only at hys
    subst hys
    obtain ⟨cap, rfl⟩ : ∃ cap, d = cap := ⟨_, rfl⟩
    clear APP hl hne hML HUM HM
    have S3 := S1
    clear S1
    have fL := S3.out.frz (N.length * 2 + 1)
    have cL1 := S3.out.last.1
    have cL2 := S3.out.last.2
    have n1 : ((N.length : Int) + 1 - 1) = (N.length : Int) := by omega
    have n2 : IntKind.i64.wrap (N.length : Int) = (N.length : Int) := IntWalk.i64_in _ (by omega)
    have n3 : IntKind.i64.wrap ((N.length : Int) + 1 - 1) = (N.length : Int) := by rw [n1]; exact n2
    have n4 : (0 : Int) ≤ (N.length : Int) := by omega
    have n5 : (N.length : Int) < (N.length : Int) + 1 := by omega
    have m1 : (m : Int) < 64 := by omega
    have m0 : ¬ (m : Int) < 0 := by omega
    have HW : Hid (bits .or .u64 (yb : Int) (IntKind.u64.wrap (2 ^ m)) = ((yb ||| b2 m : Nat) : Int)) := Lib.hid (by rw [pow_word m hm2, orU _ _ hU (b2_u64 hm2)])
    have HMM : Hid (M2 = N ++ [(⟨ys, yb ||| b2 m⟩ : Sb)]) := Lib.hid (by rw [HST.out, HOP.out, orS_snoc])
    have S4 := Lib.hid ((S3.out.setLast (yb ||| b2 m)).keep (grown_drew (grown_refl _ none)))
    go_upto_region 15 with fail
    go_region
    rw [HW.out]
    clear S3 HW cL1 cL2 fL n1 n3 m1 m0 HST HOP
    generalize (World.setCell _ _ _).drew = w7 at *
    go_wp2_with fail
    exact ⟨⟨k + 1, some ⟨g, 0, none⟩, d, by omega, congrArg _ (by omega), by rw [HM2.out, HMM.out, List.length_append]; rfl, by rw [HM2.out, HMM.out, List.length_append]; exact S4⟩, by simp only [RowKit.intOf]; omega⟩
  case neg =>
    have hl : lastS M s = false := by simpa using hl
    clear HUM HM
    by_cases hM0 : M.length = 0
    · have hM00 : M = [] := List.eq_nil_of_length_eq_zero hM0
      have hM0' : ¬ 0 < M.length := by omega
      have hM2 : (M.length : Int) - 1 < 0 := by omega
      have hw1 : IntKind.i64.wrap ((M.length : Int) - 1) = (M.length : Int) - 1 := IntWalk.i64_in _ (by omega)
      clear hM0 hM00 hM0'
      have HO2 := Lib.hid S1.out.own
      have hsz : w.heap.size < w6.heap.size := S1.out.lo
      go_wp2_with (at_builtin; refine hold_on ?_)
      refine Lib.hid ?_
      refine wpList_append_lies _ rfl _ _ 43 rfl (w.heap.size + 1) 25 ie (.agg #[.int .i64 0, .int .u64 0]) 2 16 Tryd.underlying43 hie he0 he1 he2 rfl (by decide) (.slice q M.length d) M.length (M.flatMap sbC) rfl (HO2.out.alloc _) ⟨w6.heap.size, 0, none⟩ 1 1 [.int .i64 s, .int .u64 0] rfl rfl (sb_row w6 ⟨s, 0⟩ _) (sb_one ⟨s, 0⟩) (by decide) (by unfold maxLen; omega) (by omega) (by simp; omega) _ rfl ?_
      intro g cap w8 hown hgrow hat hlt8
      have S3 := Lib.hid ((S1.out.keep (World.grownBy_alloc _ _ none)).put (N := M ++ [(⟨s, 0⟩ : Sb)]) (by rw [List.length_append, List.flatMap_append]; simpa [sbC] using hown) hgrow)
      have HOP : Hid (opS M s = M ++ [(⟨s, 0⟩ : Sb)]) := Lib.hid (APP.out hl)
      have hU : U64 0 := u64_mk (by decide)
      clear hown hgrow hat hlt8 HO2 S1 APP hl hsz
      clear hM2 hw1
      have fL := S3.out.frz (M.length * 2 + 1)
      have cL1 := S3.out.last.1
      have cL2 := S3.out.last.2
      have n1 : ((M.length : Int) + 1 - 1) = (M.length : Int) := by omega
      have n2 : IntKind.i64.wrap (M.length : Int) = (M.length : Int) := IntWalk.i64_in _ (by omega)
      have n3 : IntKind.i64.wrap ((M.length : Int) + 1 - 1) = (M.length : Int) := by rw [n1]; exact n2
      have n4 : (0 : Int) ≤ (M.length : Int) := by omega
      have n5 : (M.length : Int) < (M.length : Int) + 1 := by omega
      have m1 : (m : Int) < 64 := by omega
      have m0 : ¬ (m : Int) < 0 := by omega
      have HW : Hid (bits .or .u64 0 (IntKind.u64.wrap (2 ^ m)) = ((0 ||| b2 m : Nat) : Int)) := Lib.hid (by rw [pow_word m hm2, show (0 : Int) = ((0 : Nat) : Int) by rfl, orU _ _ hU (b2_u64 hm2)])
      have HMM : Hid (M2 = M ++ [(⟨s, 0 ||| b2 m⟩ : Sb)]) := Lib.hid (by rw [HST.out, HOP.out, orS_snoc])
      have S4 := Lib.hid ((S3.out.setLast (0 ||| b2 m)).keep (grown_drew (grown_refl _ none)))
      go_upto_region 15 with fail
      go_region
      rw [HW.out]
      clear S3 HW cL1 cL2 fL n1 n3 m1 m0 HST HOP
      generalize (World.setCell _ _ _).drew = w7 at *
      go_wp2_with fail
      exact ⟨⟨k + 1, some ⟨g, 0, none⟩, cap, by omega, congrArg _ (by omega), by rw [HM2.out, HMM.out, List.length_append]; rfl, by rw [HM2.out, HMM.out, List.length_append]; exact S4⟩, by simp only [RowKit.intOf]; omega⟩
    · have hne : M ≠ [] := fun e => hM0 (by rw [e]; rfl)
      obtain ⟨N0, y, hMe⟩ := snoc_of_ne hne
      have hlen : M.length = N0.length + 1 := by rw [hMe]; simp
      obtain ⟨g0, rfl⟩ : ∃ g, q = some ⟨g, 0, none⟩ := by
        rcases S1.out.own.2 with ⟨e1, h0⟩ | ⟨g, cap, cur, e1, _⟩
        · omega
        · injection e1 with e2; exact ⟨g, e2⟩
      have hys : y.s ≠ s := by
        rw [hMe, lastS_snoc] at hl
        exact of_decide_eq_false hl
      have hc0 : w6.cell? ⟨g0, (M.length - 1) * 2, none⟩ = some (.int .i64 y.s) := by
        have h := S1.out
        rw [hMe] at h
        rw [show (N0 ++ [y]).length = N0.length + 1 by simp] at h
        rw [show M.length - 1 = N0.length by omega]
        exact h.last.1
      have hys' : (y.s != s) = true := by simpa using hys
      obtain ⟨J, hJ⟩ : ∃ J, M.length - 1 = J := ⟨_, rfl⟩
      rw [hJ] at hc0
      have hJ1 : (M.length : Int) - 1 = (J : Int) := by omega
      have hJ2 : IntKind.i64.wrap ((M.length : Int) - 1) = (J : Int) := by rw [hJ1]; exact IntWalk.i64_in _ (by omega)
      have hJ3 : (0 : Int) ≤ (J : Int) := by omega
      have hJ4 : (J : Int) < (M.length : Int) := by omega
      clear hM0 hne hMe hlen hJ
      have HO2 := Lib.hid S1.out.own
      have hsz : w.heap.size < w6.heap.size := S1.out.lo
      go_wp2_with (at_builtin; refine hold_on ?_)
      refine Lib.hid ?_
      refine wpList_append_lies _ rfl _ _ 43 rfl (w.heap.size + 1) 25 ie (.agg #[.int .i64 0, .int .u64 0]) 2 16 Tryd.underlying43 hie he0 he1 he2 rfl (by decide) (.slice (some ⟨g0, 0, none⟩) M.length d) M.length (M.flatMap sbC) rfl (HO2.out.alloc _) ⟨w6.heap.size, 0, none⟩ 1 1 [.int .i64 s, .int .u64 0] rfl rfl (sb_row w6 ⟨s, 0⟩ _) (sb_one ⟨s, 0⟩) (by decide) (by unfold maxLen; omega) (by omega) (by simp; omega) _ rfl ?_
      intro g cap w8 hown hgrow hat hlt8
      have S3 := Lib.hid ((S1.out.keep (World.grownBy_alloc _ _ none)).put (N := M ++ [(⟨s, 0⟩ : Sb)]) (by rw [List.length_append, List.flatMap_append]; simpa [sbC] using hown) hgrow)
      have HOP : Hid (opS M s = M ++ [(⟨s, 0⟩ : Sb)]) := Lib.hid (APP.out hl)
      have hU : U64 0 := u64_mk (by decide)
      clear hown hgrow hat hlt8 HO2 S1 APP hl hsz
      clear hys hys' hc0 hJ1 hJ2 hJ3 hJ4
      have fL := S3.out.frz (M.length * 2 + 1)
      have cL1 := S3.out.last.1
      have cL2 := S3.out.last.2
      have n1 : ((M.length : Int) + 1 - 1) = (M.length : Int) := by omega
      have n2 : IntKind.i64.wrap (M.length : Int) = (M.length : Int) := IntWalk.i64_in _ (by omega)
      have n3 : IntKind.i64.wrap ((M.length : Int) + 1 - 1) = (M.length : Int) := by rw [n1]; exact n2
      have n4 : (0 : Int) ≤ (M.length : Int) := by omega
      have n5 : (M.length : Int) < (M.length : Int) + 1 := by omega
      have m1 : (m : Int) < 64 := by omega
      have m0 : ¬ (m : Int) < 0 := by omega
      have HW : Hid (bits .or .u64 0 (IntKind.u64.wrap (2 ^ m)) = ((0 ||| b2 m : Nat) : Int)) := Lib.hid (by rw [pow_word m hm2, show (0 : Int) = ((0 : Nat) : Int) by rfl, orU _ _ hU (b2_u64 hm2)])
      have HMM : Hid (M2 = M ++ [(⟨s, 0 ||| b2 m⟩ : Sb)]) := Lib.hid (by rw [HST.out, HOP.out, orS_snoc])
      have S4 := Lib.hid ((S3.out.setLast (0 ||| b2 m)).keep (grown_drew (grown_refl _ none)))
      go_upto_region 15 with fail
      go_region
      rw [HW.out]
      clear S3 HW cL1 cL2 fL n1 n3 m1 m0 HST HOP
      generalize (World.setCell _ _ _).drew = w7 at *
      go_wp2_with fail
      exact ⟨⟨k + 1, some ⟨g, 0, none⟩, cap, by omega, congrArg _ (by omega), by rw [HM2.out, HMM.out, List.length_append]; rfl, by rw [HM2.out, HMM.out, List.length_append]; exact S4⟩, by simp only [RowKit.intOf]; omega⟩
end Go.Proofs.YtlgmankojgjfjaaDoor

/- The reference's Edge. -/
namespace Go.Proofs.YtlgmankojgjfjaaDoor
open Go.RowKit Bs
def isE (id : Int) (e : Ed) : Bool := decide (e.i = id)
/-- The first edge of an ID, the zero edge if there is none. -/
def edF (E : List Ed) (id : Int) : Ed := (E.find? (isE id)).getD ⟨0, 0⟩
set_option maxRecDepth 100000 in
theorem edF_hit {E : List Ed} {id : Int} {k : Nat} {x : Ed} (h : (E.take k).any (isE id) = false) (hx : E[k]? = some x) (hi : x.i = id) : edF E id = x ∧ knE E id = true := by
  obtain ⟨hk, hxe⟩ := List.getElem?_eq_some_iff.1 hx
  have hsp : E = E.take k ++ x :: E.drop (k + 1) := by
    have h1 := List.take_append_drop k E
    rw [List.drop_eq_getElem_cons hk, hxe] at h1
    exact h1.symm
  have hn : (E.take k).find? (isE id) = none := by
    rw [List.find?_eq_none]
    intro y hy
    have := List.any_eq_false.1 h y hy
    simpa using this
  constructor
  · unfold edF
    rw [hsp, List.find?_append, hn, List.find?_cons_of_pos (by unfold isE; exact decide_eq_true hi)]; rfl
  · exact List.any_eq_true.2 ⟨x, List.mem_of_getElem? hx, decide_eq_true hi⟩
set_option maxRecDepth 100000 in
theorem edF_none {E : List Ed} {id : Int} (h : E.any (isE id) = false) : edF E id = ⟨0, 0⟩ ∧ knE E id = false := by
  refine ⟨?_, h⟩
  unfold edF
  rw [List.find?_eq_none.2 (fun y hy => by have := List.any_eq_false.1 h y hy; simpa using this)]; rfl
set_option maxRecDepth 100000 in
theorem res_ed_b {fn : Func} {p u : Tmp} (h : fn.results = #[.cell p 39, .tmp u]) (tmps : Array Value) (w : World) (g : Nat) (x y : Value) (hp : tmps.getD p undef = .pointer (some ⟨g, 0, none⟩)) (hg : w.heap[g]? = some (.cells #[x, y] 39 (0, 0))) :
    (results fn tmps).run Tryd.prog w = .ok (.tuple #[.agg #[x, y], tmps.getD u undef]) w := by
  have hp' : tmps[p]?.getD undef = .pointer (some ⟨g, 0, none⟩) := by simpa using hp
  simp [results, h, hp', asAddr, run_loadVar_row w g 39 39 #[x, y] (0, 0) _ hg Tryd.underlying39 rfl (by kernel_rfl)]
set_option maxRecDepth 100000 in
theorem store2e {w : World} {b : Nat} {t : TypeId} {x y : Value} (u0 u1 : Value) (h : w.heap[b]? = some (.cells #[x, y] t (0, 0))) :
    ((w.setCell ⟨b, 0, none⟩ u0).setCell ⟨b, 1, none⟩ u1).heap[b]? = some (.cells #[u0, u1] t (0, 0)) ∧ w.grownBy ((w.setCell ⟨b, 0, none⟩ u0).setCell ⟨b, 1, none⟩ u1) (some b) := by
  have h1 := heap_setCell_same w b 0 _ _ u0 h
  have h2 := heap_setCell_same _ b 1 _ _ u1 h1
  exact ⟨h2, grown_trans (grown_setCell w ⟨b, 0, none⟩ u0) (grown_setCell _ ⟨b, 1, none⟩ u1)⟩
set_option maxRecDepth 100000 in
set_option maxHeartbeats 3200000 in
theorem iredge_any (sub n : Int) (E : List Ed) (id : Int) (p : Option Addr) (c : Nat) (q : Nat → Prop) (w : World) (hR : RdF w q (.slice p E.length c) E.length (E.flatMap edC)) (hm : E.length ≤ 9223372036854775807) :
    Calls Tryd.prog 34 #[.agg #[.int .i64 sub, .int .i64 n, .slice p E.length c], .int .i64 id] w fun e w' => e = .returned (.tuple #[.agg #[.int .i64 (edF E id).r, .int .i64 (edF E id).i], .bool (knE E id)]) ∧ w.grownBy w' none := by
  obtain ⟨k1, k2⟩ := tone_box w #[.int .i64 sub, .int .i64 n, .slice p E.length c] 30
  obtain ⟨k3, k4⟩ := tone_box (w.alloc (.cells #[.int .i64 sub, .int .i64 n, .slice p E.length c] 30)) #[.int .i64 0, .int .i64 0] 39
  rw [show (w.alloc (.cells #[.int .i64 sub, .int .i64 n, .slice p E.length c] 30)).heap.size = w.heap.size + 1 by simp] at k3
  have H0 := Lib.hid (And.intro (kept_row k1 k4 (by simp)) (And.intro k3 (And.intro (grown_trans k2 k4) ((hR.keep (grown_trans k2 k4)).old))))
  clear k1 k2 k3 k4 hR
  go_enter Tryd.func34, Tryd.ntmps34
  go_upto_region 1 with fail
  generalize ((w.alloc _).alloc _) = w1 at *
  obtain ⟨⟨c0, c1⟩, f0, f1⟩ : (w1.cell? ⟨w.heap.size + 1, 0, none⟩ = some (.int .i64 0) ∧ w1.cell? ⟨w.heap.size + 1, 1, none⟩ = some (.int .i64 0)) ∧ w1.frozen? ⟨w.heap.size + 1, 0, none⟩ = false ∧ w1.frozen? ⟨w.heap.size + 1, 1, none⟩ = false := ⟨⟨cell_of_row _ _ _ _ _ _ H0.out.2.1, cell_of_row _ _ _ _ _ _ H0.out.2.1⟩, frozen_of_row _ _ 0 _ _ H0.out.2.1, frozen_of_row _ _ 1 _ _ H0.out.2.1⟩
  have d2 := (row3i H0.out.1).1.2.2
  go_wp2_with fail
  go_loopw [6] (fun a wr => ∃ k : Nat, k ≤ E.length ∧ a = .int .i64 (k : Int) ∧ wr = w1 ∧ Hid ((E.take k).any (isE id) = false)) (fun a _ => E.length - (RowKit.intOf a).toNat)
  case atStart => exact ⟨0, Nat.zero_le _, rfl, rfl, Lib.hid rfl⟩
  case round =>
  obtain ⟨k, hk, rfl, rfl, HN⟩ := hrel
  by_cases hlt : k < E.length
  · have hlt' : (k : Int) < (E.length : Int) := by omega
    obtain ⟨-, b, off, rfl, hq, hc⟩ := ed_cells H0.out.2.2.2 (by omega)
    obtain ⟨x, hx⟩ : ∃ x, E[k]? = some x := ⟨_, List.getElem?_eq_getElem hlt⟩
    obtain ⟨a0, a1⟩ := hc k x hx
    have HX := Lib.hid hx
    clear hc hx
    by_cases hi : x.i = id
    · have hi' : (x.i == id) = true := by simpa using hi
      have HE := Lib.hid (edF_hit HN.out HX.out hi)
      obtain ⟨t1, t2⟩ := store2e (.int .i64 x.r) (.int .i64 x.i) H0.out.2.1
      have HT := Lib.hid (And.intro t1 (grown_new H0.out.2.2.1 t2 (by omega)))
      clear t1 t2 hi
      go_wp2_with fail
      refine bodyPost_ret (res_ed_b rfl _ _ (w.heap.size + 1) _ _ rfl HT.out.1) rfl ?_
      rw [HE.out.1, HE.out.2]
      exact ⟨rfl, HT.out.2⟩
    · have hi' : (x.i == id) = false := by simpa using hi
      have HN2 : Hid ((E.take (k + 1)).any (isE id) = false) := Lib.hid (any_take HN.out HX.out (decide_eq_false hi))
      clear hi
      go_wp2_with fail
      exact ⟨⟨k + 1, by omega, congrArg _ (by omega), (by first | rfl | trivial), HN2⟩, by simp only [RowKit.intOf]; omega⟩
  · obtain rfl : k = E.length := by omega
    have hnl : ¬ (E.length : Int) < (E.length : Int) := by omega
    have HE := Lib.hid (edF_none (any_end HN.out (Nat.le_refl _)))
    obtain ⟨t1, t2⟩ := store2e (.int .i64 0) (.int .i64 0) H0.out.2.1
    have HT := Lib.hid (And.intro t1 (grown_new H0.out.2.2.1 t2 (by omega)))
    clear t1 t2
    go_wp2_with fail
    refine bodyPost_ret (res_ed_b rfl _ _ (w.heap.size + 1) _ _ rfl HT.out.1) rfl ?_
    rw [HE.out.1, HE.out.2]
    exact ⟨rfl, HT.out.2⟩
end Go.Proofs.YtlgmankojgjfjaaDoor

/- The reference's Check of claims. -/
namespace Go.Proofs.YtlgmankojgjfjaaDoor
open Go.RowKit Bs
end Go.Proofs.YtlgmankojgjfjaaDoor

/- The reference's claimed, Conflicts, Length, Free. -/
namespace Go.Proofs.YtlgmankojgjfjaaDoor
open Go.RowKit Bs
end Go.Proofs.YtlgmankojgjfjaaDoor

/- The laws' example. -/
namespace Go.Proofs.YtlgmankojgjfjaaDoor
open Go.RowKit Bs
set_option maxRecDepth 100000 in
set_option maxHeartbeats 1600000 in
theorem iclaim_any (r id : Int) (w : World) :
    Calls Tryd.prog 41 #[.int .i64 r, .int .i64 id] w fun e w' => e = .returned (.agg #[.int .i64 r, .int .i64 0, .int .i64 id, .int .i64 8]) ∧ w.grownBy w' none := by
  obtain ⟨n1, n2⟩ := tone_box w #[.int .i64 r, .int .i64 0, .int .i64 id, .int .i64 8] 79
  have H := Lib.hid (And.intro n1 n2)
  have hsz : (Tryd.prog.info? 79).map (·.size) = some 4 := by kernel_rfl
  have HS := Lib.hid hsz
  have HU := Lib.hid Tryd.underlying79
  clear n1 n2 hsz
  go_enter Tryd.func41, Tryd.ntmps41
  go_wp2_with fail
  refine bodyPost_ret (v := .agg #[.int .i64 r, .int .i64 0, .int .i64 id, .int .i64 8]) (results_cell_row (p := 4) (fr := (0, 0)) (by kernel_rfl) _ _ w.heap.size _ _ _ rfl H.out.1 HU.out rfl HS.out) rfl ⟨rfl, H.out.2⟩
def exL : List Od := [⟨1, 0, 5, 8⟩, ⟨2, 0, 5, 8⟩, ⟨3, 0, 1, 8⟩]
set_option maxRecDepth 100000 in
theorem ex_p0 : plnX exL 0 = 0 ∧ plnS exL 0 = 0 ∧ plnL exL 0 = 8 := ⟨by kernel_rfl, by kernel_rfl, by kernel_rfl⟩
set_option maxRecDepth 100000 in
theorem ex_p1 : plnE exL 0 = [⟨3, 1⟩] := by kernel_rfl
set_option maxRecDepth 100000 in
theorem ex_r0 : rsX exL 0 = 0 := by kernel_rfl
set_option maxRecDepth 100000 in
theorem ex_r1 : rsO exL 0 = [⟨1, 0, 5, 8⟩, ⟨2, 0, 2, 8⟩, ⟨3, 0, 1, 8⟩] := by kernel_rfl
set_option maxRecDepth 100000 in
theorem ex_l : plS 9 8 = 1 ∧ plB 9 8 = 0 ∧ plOk 9 8 = true := ⟨by kernel_rfl, by kernel_rfl, by kernel_rfl⟩
set_option maxRecDepth 100000 in
theorem rd12 (w : World) (q : Nat → Prop) (hq : q w.heap.size) : RdF (w.alloc (.cells #[.int .i64 1, .int .i64 0, .int .i64 5, .int .i64 8, .int .i64 2, .int .i64 0, .int .i64 5, .int .i64 8, .int .i64 3, .int .i64 0, .int .i64 1, .int .i64 8] 79)) q (.slice (some ⟨w.heap.size, 0, none⟩) exL.length 3) exL.length (exL.flatMap odC) := by
  refine ⟨_, 3, rfl, fun _ => ⟨_, _, rfl, hq, fun i u hi => ?_⟩⟩
  rw [Nat.zero_add, cell_of_row _ _ _ _ _ _ (heap_alloc_new w _)]
  simpa [exL, odC] using hi
set_option maxRecDepth 100000 in
theorem keepAw {w5 w' : World} {B g1 o1 g2 o2 : Nat} {c : Nat} (h : w5.cell? ⟨B, 2, none⟩ = some (.slice (some ⟨g1, o1, none⟩) 1 c) ∧ w5.cell? ⟨g1, o1, none⟩ = some (.int .i64 3) ∧ w5.cell? ⟨g1, o1 + 1, none⟩ = some (.int .i64 1) ∧ w5.cell? ⟨g2, o2 + 4, none⟩ = some (.int .i64 2) ∧ w5.cell? ⟨g2, o2 + 4 + 1, none⟩ = some (.int .i64 0) ∧ w5.cell? ⟨g2, o2 + 4 + 2, none⟩ = some (.int .i64 2) ∧ w5.cell? ⟨g2, o2 + 4 + 3, none⟩ = some (.int .i64 8)) (hg : Hid (w5.grownBy w' none)) :
    w'.cell? ⟨B, 2, none⟩ = some (.slice (some ⟨g1, o1, none⟩) 1 c) ∧ w'.cell? ⟨g1, o1, none⟩ = some (.int .i64 3) ∧ w'.cell? ⟨g1, o1 + 1, none⟩ = some (.int .i64 1) ∧ w'.cell? ⟨g2, o2 + 4, none⟩ = some (.int .i64 2) ∧ w'.cell? ⟨g2, o2 + 4 + 1, none⟩ = some (.int .i64 0) ∧ w'.cell? ⟨g2, o2 + 4 + 2, none⟩ = some (.int .i64 2) ∧ w'.cell? ⟨g2, o2 + 4 + 3, none⟩ = some (.int .i64 8) ∧ Hid (w5.grownBy w' none) := by
  obtain ⟨h0, h1, h2, h3, h4, h5, h6⟩ := h
  exact ⟨hg.out.cell h0 (by simp), hg.out.cell h1 (by simp), hg.out.cell h2 (by simp), hg.out.cell h3 (by simp), hg.out.cell h4 (by simp), hg.out.cell h5 (by simp), hg.out.cell h6 (by simp), hg⟩
set_option maxRecDepth 100000 in
set_option maxHeartbeats 6400000 in
theorem iawake_any (w : World) :
    Calls Tryd.prog 18 #[] w fun e w' => e = .returned (.bool true) ∧ w.grownBy w' none := by
  go_enter Tryd.func18, Tryd.ntmps18
  go_wp2_with fail
  refine (iclaim_any 1 5 w).mono ?_
  rintro e w1 ⟨rfl, hg⟩
  have G1 := Lib.hid hg
  clear hg
  go_wp2_with fail
  refine (iclaim_any 2 5 w1).mono ?_
  rintro e w2 ⟨rfl, hg⟩
  have G2 := Lib.hid (grown_trans G1.out hg)
  clear hg G1
  go_wp2_with fail
  refine (iclaim_any 3 1 w2).mono ?_
  rintro e w3 ⟨rfl, hg⟩
  have G3 := Lib.hid (grown_trans G2.out hg)
  have H3 := Lib.hid (rd12 w3 (fun _ => True) trivial)
  have HG3 := Lib.hid (grown_trans G3.out (World.grownBy_alloc w3 (.cells #[.int .i64 1, .int .i64 0, .int .i64 5, .int .i64 8, .int .i64 2, .int .i64 0, .int .i64 5, .int .i64 8, .int .i64 3, .int .i64 0, .int .i64 1, .int .i64 8] 79) none))
  clear hg G2 G3
  go_upto_region 2 with fail
  generalize w3.alloc _ = w4 at *
  go_wp2_with fail
  refine (iplan_any exL (some ⟨w3.heap.size, 0, none⟩) 3 0 _ w4 H3.out (by decide)).mono ?_
  rintro e w5 ⟨p5, c5, rfl, ho, hg⟩
  rw [ex_p0.1, ex_p0.2.1, ex_p0.2.2, ex_p1]
  rw [ex_p1] at ho
  obtain ⟨m1, m2⟩ := tone_box w5 #[.int .i64 0, .int .i64 8, .slice p5 1 c5] 30
  have H5 := Lib.hid (And.intro ((H3.out.keep hg).keep m2) (And.intro (grown_trans (grown_trans HG3.out hg) m2) (And.intro m1 (ho.kept m2 (by cases (Value.slice p5 [(⟨3, 1⟩ : Ed)].length c5).ownBlock <;> simp)))))
  clear m1 m2 ho hg H3 HG3
  go_upto_region 3 with fail
  generalize w5.alloc _ = w6 at *
  go_wp2_with fail
  refine (ires_any exL (some ⟨w3.heap.size, 0, none⟩) 3 0 _ w6 H5.out.1 (fun h => by cases h) (by decide)).mono ?_
  rintro e w7 ⟨p7, c7, rfl, ho, hg⟩
  rw [ex_r0, ex_r1]
  rw [ex_r1] at ho
  have H7 := Lib.hid (And.intro (kept_row H5.out.2.2.1 hg (by simp)) (And.intro (rdf_of_own (H5.out.2.2.2.kept hg (by cases (Value.slice p5 [(⟨3, 1⟩ : Ed)].length c5).ownBlock <;> simp))) (And.intro (rdf_of_own ho) (grown_trans H5.out.2.1 hg))))
  clear ho hg H5
  go_wp2_with fail
  refine (iplc_any 9 8 w7).mono ?_
  rintro e w8 ⟨rfl, hg⟩
  rw [ex_l.1, ex_l.2.1, ex_l.2.2]
  have H8 := Lib.hid (And.intro (kept_row H7.out.1 hg (by simp)) (And.intro (H7.out.2.1.keep hg) (And.intro (H7.out.2.2.1.keep hg) (grown_trans H7.out.2.2.2 hg))))
  clear hg H7
  obtain ⟨-, g1, o1, rfl, -, hE⟩ := ed_cells H8.out.2.1 (by decide)
  obtain ⟨e0, e1⟩ := hE 0 _ rfl
  obtain ⟨-, g2, o2, rfl, -, hO⟩ := od_cells H8.out.2.2.1 (by decide)
  obtain ⟨q0, q1, q2, q3⟩ := hO 1 _ rfl
  rw [Nat.zero_mul, Nat.add_zero] at e0 e1
  rw [Nat.one_mul] at q0 q1 q2 q3
  have c2 : w8.cell? ⟨w5.heap.size, 2, none⟩ = some (.slice (some ⟨g1, o1, none⟩) 1 c5) := cell_of_row _ _ 2 _ _ _ H8.out.1
  have HF := Lib.hid (And.intro c2 (And.intro e0 (And.intro e1 (And.intro q0 (And.intro q1 (And.intro q2 q3))))))
  have HGW := Lib.hid H8.out.2.2.2
  clear hE hO c2 e0 e1 q0 q1 q2 q3 H8
  have GZ : Hid (w8.grownBy w8 none) := Lib.hid (grown_refl _ _)
  go_upto_region 5 with fail
  obtain ⟨a0, a1, a2, a3, a4, a5, a6⟩ := HF.out
  go_region_held3 (fun w' => w'.cell? ⟨w5.heap.size, 2, none⟩ = some (.slice (some ⟨g1, o1, none⟩) 1 c5) ∧ w'.cell? ⟨g1, o1, none⟩ = some (.int .i64 3) ∧ w'.cell? ⟨g1, o1 + 1, none⟩ = some (.int .i64 1) ∧ w'.cell? ⟨g2, o2 + 4, none⟩ = some (.int .i64 2) ∧ w'.cell? ⟨g2, o2 + 4 + 1, none⟩ = some (.int .i64 0) ∧ w'.cell? ⟨g2, o2 + 4 + 2, none⟩ = some (.int .i64 2) ∧ w'.cell? ⟨g2, o2 + 4 + 3, none⟩ = some (.int .i64 8) ∧ Hid (w8.grownBy w' none))
    (first | with_reducible exact keepAw HF.out (hid_drew GZ) | (with_reducible exact keepAw HF.out (hid_drew (hid_more GZ hg))) | (go_split_ands; with_reducible refine keepAw HF.out ?_; with_reducible assumption) | (go_split_ands; with_reducible refine keepAw HF.out (hid_more ?_ hg); with_reducible assumption))
    ((go_at_call 41; refine (iclaim_any 2 2 _).mono ?_; rintro e w' ⟨rfl, hg⟩))
  all_goals
    go_split_ands
    go_wp2_with fail
    go_ret
    exact ⟨rfl, grown_trans HGW.out (Hid.out (by assumption))⟩
end Go.Proofs.YtlgmankojgjfjaaDoor

/- The reference's Ints at equal lists. -/
namespace Go.Proofs.YtlgmankojgjfjaaDoor
open Go.RowKit Bs
set_option maxRecDepth 100000 in
set_option maxHeartbeats 1600000 in
theorem iints_any (r : List Int) (p1 p2 : Option Addr) (c1 c2 : Nat) (q1 q2 : Nat → Prop) (w : World) (h1 : Rd w q1 (.slice p1 r.length c1) (r.map fun z => Value.int .i64 z)) (h2 : Rd w q2 (.slice p2 r.length c2) (r.map fun z => Value.int .i64 z)) (hm : r.length ≤ 9223372036854775807) :
    Calls Tryd.prog 17 #[.slice p1 r.length c1, .slice p2 r.length c2] w fun e w' => e = .returned (.bool true) ∧ w.grownBy w' none := by
  have H := Lib.hid (And.intro h1 h2)
  clear h1 h2
  go_enter Tryd.func17, Tryd.ntmps17
  go_wp2_with fail
  go_loopw [5] (fun a wr => ∃ k : Nat, k ≤ r.length ∧ a = .int .i64 (k : Int) ∧ w.grownBy wr none) (fun a _ => r.length - (RowKit.intOf a).toNat)
  case atStart => exact ⟨0, Nat.zero_le _, rfl, grown_refl _ _⟩
  case round =>
    obtain ⟨k, hk, rfl, hG⟩ := hrel
    by_cases hlt : k < r.length
    · obtain ⟨-, b1, o1, rfl, _, hc1⟩ := rdi_at (H.out.1.keep hG) (by omega)
      obtain ⟨-, b2, o2, rfl, _, hc2⟩ := rdi_at (H.out.2.keep hG) (by omega)
      obtain ⟨y, hy⟩ : ∃ y, r[k]? = some y := ⟨_, List.getElem?_eq_getElem hlt⟩
      have e1 := hc1 k y hy
      have e2 := hc2 k y hy
      clear hy
      have HG := Lib.hid hG
      clear hc1 hc2 hG
      go_wp2_with fail
      go_region
      have HG2 := Lib.hid (grown_drew HG.out)
      clear HG e1 e2
      change Exit.then _ _ _ _ wr.drew
      generalize wr.drew = w2 at *
      go_wp2_with fail
      exact ⟨⟨k + 1, by omega, congrArg _ (by omega), HG2.out⟩, by simp only [RowKit.intOf]; omega⟩
    · obtain rfl : k = r.length := by omega
      have HG := Lib.hid hG
      clear hG
      go_wp2_with fail
      go_ret
      exact ⟨rfl, HG.out⟩
end Go.Proofs.YtlgmankojgjfjaaDoor

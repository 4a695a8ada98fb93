/- Parts of the proof, packed: ToUntil, ToUnt2, MaCol, MaPln, MaLay, MaSrt, MaAll. -/
import Derived.Deep.RegionHeld
import Derived.Test.YtdkbdghkboeggaaMraw1
import Derived.Test.YtdkbdghkboeggaaMraw2
import Derived.Shelf.SlIterI.Sorted
import Derived.Shelf.SlLaysM
import Derived.Shelf.SortM.Plain
import Derived.Shelf.SortM.SortNone
import Derived.Deep.AppendLies
/- A region that draws its order: loads are taken first although a late operation writes their cells; what they want of the world holds until then. -/
namespace Go.Proofs.Ytdkbdghkboeggaa
open Go
section
variable {P : Program} {ops : Array Oper} {Q : Exit → Act → World → Prop} {md : Region.Mode} {S : World → Prop} {late : Nat → Bool}
/-- Any order from here on; S holds behind whatever is not late. -/
def anyU (P : Program) (md : Region.Mode) (ops : Array Oper) (Q : Exit → Act → World → Prop) (S : World → Prop) (late : Nat → Bool) : Nat → Array Bool → Act → World → Prop
  | 0, seen, a, w => Region.ready md ops seen = [] ∧ Q .normal a w
  | n + 1, seen, a, w => (Region.ready md ops seen = [] → Q .normal a w) ∧
      ∀ k, k ∈ Region.ready md ops seen → wpOp P ops Q k (fun b v => (late k = false → S v) ∧ anyU P md ops Q S late n (seen.setIfInBounds k true) b v) a w
set_option maxRecDepth 100000 in
theorem anyU_any (n : Nat) : ∀ (seen : Array Bool) (a : Act) (w : World), anyU P md ops Q S late n seen a w → wpAny P md ops Q n seen a w := by
  induction n with
  | zero => intro seen a w h; exact h
  | succ n ih => intro seen a w h; exact ⟨h.1, fun k hk => wpOp_mono (fun b v hb => ih _ b v hb.2) (h.2 k hk)⟩
/-- Number j waits for number i, perhaps by way of others. -/
def reach (md : Region.Mode) (ops : Array Oper) : Nat → Nat → Nat → Bool
  | 0, _, _ => false
  | n + 1, j, i => match ops[j]? with
    | some o => o.after.any fun e => Region.binds md e && (e.on == i || reach md ops n e.on i)
    | none => false
/-- Whatever is late waits for number i. -/
def waits (md : Region.Mode) (ops : Array Oper) (late : Nat → Bool) (i : Nat) : Bool :=
  (List.range ops.size).all fun j => !late j || reach md ops ops.size j i
/-- What has come up has come up behind all that it waits for. -/
def Shut1 (md : Region.Mode) (ops : Array Oper) (seen : Array Bool) : Prop :=
  ∀ (j : Nat) (o : Oper), ops[j]? = some o → seen.getD j false = true → ∀ e ∈ o.after, Region.binds md e = true → seen.getD e.on false = true
def shut1 (md : Region.Mode) (ops : Array Oper) (seen : Array Bool) : Bool :=
  (List.range ops.size).all fun j => !seen.getD j false || (match ops[j]? with
    | some o => o.after.all fun e => !Region.binds md e || seen.getD e.on false
    | none => true)
set_option maxRecDepth 100000 in
theorem shut1_spec {seen : Array Bool} (h : shut1 md ops seen = true) : Shut1 md ops seen := by
  intro j o ho hj e he hb
  unfold shut1 at h
  rw [List.all_eq_true] at h
  have h1 := h j (List.mem_range.2 (Array.getElem?_eq_some_iff.1 ho).1)
  rw [hj, ho] at h1
  simp only [Bool.not_true, Bool.false_or] at h1
  rw [Array.all_eq_true_iff_forall_mem] at h1
  have h2 := h1 e he
  rw [hb] at h2
  simpa using h2
set_option maxRecDepth 100000 in
theorem Shut1.step {seen : Array Bool} {j : Nat} (h : Shut1 md ops seen) (hj : j ∈ Region.ready md ops seen) : Shut1 md ops (seen.setIfInBounds j true) := by
  intro k o ho hk e he hb
  by_cases hjk : j = k
  · subst hjk
    obtain ⟨_, o2, ho2, hall⟩ := mem_ready.1 hj
    rw [ho] at ho2
    obtain rfl := Option.some.inj ho2
    exact getD_set_true (hall e he hb)
  · rw [getD_set_ne false hjk] at hk
    exact getD_set_true (h k o ho hk e he hb)
set_option maxRecDepth 100000 in
theorem reach_seen {seen : Array Bool} (hc : Shut1 md ops seen) (i : Nat) : ∀ (n j : Nat) (o : Oper), ops[j]? = some o → (∀ e ∈ o.after, Region.binds md e = true → seen.getD e.on false = true) → reach md ops n j i = true → seen.getD i false = true := by
  intro n
  induction n with
  | zero => intro j o _ _ h; cases h
  | succ n ih =>
    intro j o ho hall h
    unfold reach at h
    rw [ho] at h
    simp only at h
    rw [Array.any_eq_true'] at h
    obtain ⟨e, he, hb⟩ := h
    rw [Bool.and_eq_true, Bool.or_eq_true] at hb
    have h1 := hall e he hb.1
    rcases hb.2 with h2 | h2
    · have : e.on = i := by simpa using h2
      rwa [this] at h1
    · cases ho2 : ops[e.on]? with
      | none =>
        cases n with
        | zero => cases h2
        | succ n =>
          unfold reach at h2
          rw [ho2] at h2
          cases h2
      | some o2 => exact ih e.on o2 ho2 (hc e.on o2 ho2 h1) h2
set_option maxRecDepth 100000 in
theorem waits_seen {seen : Array Bool} {i j : Nat} (hw : waits md ops late i = true) (hc : Shut1 md ops seen) (hj : j ∈ Region.ready md ops seen) (hl : late j = true) : seen.getD i false = true := by
  obtain ⟨_, o, ho, hall⟩ := mem_ready.1 hj
  unfold waits at hw
  rw [List.all_eq_true] at hw
  have h1 := hw j (List.mem_range.2 (Array.getElem?_eq_some_iff.1 ho).1)
  rw [hl] at h1
  exact reach_seen hc i _ j o ho hall (by simpa using h1)
set_option maxRecDepth 100000 in
theorem anyU_first {i : Nat} {oi : Oper} {v : Value} (hi : ops[i]? = some oi) (hsel : ∀ (j : Nat) (o : Oper) cs b, ops[j]? = some o → o.op ≠ .select cs b)
    (hQ : ∀ c a w, Q (.panic c) (a.put oi.dst v) w → Q (.panic c) a w) (hw : waits md ops late i = true) (n : Nat) :
    ∀ (seen : Array Bool) (a : Act) (w : World),
      (∀ j oj, ops[j]? = some oj → j ≠ i → seen.getD j true = false → (∀ e ∈ oj.after, Region.binds md e = true → e.on ≠ i) → oi.apart ops oj = true) →
      Shut1 md ops seen → i ∈ Region.ready md ops seen → YieldsIf P ops S oi v a → S w → anyU P md ops Q S late n (seen.setIfInBounds i true) (a.put oi.dst v) w → anyU P md ops Q S late (n + 1) seen a w := by
  have now : ∀ (m : Nat) (seen : Array Bool) (a : Act) (w : World), YieldsIf P ops S oi v a → S w → anyU P md ops Q S late m (seen.setIfInBounds i true) (a.put oi.dst v) w →
      wpOp P ops Q i (fun b u => (late i = false → S u) ∧ anyU P md ops Q S late m (seen.setIfInBounds i true) b u) a w := fun m seen a w hy hS h => hy.wpOp hi hS ⟨fun _ => hS, h⟩
  induction n with
  | zero =>
    intro seen a w _ _ hr hy hS h
    refine ⟨fun e => (by rw [e] at hr; cases hr), fun j hj => ?_⟩
    by_cases e : j = i
    · exact e ▸ now 0 seen a w hy hS h
    · have := ready_mono hj e
      rw [h.1] at this
      cases this
  | succ n ih =>
    intro seen a w hf hc hr hy hS h
    refine ⟨fun e => (by rw [e] at hr; cases hr), fun j hj => ?_⟩
    by_cases e : j = i
    · exact e ▸ now (n + 1) seen a w hy hS h
    obtain ⟨hun, oj, hoj, hall⟩ := mem_ready.1 hj
    have hno : ∀ e ∈ oj.after, Region.binds md e = true → e.on ≠ i := fun e he hb hei => by
      have h1 := hall e he hb
      have h0 := (mem_ready.1 hr).1
      rw [hei] at h1
      by_cases hlt : i < seen.size
      · simp [hlt] at h0 h1
        rw [h0] at h1
        cases h1
      · simp [Array.getElem?_eq_none (Nat.le_of_not_lt hlt)] at h1
    have hl : late j = false := by
      cases hl : late j with
      | false => rfl
      | true =>
        have h1 := waits_seen hw hc hj hl
        have h0 := (mem_ready.1 hr).1
        by_cases hlt : i < seen.size
        · simp [hlt] at h0 h1
          rw [h0] at h1
          cases h1
        · simp [Array.getElem?_eq_none (Nat.le_of_not_lt hlt)] at h1
    refine wpOp_mono (fun b u hb => ⟨hb.2.1, ih _ b u (fun k ok hk hki hsk hnk => hf k ok hk hki ?_ hnk) (hc.step hj) (ready_mono hr (Ne.symm e)) hb.1 (hb.2.1 hl) (by rw [Array.setIfInBounds_comm _ _ e]; exact hb.2.2)⟩)
      (wpOp_putIf hoj (hf j oj hoj e hun hno) (fun cs b => hsel i oi cs b hi) (fun cs b => hsel j oj cs b hoj) hQ hy (h.2 j (ready_mono hj e)))
    by_cases hjk : j = k
    · exact hjk ▸ hun
    · rwa [getD_set_ne true hjk] at hsk
set_option maxRecDepth 100000 in
theorem anyU_take {i : Nat} {oi : Oper} {v : Value} {n : Nat} {seen : Array Bool} {a : Act} {w : World} (hi : ops[i]? = some oi) (hw : waits md ops late i = true)
    (hc : shut1 md ops seen = true) (hs : Region.noSelect ops = true) (hf : Region.free md ops seen i = true) (hr : (Region.ready md ops seen).contains i = true)
    (hQ : ∀ c a w, Q (.panic c) (a.put oi.dst v) w → Q (.panic c) a w) (hy : YieldsIf P ops S oi v a) (hS : S w)
    (h : anyU P md ops Q S late n (seen.setIfInBounds i true) (a.put oi.dst v) w) : anyU P md ops Q S late (n + 1) seen a w :=
  anyU_first hi (Region.noSelect_spec hs) hQ hw n seen a w (Region.free_spec hi hf) (shut1_spec hc) (by simpa using hr) hy hS h
/-- Each of some operations comes up next. -/
def EachU (P : Program) (md : Region.Mode) (ops : Array Oper) (Q : Exit → Act → World → Prop) (S : World → Prop) (late : Nat → Bool) (n : Nat) (seen : Array Bool) (a : Act) (w : World) (rs : List Nat) : Prop :=
  ∀ k ∈ rs, wpOp P ops Q k (fun b v => (late k = false → S v) ∧ anyU P md ops Q S late n (seen.setIfInBounds k true) b v) a w
set_option maxRecDepth 100000 in
theorem EachU.nil {n : Nat} {seen : Array Bool} {a : Act} {w : World} : EachU P md ops Q S late n seen a w [] := fun _ h => by cases h
set_option maxRecDepth 100000 in
theorem EachU.cons {n : Nat} {seen : Array Bool} {a : Act} {w : World} {i : Nat} {o : Oper} {rs : List Nat} (ho : ops[i]? = some o)
    (h : ∀ K : Act → World → Prop, Shut (∀ b v, (late i = false → S v) → ((late i = false → S v) → anyU P md ops Q S late n (seen.setIfInBounds i true) b v) → K b v) → if Region.wanted o (yielded ops a.tmps) = true then Oper.wp P o a w K Q else K (a.put o.dst undef) w)
    (hs : EachU P md ops Q S late n seen a w rs) : EachU P md ops Q S late n seen a w (i :: rs) := fun j hj => by
  rcases List.mem_cons.1 hj with rfl | hj
  · exact wpOp_step ho (fun K hK => h K (fun b v hS hW => hK b v ⟨hS, hW hS⟩))
  · exact hs j hj
set_option maxRecDepth 100000 in
theorem anyU_ready {rs : List Nat} {n : Nat} {seen : Array Bool} {a : Act} {w : World} (hr : Region.ready md ops seen = rs) (hne : rs ≠ []) (h : EachU P md ops Q S late n seen a w rs) : anyU P md ops Q S late (n + 1) seen a w :=
  ⟨fun e => absurd (hr ▸ e) hne, hr ▸ h⟩
set_option maxRecDepth 100000 in
theorem anyU_done {seen : Array Bool} {a : Act} {w : World} (hr : Region.ready md ops seen = []) (h : Q .normal a w) (n : Nat) : anyU P md ops Q S late n seen a w := by
  cases n with
  | zero => exact ⟨hr, h⟩
  | succ n => exact ⟨fun _ => h, by rw [hr]; intro k hk; cases hk⟩
set_option maxRecDepth 100000 in
theorem region_until {id : Nat} {a : Act} {w : World} (late : Nat → Bool) (hm : P.follows .mixedOrders = true) (hS : S w.drew) (h : S w.drew → anyU P .any ops Q S late ops.size (Array.replicate ops.size false) a w.drew) :
    (Code.region id ops true).wp P Q a w := wp_region_any hm (anyU_any _ _ _ _ (h hS))
end
end Go.Proofs.Ytdkbdghkboeggaa

/- As until: what is not late keeps what holds. -/
namespace Go.Proofs.Ytdkbdghkboeggaa
open Go
section
variable {P : Program} {ops : Array Oper} {Q : Exit → Act → World → Prop} {md : Region.Mode} {S : World → Prop} {late : Nat → Bool}
end
end Go.Proofs.Ytdkbdghkboeggaa

/- masks: valid, nextIn, collect. -/
namespace Go.Proofs.Ytdkbdghkboeggaa
open Go.RowKit Go.Maps Bs
/-- Are both the table and the plane valid? -/
def vaT (r s n : Int) (L : List Rw) (pl : Int) : Bool := decide ((0 ≤ pl ∧ pl < 8) ∧ ckT r s n L = 0)
set_option maxRecDepth 100000 in
theorem mvalid_any (r s n : Int) (p : Option Addr) (c : Nat) (L : List Rw) (pl : Int) (q : Nat → Prop) (w : World) (hR : RdW w q p c L) (hm : L.length ≤ 9223372036854775807) :
    Calls Try.prog 30 #[.agg #[.int .i64 r, .int .i64 s, .int .i64 n, .slice p L.length c], .int .i64 pl] w fun e w' => e = .returned (.bool (vaT r s n L pl)) ∧ w.grownBy w' none := by
  obtain ⟨k1, k2⟩ := tone_box w #[.int .i64 r, .int .i64 s, .int .i64 n, .slice p L.length c] 24
  have HB := Lib.hid (And.intro k1 (And.intro k2 (hR.keep k2)))
  clear k1 k2 hR
  go_enter Try.func30, Try.ntmps30
  go_upto_region 1 with fail
  generalize w.alloc _ = w1 at *
  obtain ⟨d0, d1, d2, d3⟩ := row4T HB.out.1
  by_cases h0 : 0 ≤ pl
  case neg =>
    have HO : Hid (vaT r s n L pl = false) := Lib.hid (decide_eq_false (fun h => h0 h.1.1))
    go_wp2_with fail
    go_ret
    rw [HO.out]
    exact ⟨rfl, HB.out.2.1⟩
  by_cases h8 : pl < 8
  case neg =>
    have HO : Hid (vaT r s n L pl = false) := Lib.hid (decide_eq_false (fun h => h8 h.1.2))
    go_wp2_with fail
    go_ret
    rw [HO.out]
    exact ⟨rfl, HB.out.2.1⟩
  have HO : Hid (vaT r s n L pl = (ckT r s n L == 0)) := Lib.hid (by
    unfold vaT
    by_cases hc : ckT r s n L = 0
    · rw [decide_eq_true ⟨⟨h0, h8⟩, hc⟩, hc]; rfl
    · rw [decide_eq_false (fun h => hc h.2)]
      exact (beq_eq_false_iff_ne.2 hc).symm)
  go_wp2_with fail
  refine (tcheckT_any r s n p c L q w1 HB.out.2.2 hm).mono ?_
  rintro e w2 ⟨rfl, hg⟩
  have G := Lib.hid (grown_trans HB.out.2.1 hg)
  clear hg
  go_wp2_with fail
  go_ret
  rw [HO.out]
  exact ⟨rfl, G.out⟩
set_option maxRecDepth 100000 in
set_option maxHeartbeats 1600000 in
theorem mnext_any (x : Rw) (k : Nat) (hk : k < 8) (q : Nat → Prop) (w : World) (hx : RwOk w q x) :
    Calls Try.prog 32 #[.agg #[.int .i64 x.id, .slice x.p x.nx.length x.c], .int .i64 (k : Int)] w fun e w' => e = .returned (.int .i64 (nxI x.nx k)) ∧ w.grownBy w' none := by
  obtain ⟨k1, k2⟩ := tone_box w #[.int .i64 x.id, .slice x.p x.nx.length x.c] 28
  have HB := Lib.hid (And.intro k1 (And.intro k2 (hx.keep k2)))
  clear k1 k2 hx
  go_enter Try.func32, Try.ntmps32
  go_upto_region 1 with fail
  generalize w.alloc _ = w1 at *
  have c1 : w1.cell? ⟨w.heap.size, 1, none⟩ = some (.slice x.p x.nx.length x.c) := cell_of_row _ _ _ _ _ _ HB.out.1
  by_cases h0 : x.nx.length = 0
  · have h0' : ((x.nx.length : Int) == 0) = true := beq_iff_eq.2 (by omega)
    have HO : Hid (nxI x.nx k = 0) := Lib.hid (by unfold nxI; rw [if_pos h0])
    clear h0
    go_wp2_with fail
    go_ret
    rw [HO.out]
    exact ⟨rfl, HB.out.2.1⟩
  · have h0' : ((x.nx.length : Int) == 0) = false := beq_eq_false_iff_ne.2 (by omega)
    have hm : x.nx.length ≤ 9223372036854775807 := Nat.le_trans HB.out.2.2.hc.1 HB.out.2.2.hc.2
    obtain ⟨xp, hxp⟩ : ∃ xp, x.p = xp := ⟨_, rfl⟩
    have hat := nxI_at (k := k) h0
    have hrd := HB.out.2.2.rd
    obtain ⟨-, b, off, hp, hq, hc⟩ := tvT_at hrd hat
    have a0 := hc _ _ hat
    obtain ⟨j, hj⟩ : ∃ j, k % x.nx.length = j := ⟨_, rfl⟩
    have hjl : j < x.nx.length := by rw [← hj]; exact Nat.mod_lt _ (by omega)
    rw [hj] at a0
    rw [hp] at c1
    obtain ⟨v, hv⟩ : ∃ v, nxI x.nx k = v := ⟨_, rfl⟩
    rw [hv] at a0
    have HV := Lib.hid hv
    have r1 : ((k : Int)).tmod (x.nx.length : Int) = (j : Int) := by rw [Int.tmod_eq_emod_of_nonneg (by omega), ← hj]; exact (Int.natCast_emod k x.nx.length).symm
    have r1b : ((k : Int)) % (x.nx.length : Int) = (j : Int) := by rw [← hj]; exact (Int.natCast_emod k x.nx.length).symm
    have r2 : IntKind.i64.wrap (j : Int) = (j : Int) := IntWalk.i64_in _ (by omega)
    have r0 : (x.nx.length : Int) ≠ 0 := by omega
    have j0 : (0 : Int) ≤ (j : Int) := by omega
    have j1 : (j : Int) < (x.nx.length : Int) := by omega
    clear h0 hat hrd hc hj hv hxp
    go_upto_region 3 with fail
    go_region
    have G := Lib.hid (grown_drew HB.out.2.1)
    clear a0 c1 r1 r1b r2 r0 j0 j1
    go_wp2_with fail
    go_ret
    rw [HV.out]
    exact ⟨rfl, G.out⟩
/-- While the masks are collected. -/
structure CO (W : World) (r s n : Int) (p : Option Addr) (c : Nat) (L : List Rw) (N : Nat) (f : Int → Option Nat) (w : World) : Prop where
  bx : w.heap[W.heap.size]? = some (.cells #[.int .i64 r, .int .i64 s, .int .i64 n, .slice p L.length c] 24 (0, 0))
  rd : RdW w (fun b => b < W.heap.size) p c L
  mp : OMu w (W.heap.size + 1) N f
  gr : W.grownBy w none
set_option maxRecDepth 100000 in
theorem CO.keep {W w w1 : World} {r s n : Int} {p : Option Addr} {c : Nat} {L : List Rw} {N : Nat} {f : Int → Option Nat} (h : CO W r s n p c L N f w) (g : w.grownBy w1 none) : CO W r s n p c L N f w1 :=
  ⟨kept_row h.bx g (by simp), h.rd.keep g, h.mp.kept g (by simp), grown_trans h.gr g⟩
set_option maxRecDepth 100000 in
theorem CO.put {W w w1 : World} {r s n : Int} {p : Option Addr} {c : Nat} {L : List Rw} {N M : Nat} {f f' : Int → Option Nat} (h : CO W r s n p c L N f w) (hm : OMu w1 (W.heap.size + 1) M f') (g : w.grownBy w1 (some (W.heap.size + 1))) : CO W r s n p c L M f' w1 := by
  have hn : ∀ b, b ≤ W.heap.size → some b ≠ some (W.heap.size + 1) := fun b hb e => by have := Option.some.inj e; omega
  exact ⟨kept_row h.bx g (hn _ (Nat.le_refl _)), h.rd.grown g (fun b hb => hn b (Nat.le_of_lt hb)), hm, grown_new h.gr g (by omega)⟩
/-- What collect returns. -/
def CoPost (r s n : Int) (L : List Rw) (pl set : Int) (w : World) (e : Ending) (w' : World) : Prop :=
  e = .returned (.map (some (w.heap.size + 1))) ∧ (∃ N, N ≤ 256 ∧ OMu w' (w.heap.size + 1) N (coF r s n L pl set)) ∧ w.grownBy w' none
set_option maxRecDepth 100000 in
set_option maxHeartbeats 3200000 in
theorem mcollect_any (r s n : Int) (p : Option Addr) (c : Nat) (L : List Rw) (pl set : Int) (w : World) (hR : RdW w (· < w.heap.size) p c L) (hm : L.length ≤ 9223372036854775807) :
    Calls Try.prog 35 #[.agg #[.int .i64 r, .int .i64 s, .int .i64 n, .slice p L.length c], .int .i64 pl, .int .i64 set] w fun e w' => CoPost r s n L pl set w e w' := by
  obtain ⟨k1, k2⟩ := tone_box w #[.int .i64 r, .int .i64 s, .int .i64 n, .slice p L.length c] 24
  have hsz : (w.alloc (.cells #[.int .i64 r, .int .i64 s, .int .i64 n, .slice p L.length c] 24)).heap.size = w.heap.size + 1 := by simp
  have gm := World.grownBy_alloc (w.alloc (.cells #[.int .i64 r, .int .i64 s, .int .i64 n, .slice p L.length c] 24)) (.map #[] 0) none
  have hmade := OMu.made (w.alloc (.cells #[.int .i64 r, .int .i64 s, .int .i64 n, .slice p L.length c] 24))
  rw [hsz] at hmade
  have H0 : Hid (CO w r s n p c L 0 (fun _ => none) _) := Lib.hid ⟨kept_row k1 gm (by simp), (hR.keep k2).keep gm, hmade, grown_trans k2 gm⟩
  have HSZ := Lib.hid hsz
  have hmm := fun t w => run_makeMap (P := Try.prog) t w
  clear k1 k2 hR gm hmade hsz
  go_enter Try.func35, Try.ntmps35
  go_upto_region 2 with fail
  rw [HSZ.out] at *
  clear hmm HSZ
  generalize ((w.alloc _).alloc _) = w1 at *
  obtain ⟨d0, d1, d2, d3⟩ := row4T H0.out.bx
  go_wp2_with fail
  refine (mvalid_any r s n p c L pl _ w1 H0.out.rd hm).mono ?_
  rintro e w2 ⟨rfl, hg⟩
  have H1 := Lib.hid (H0.out.keep hg)
  clear hg H0 d0 d1 d2 d3
  cases hv : vaT r s n L pl
  case false =>
    have HF : Hid (coF r s n L pl set = fun _ => none) := Lib.hid (by
      unfold coF
      unfold vaT at hv
      rw [if_neg (of_decide_eq_false hv)])
    clear hv
    go_wp2_with fail
    go_ret
    exact ⟨rfl, ⟨0, by omega, by rw [HF.out]; exact H1.out.mp⟩, H1.out.gr⟩
  have hvp : (0 ≤ pl ∧ pl < 8) ∧ ckT r s n L = 0 := by unfold vaT at hv; exact of_decide_eq_true hv
  obtain ⟨k, rfl⟩ := Int.eq_ofNat_of_zero_le hvp.1.1
  have hk8 : k < 8 := by have := hvp.1.2; omega
  have HF : Hid (coF r s n L (k : Int) set = colL n set k L) := Lib.hid (by
    unfold coF
    rw [if_pos hvp]; rfl)
  have HOK := Lib.hid (ck_ok hvp.2)
  have hL256 : L.length ≤ 256 := HOK.out.2.2.1
  clear hv hvp
  obtain ⟨d0, d1, d2, d3⟩ := row4T H1.out.bx
  have H2 : Hid (CO w r s n p c L 0 (colL n set k (L.take 0)) w2) := Lib.hid (by rw [List.take_zero]; exact H1.out)
  clear H1
  go_wp2_with fail
  clear d0 d1 d2 d3
  go_loopw [23] (fun a wr => ∃ (i N : Nat), i ≤ L.length ∧ a = .int .i64 (i : Int) ∧ N ≤ i ∧ Hid (CO w r s n p c L N (colL n set k (L.take i)) wr)) (fun a _ => L.length - (RowKit.intOf a).toNat)
  case atStart => exact ⟨0, 0, Nat.zero_le _, rfl, Nat.le_refl _, H2⟩
  case round =>
  clear H2
  obtain ⟨i, N, hi, rfl, hN, S0⟩ := hrel
  obtain ⟨w3, hw3⟩ : ∃ w3, w3 = wr := ⟨_, rfl⟩
  rw [← hw3] at S0 ⊢
  clear hw3
  by_cases hlt : i < L.length
  case neg =>
    obtain rfl : i = L.length := by omega
    have hnl : ¬ (L.length : Int) < (L.length : Int) := by omega
    rw [List.take_length] at S0
    go_wp2_with fail
    go_ret
    exact ⟨rfl, ⟨N, by omega, by rw [HF.out]; exact S0.out.mp⟩, S0.out.gr⟩
  case pos =>
  have hlt' : (i : Int) < (L.length : Int) := by omega
  obtain ⟨x, hx⟩ : ∃ x, L[i]? = some x := ⟨_, List.getElem?_eq_getElem hlt⟩
  have hxm := List.mem_of_getElem? hx
  obtain ⟨-, b, off, rfl, hq, hc⟩ := rw_cells S0.out.rd.rd (by omega)
  obtain ⟨a0, a1⟩ := hc i x hx
  have HX := Lib.hid hx
  have HW := Lib.hid (any_memT HOK.out.2.1 hxm)
  have HXM := Lib.hid hxm
  clear hc hx hxm
  obtain ⟨k1, k2⟩ := tone_box w3 #[.int .i64 x.id, .slice x.p x.nx.length x.c] 28
  have S1 := Lib.hid (And.intro (S0.out.keep k2) k1)
  clear k1 k2 S0
  go_upto_region 7 with fail
  generalize w3.alloc _ = w4 at *
  generalize w3.heap.size = Bx at *
  clear a0 a1
  have e0 : w4.cell? ⟨Bx, 0, none⟩ = some (.int .i64 x.id) := cell_of_row _ _ _ _ _ _ S1.out.2
  have e1 : w4.cell? ⟨Bx, 1, none⟩ = some (.slice x.p x.nx.length x.c) := cell_of_row _ _ _ _ _ _ S1.out.2
  go_wp2_with fail
  refine (mnext_any x k hk8 _ w4 (S1.out.1.rd.ok x HXM.out)).mono ?_
  rintro e w5 ⟨rfl, hg⟩
  have S2 := Lib.hid (And.intro (S1.out.1.keep hg) (kept_row S1.out.2 hg (by simp)))
  clear hg S1 e0 e1
  have e0 : w5.cell? ⟨Bx, 0, none⟩ = some (.int .i64 x.id) := cell_of_row _ _ _ _ _ _ S2.out.2
  obtain ⟨d0, d1, d2, d3⟩ := row4T S2.out.1.bx
  go_wp2_with fail
  refine (iplc_any x.id n w5).mono ?_
  rintro e w6 ⟨rfl, hg⟩
  have S3 := Lib.hid (S2.out.1.keep hg)
  clear hg S2 e0 d0 d1 d2 d3
  obtain ⟨m, hm1⟩ : ∃ m : Nat, plB x.id n = (m : Int) := by
    have : 0 ≤ plB x.id n := by
      unfold plB
      split
      · rename_i h
        obtain ⟨hl, h1, h2⟩ := pl_fields h
        rcases hl with rfl | rfl | rfl | rfl <;> omega
      · omega
    exact Int.eq_ofNat_of_zero_le this
  have hm64 : m < 64 := by have := plB_lt64 x.id n; omega
  obtain ⟨st, hst⟩ : ∃ st, plS x.id n = st := ⟨_, rfl⟩
  obtain ⟨h, hh⟩ : ∃ h, nxI x.nx k = h := ⟨_, rfl⟩
  have HST : Hid (colL n set k (L.take (i + 1)) = if st = set ∧ h ≠ 0 then putU (colL n set k (L.take i)) h ((colL n set k (L.take i) h).getD 0 ||| b2 m) else colL n set k (L.take i)) := Lib.hid (by
    rw [colL_take HX.out]
    unfold colS
    rw [hst, hh, hm1]; rfl)
  have HNX : Hid (h ≠ 0 → 1 ≤ h ∧ h ≤ 99) := Lib.hid (by rw [← hh]; exact fun h0 => nx_in HW.out h0)
  have HCO : Hid (ColOk (colL n set k (L.take i))) := Lib.hid (colL_ok HOK.out.2.1 i)
  rw [hst, hh, hm1]
  clear hst hh hm1
  by_cases h1 : st = set
  case neg =>
    have h1' : (st == set) = false := by simpa using h1
    have HS2 : Hid (CO w r s n (some ⟨b, off, none⟩) c L N (colL n set k (L.take (i + 1))) w6) := Lib.hid (by rw [HST.out, if_neg (fun h => h1 h.1)]; exact S3.out)
    clear h1
    go_wp2_with fail
    exact ⟨⟨i + 1, N, by omega, congrArg _ (by omega), by omega, HS2⟩, by simp only [RowKit.intOf]; omega⟩
  have h1' : (st == set) = true := by simpa using h1
  by_cases h2 : h = 0
  case pos =>
    have h2' : (h != 0) = false := by simpa using h2
    have HS2 : Hid (CO w r s n (some ⟨b, off, none⟩) c L N (colL n set k (L.take (i + 1))) w6) := Lib.hid (by rw [HST.out, if_neg (fun h3 => h3.2 h2)]; exact S3.out)
    clear h1 h2
    go_wp2_with fail
    exact ⟨⟨i + 1, N, by omega, congrArg _ (by omega), by omega, HS2⟩, by simp only [RowKit.intOf]; omega⟩
  have h2' : (h != 0) = true := by simpa using h2
  have hh1 := HNX.out h2
  obtain ⟨f, hf⟩ : ∃ f, colL n set k (L.take i) = f := ⟨_, rfl⟩
  rw [hf] at HST HCO S3
  have hU := HCO.out.getD h
  obtain ⟨y, hy⟩ : ∃ y, (f h).getD 0 = y := ⟨_, rfl⟩
  rw [hy] at hU
  have hor : U64 (y ||| b2 m) := Nat.or_lt_two_pow (n := 64) hU (b2_u64 hm64)
  have S4 := Lib.hid (S3.out.keep (grown_drew (grown_refl _ none)))
  have hlook := (S4.out.mp.look (x := h) (by unfold I64; omega)).1
  rw [hy] at hlook
  obtain ⟨w7, hput, hmp, hgr⟩ := S4.out.mp.put (x := h) (d := y ||| b2 m) (by omega) (by unfold I64; omega) hor
  have hor2 : bits .or .u64 (y : Int) (IntKind.u64.wrap (2 ^ m)) = ((y ||| b2 m : Nat) : Int) := by rw [pow_word m hm64, orU _ _ hU (b2_u64 hm64)]
  rw [← hor2] at hput
  have HS2 : Hid (CO w r s n (some ⟨b, off, none⟩) c L (N + 1) (colL n set k (L.take (i + 1))) w7) := Lib.hid (by
    rw [HST.out, if_pos ⟨h1, h2⟩, hy]
    exact S4.out.put hmp hgr)
  have m1 : (m : Int) < 64 := by omega
  have m0 : ¬ (m : Int) < 0 := by omega
  clear h1 h2 hh1 hf hy hmp hgr HST HCO hor hor2 S3 S4
  go_upto_region 10 with fail
  go_region
  clear hlook hput m1 m0
  go_wp2_with fail
  exact ⟨⟨i + 1, N + 1, by omega, congrArg _ (by omega), by omega, HS2⟩, by simp only [RowKit.intOf]; omega⟩
end Go.Proofs.Ytdkbdghkboeggaa

/- masks: Planes. -/
namespace Go.Proofs.Ytdkbdghkboeggaa
open Go.RowKit Go.Maps Bs
/-- How many of the first k planes use the i-th of n next hops. -/
def plC (n k i : Nat) : Nat := (List.range k).countP fun p => p % n == i
def plL (n k : Nat) : List Int := (List.range n).map fun i => ((plC n k i : Nat) : Int)
set_option maxRecDepth 100000 in
theorem plC_succ (n k i : Nat) : plC n (k + 1) i = plC n k i + if k % n = i then 1 else 0 := by
  unfold plC
  rw [List.range_succ, List.countP_append]
  congr 1
  by_cases h : k % n = i
  · rw [if_pos h, List.countP_cons_of_pos (by simpa using h)]; rfl
  · rw [if_neg h, List.countP_cons_of_neg (by simpa using h)]; rfl
set_option maxRecDepth 100000 in
theorem plL_len (n k : Nat) : (plL n k).length = n := by unfold plL; rw [List.length_map, List.length_range]
set_option maxRecDepth 100000 in
theorem plL_at {n k i : Nat} (h : i < n) : (plL n k)[i]? = some ((plC n k i : Nat) : Int) := by
  unfold plL
  rw [List.getElem?_map, List.getElem?_range h]; rfl
set_option maxRecDepth 100000 in
theorem plL_set {n k j : Nat} (hj : k % n = j) (hn : 0 < n) : (plL n k).set j (((plC n k j + 1 : Nat)) : Int) = plL n (k + 1) := by
  have hjn : j < n := by rw [← hj]; exact Nat.mod_lt _ hn
  refine List.ext_getElem? fun i => ?_
  rw [List.getElem?_set]
  by_cases hi : i < n
  · rw [plL_at hi]
    by_cases hji : j = i
    · subst hji
      rw [if_pos rfl, if_pos (by rw [plL_len]; exact hjn), plL_at (k := k + 1) hi, plC_succ, if_pos hj]
    · rw [if_neg hji, plL_at (k := k + 1) hi, plC_succ, if_neg (by rw [hj]; exact hji)]; rfl
  · have e1 : (plL n k)[i]? = none := List.getElem?_eq_none (by rw [plL_len]; omega)
    have e2 : (plL n (k + 1))[i]? = none := List.getElem?_eq_none (by rw [plL_len]; omega)
    rw [e1, e2, if_neg (by omega)]
set_option maxRecDepth 100000 in
theorem plC_le (n k i : Nat) : plC n k i ≤ k := by
  unfold plC
  have := List.countP_le_length (p := fun p => p % n == i) (l := List.range k)
  rwa [List.length_range] at this
set_option maxRecDepth 100000 in
theorem plL_zero (n : Nat) : plL n 0 = List.replicate n 0 := by
  refine List.ext_getElem? fun i => ?_
  by_cases hi : i < n
  · rw [plL_at hi, List.getElem?_replicate, if_pos hi]; rfl
  · rw [List.getElem?_eq_none (by rw [plL_len]; omega), List.getElem?_replicate, if_neg hi]
set_option maxRecDepth 100000 in
theorem madeI (n : Nat) : (madeCells (Value.int .i64 0).cells (n * 1)).toList = (plL n 0).map tv := by
  have hs : (Value.int .i64 0).cells = #[tv 0] := rfl
  rw [hs, plL_zero, Nat.mul_one, List.map_replicate]
  refine List.ext_getElem? fun i => ?_
  unfold madeCells
  rw [List.getElem?_replicate, Array.getElem?_toList]
  by_cases h : i < n
  · simp [h, Nat.mod_one]
  · simp [h]
set_option maxRecDepth 100000 in
set_option maxHeartbeats 1600000 in
theorem mplanes_any (x : Rw) (w : World) (hl : x.nx.length ≤ 100) :
    Calls Try.prog 10 #[.agg #[.int .i64 x.id, .slice x.p x.nx.length x.c]] w fun e w' => ∃ v, e = .returned v ∧ w'.ownsRow w.heap.size 3 1 v x.nx.length ((plL x.nx.length 8).map tv) ∧ w.grownBy w' none := by
  obtain ⟨ii, hi, hi0, hi1, hi2⟩ := info_parts info_int
  obtain ⟨k1, k2⟩ := tone_box w #[.int .i64 x.id, .slice x.p x.nx.length x.c] 28
  have HB := Lib.hid (And.intro k1 (And.intro k2 (show w.heap.size + 1 ≤ (w.alloc (.cells #[.int .i64 x.id, .slice x.p x.nx.length x.c] 28)).heap.size by simp)))
  clear k1 k2
  go_enter Try.func10, Try.ntmps10
  go_upto_region 1 with fail
  generalize w.alloc _ = w1 at *
  have c1 : w1.cell? ⟨w.heap.size, 1, none⟩ = some (.slice x.p x.nx.length x.c) := cell_of_row _ _ _ _ _ _ HB.out.1
  obtain ⟨n, hn⟩ : ∃ n, x.nx.length = n := ⟨_, rfl⟩
  have HN := Lib.hid hn
  rw [hn] at c1 hl ⊢
  clear hn
  by_cases h0 : n = 0
  · have h0' : ((n : Int) == 0) = true := beq_iff_eq.2 (by omega)
    have HO : Hid (plL n 8 = [] ∧ n = 0) := Lib.hid ⟨by rw [h0]; rfl, h0⟩
    clear h0
    go_wp2_with fail
    go_ret
    refine ⟨_, rfl, ?_, HB.out.2.1⟩
    rw [HN.out, HO.out.1, HO.out.2]
    exact World.ownsRow_nil _ _ _ _
  have h0' : ((n : Int) == 0) = false := beq_eq_false_iff_ne.2 (by omega)
  have hn0 : 0 < n := by omega
  clear h0
  have hsz1 : w.heap.size ≤ w1.heap.size := by have := HB.out.2.2; omega
  go_wp2_with (at_make; refine wpList_make_full _ rfl _ _ 26 rfl w.heap.size 3 ii (.int .i64 0) 1 Try.underlying26 hi hi0 hi1 .i64 .i64 _ _ n rfl rfl rfl rfl (by rw [hi2]; omega) (by unfold maxLen; omega) hsz1 ?_; intro w2 hown2 hg2)
  have hrow := madeI n
  rw [hrow] at hown2
  have S0 := Lib.hid (And.intro hown2 (grown_trans HB.out.2.1 hg2))
  have HP : Hid (w1.heap.size = w1.heap.size) := Lib.hid rfl
  clear hown2 hg2 hrow
  generalize w1.heap.size = g at *
  clear c1 HB HP
  go_wp2_with fail
  go_loopw [13] (fun a wr => ∃ k : Nat, k ≤ 8 ∧ a = .int .i64 (k : Int) ∧ Hid (wr.ownsRow w.heap.size 3 1 (.slice (some ⟨g, 0, none⟩) n n) n ((plL n k).map tv) ∧ w.grownBy wr none)) (fun a _ => 8 - (RowKit.intOf a).toNat)
  case atStart => exact ⟨0, by omega, rfl, S0⟩
  case round =>
  clear S0
  obtain ⟨k, hk, rfl, S0⟩ := hrel
  obtain ⟨w3, hw3⟩ : ∃ w3, w3 = wr := ⟨_, rfl⟩
  rw [← hw3] at S0 ⊢
  clear hw3
  by_cases hlt : k < 8
  case neg =>
    obtain rfl : k = 8 := by omega
    go_wp2_with fail
    go_ret
    refine ⟨_, rfl, ?_, S0.out.2⟩
    rw [HN.out]
    exact S0.out.1
  case pos =>
  have hlt' : (k : Int) < 8 := by omega
  obtain ⟨j, hj⟩ : ∃ j, k % n = j := ⟨_, rfl⟩
  have hjl : j < n := by rw [← hj]; exact Nat.mod_lt _ hn0
  have HPS : Hid ((plL n k).set j (((plC n k j + 1 : Nat)) : Int) = plL n (k + 1)) := Lib.hid (plL_set hj hn0)
  have hb := plC_le n k j
  obtain ⟨y, hy⟩ : ∃ y, plC n k j = y := ⟨_, rfl⟩
  have a0 : w3.cell? ⟨g, j, none⟩ = some (.int .i64 (y : Int)) := by
    rw [S0.out.1.cellAt j (by omega), List.getElem?_map, plL_at hjl, hy]; rfl
  have f0 := S0.out.1.frozenAt j
  have hgl := (S0.out.1.lt g rfl).1
  rw [hy] at HPS hb
  obtain ⟨s1, s2⟩ := S0.out.1.stored j (.int .i64 ((y : Int) + 1))
  have S1 : Hid ((w3.setCell ⟨g, j, none⟩ (.int .i64 ((y : Int) + 1))).ownsRow w.heap.size 3 1 (.slice (some ⟨g, 0, none⟩) n n) n ((plL n (k + 1)).map tv) ∧ w.grownBy (w3.setCell ⟨g, j, none⟩ (.int .i64 ((y : Int) + 1))) none) := Lib.hid ⟨by
    rw [← HPS.out]
    have e : ((plL n k).set j (((y + 1 : Nat)) : Int)).map tv = ((plL n k).map tv).set j (.int .i64 ((y : Int) + 1)) := by
      rw [List.map_set]
      congr 1
    rw [e]
    exact s1, grown_new S0.out.2 s2 hgl⟩
  have r1b : ((k : Int)) % (n : Int) = (j : Int) := by rw [← hj]; exact (Int.natCast_emod k n).symm
  have r1 : ((k : Int)).tmod (n : Int) = (j : Int) := by rw [Int.tmod_eq_emod_of_nonneg (by omega)]; exact r1b
  have r2 : IntKind.i64.wrap (j : Int) = (j : Int) := IntWalk.i64_in _ (by omega)
  have r0 : (n : Int) ≠ 0 := by omega
  have j0 : (0 : Int) ≤ (j : Int) := by omega
  have j1 : (j : Int) < (n : Int) := by omega
  have y9 : (y : Int) ≤ 8 := by omega
  clear s1 s2 hy hj S0 HPS
  go_wp2_with fail
  clear a0 f0
  generalize World.setCell _ _ _ = w4 at *
  go_wp2_with fail
  exact ⟨⟨k + 1, by omega, congrArg _ (by omega), S1⟩, by simp only [RowKit.intOf]; omega⟩
end Go.Proofs.Ytdkbdghkboeggaa

/- The library's contracts on maps.Keys, slices.Sorted and slices.Sort, laid at this program. -/
namespace Go.Proofs.Ytdkbdghkboeggaa
open Go.Shelf
def keysU_ren : Go.Shelf.Ren := ⟨fun | 7 => 38 | 10 => 59 | n => n, fun | 23 => 57 | 26 => 3 | 3 => 32 | 28 => 61 | 0 => 0 | 27 => 60 | 33 => 56 | 4 => 4 | n => n, fun | n => n⟩
set_option maxRecDepth 100000 in
theorem keysU : Go.Proofs.SlLaysZI.n7 Try.prog keysU_ren where
  mixed := by kernel_rfl
  f7 := ⟨ "maps.Keys[map[int]uint64,int,uint64]", by decide, Try.func38.trans (congrArg some (by kernel_rfl))⟩
  f10 := ⟨ "maps.Keys[map[int]uint64,int,uint64]$1", by decide, Try.func59.trans (congrArg some (by kernel_rfl))⟩
  t0 := Try.underlying0
  a0 := Try.isAgg0
  z0 := Try.sizeOf0
  v0 := Try.zeroValue0
  t4 := Try.underlying4
  a4 := Try.isAgg4
  z4 := Try.sizeOf4
  v4 := Try.zeroValue4
  t23 := Try.underlying57
  a23 := Try.isAgg57
  z23 := Try.sizeOf57
  v23 := Try.zeroValue57
  t26 := Try.underlying3
  a26 := Try.isAgg3
  z26 := Try.sizeOf3
  v26 := Try.zeroValue3
  t27 := Try.underlying60
  a27 := Try.isAgg60
  z27 := Try.sizeOf60
  v27 := Try.zeroValue60
  t28 := Try.underlying61
  a28 := Try.isAgg61
  z28 := Try.sizeOf61
  v28 := Try.zeroValue61
  t33 := Try.underlying56
  a33 := Try.isAgg56
  z33 := Try.sizeOf56
  v33 := Try.zeroValue56
def sortedU_ren : Go.Shelf.Ren := ⟨fun | 6 => 37 | 8 => 57 | 9 => 58 | 11 => 80 | 13 => 82 | 12 => 81 | 23 => 106 | 24 => 107 | 14 => 97 | 15 => 98 | 16 => 99 | 17 => 100 | 18 => 101 | 19 => 102 | 20 => 103 | 21 => 104 | 22 => 105 | 25 => 113 | 26 => 114 | 27 => 115 | 28 => 116 | 29 => 117 | 30 => 118 | 31 => 123 | n => n, fun | 26 => 3 | 28 => 61 | 24 => 26 | 0 => 0 | 3 => 3 | 37 => 79 | 48 => 124 | 50 => 32 | 4 => 4 | 40 => 118 | 39 => 117 | 45 => 85 | 5 => 5 | 9 => 9 | 51 => 130 | 55 => 134 | 57 => 139 | 58 => 140 | 33 => 56 | n => n, fun | n => n⟩
set_option maxRecDepth 100000 in
theorem sortedU : Go.Proofs.SlLaysZI.n6 Try.prog sortedU_ren where
  mixed := by kernel_rfl
  f6 := ⟨ "slices.Sorted[int]", by decide, Try.func37.trans (congrArg some (by kernel_rfl))⟩
  f8 := ⟨ "slices.Collect[int]", by decide, Try.func57.trans (congrArg some (by kernel_rfl))⟩
  f11 := ⟨ "slices.AppendSeq[[]int,int]", by decide, Try.func80.trans (congrArg some (by kernel_rfl))⟩
  t0 := Try.underlying0
  a0 := Try.isAgg0
  z0 := Try.sizeOf0
  v0 := Try.zeroValue0
  t24 := Try.underlying26
  a24 := Try.isAgg26
  z24 := Try.sizeOf26
  v24 := Try.zeroValue26
  t26 := Try.underlying3
  a26 := Try.isAgg3
  z26 := Try.sizeOf3
  v26 := Try.zeroValue3
  t28 := Try.underlying61
  a28 := Try.isAgg61
  z28 := Try.sizeOf61
  v28 := Try.zeroValue61
  i26 := by kernel_rfl
def sortU_ren : Go.Shelf.Ren := ⟨fun | 5 => 58 | 8 => 82 | 7 => 81 | 19 => 106 | 20 => 107 | 10 => 97 | 11 => 98 | 12 => 99 | 13 => 100 | 14 => 101 | 15 => 102 | 16 => 103 | 17 => 104 | 18 => 105 | 30 => 113 | 31 => 114 | 32 => 115 | 33 => 116 | 34 => 117 | 35 => 118 | 40 => 123 | n => n, fun | 23 => 26 | 25 => 3 | 3 => 3 | 32 => 79 | 22 => 26 | 0 => 0 | 44 => 124 | 46 => 32 | 4 => 4 | 36 => 118 | 35 => 117 | 41 => 85 | 5 => 5 | 9 => 9 | 53 => 130 | 57 => 134 | 63 => 139 | 64 => 140 | n => n, fun | n => n⟩
set_option maxRecDepth 100000 in
theorem sortU : Go.Proofs.SlLaysM.n5 Try.prog sortU_ren where
  mixed := by kernel_rfl
  f5 := ⟨ "slices.Sort[[]int,int]", by decide, Try.func58.trans (congrArg some (by kernel_rfl))⟩
  f7 := ⟨ "slices.pdqsortOrdered[int]", by decide, Try.func81.trans (congrArg some (by kernel_rfl))⟩
  f8 := Try.func82.trans (congrArg some (by kernel_rfl))
  f10 := ⟨ "slices.insertionSortOrdered[int]", by decide, Try.func97.trans (congrArg some (by kernel_rfl))⟩
  f11 := ⟨ "slices.heapSortOrdered[int]", by decide, Try.func98.trans (congrArg some (by kernel_rfl))⟩
  f12 := ⟨ "slices.breakPatternsOrdered[int]", by decide, Try.func99.trans (congrArg some (by kernel_rfl))⟩
  f13 := ⟨ "slices.choosePivotOrdered[int]", by decide, Try.func100.trans (congrArg some (by kernel_rfl))⟩
  f14 := ⟨ "slices.reverseRangeOrdered[int]", by decide, Try.func101.trans (congrArg some (by kernel_rfl))⟩
  f15 := ⟨ "slices.partialInsertionSortOrdered[int]", by decide, Try.func102.trans (congrArg some (by kernel_rfl))⟩
  f16 := ⟨ "cmp.Less[int]", by decide, Try.func103.trans (congrArg some (by kernel_rfl))⟩
  f17 := ⟨ "slices.partitionEqualOrdered[int]", by decide, Try.func104.trans (congrArg some (by kernel_rfl))⟩
  f18 := ⟨ "slices.partitionOrdered[int]", by decide, Try.func105.trans (congrArg some (by kernel_rfl))⟩
  f19 := Try.func106.trans (congrArg some (by kernel_rfl))
  f20 := Try.func107.trans (congrArg some (by kernel_rfl))
  f30 := ⟨ "slices.siftDownOrdered[int]", by decide, Try.func113.trans (congrArg some (by kernel_rfl))⟩
  f31 := Try.func114.trans (congrArg some (by kernel_rfl))
  f32 := Try.func115.trans (congrArg some (by kernel_rfl))
  f33 := ⟨ "slices.medianAdjacentOrdered[int]", by decide, Try.func116.trans (congrArg some (by kernel_rfl))⟩
  f34 := ⟨ "slices.medianOrdered[int]", by decide, Try.func117.trans (congrArg some (by kernel_rfl))⟩
  f35 := ⟨ "cmp.isNaN[int]", by decide, Try.func118.trans (congrArg some (by kernel_rfl))⟩
  f40 := ⟨ "slices.order2Ordered[int]", by decide, Try.func123.trans (congrArg some (by kernel_rfl))⟩
  t0 := Try.underlying0
  a0 := Try.isAgg0
  z0 := Try.sizeOf0
  v0 := Try.zeroValue0
  t3 := Try.underlying3
  a3 := Try.isAgg3
  z3 := Try.sizeOf3
  v3 := Try.zeroValue3
  t4 := Try.underlying4
  a4 := Try.isAgg4
  z4 := Try.sizeOf4
  v4 := Try.zeroValue4
  t5 := Try.underlying5
  a5 := Try.isAgg5
  z5 := Try.sizeOf5
  v5 := Try.zeroValue5
  t9 := Try.underlying9
  a9 := Try.isAgg9
  z9 := Try.sizeOf9
  v9 := Try.zeroValue9
  t22 := Try.underlying26
  a22 := Try.isAgg26
  z22 := Try.sizeOf26
  v22 := Try.zeroValue26
  t23 := Try.underlying26
  a23 := Try.isAgg26
  z23 := Try.sizeOf26
  v23 := Try.zeroValue26
  t25 := Try.underlying3
  a25 := Try.isAgg3
  z25 := Try.sizeOf3
  v25 := Try.zeroValue3
  t32 := Try.underlying79
  a32 := Try.isAgg79
  z32 := Try.sizeOf79
  v32 := Try.zeroValue79
  t35 := Try.underlying117
  a35 := Try.isAgg117
  z35 := Try.sizeOf117
  v35 := Try.zeroValue117
  t36 := Try.underlying118
  a36 := Try.isAgg118
  z36 := Try.sizeOf118
  v36 := Try.zeroValue118
  t41 := Try.underlying85
  a41 := Try.isAgg85
  z41 := Try.sizeOf85
  v41 := Try.zeroValue85
  t44 := Try.underlying124
  a44 := Try.isAgg124
  z44 := Try.sizeOf124
  v44 := Try.zeroValue124
  t46 := Try.underlying32
  a46 := Try.isAgg32
  z46 := Try.sizeOf32
  v46 := Try.zeroValue32
  t53 := Try.underlying130
  a53 := Try.isAgg130
  z53 := Try.sizeOf130
  v53 := Try.zeroValue130
  t57 := Try.underlying134
  a57 := Try.isAgg134
  z57 := Try.sizeOf134
  v57 := Try.zeroValue134
  t63 := Try.underlying139
  a63 := Try.isAgg139
  z63 := Try.sizeOf139
  v63 := Try.zeroValue139
  t64 := Try.underlying140
  a64 := Try.isAgg140
  z64 := Try.sizeOf140
  v64 := Try.zeroValue140
end Go.Proofs.Ytdkbdghkboeggaa

/- slices.Sorted(maps.Keys(masks)). -/
namespace Go.Proofs.Ytdkbdghkboeggaa
open Go.RowKit Go.Maps Bs
set_option maxRecDepth 100000 in
theorem sortsU (m : Nat) : AnyZI.SortsIn Try.prog sortedU_ren Fence.wide m :=
  ⟨fun blk off cap ss W hH hblk hsz => callsIn_wide.2 (AnyM.slices_Sort_int sortU blk off cap ss W hH hblk hsz),
   fun p cap W => callsIn_wide.2 (AnyM.slices_Sort_int_none sortU p cap W)⟩
/-- The keys of a table, ascending. -/
structure AscM (f : Int → Option Nat) (ts : List Int) : Prop where
  asc : ts.Pairwise (· < ·)
  mem : ∀ x, x ∈ ts ↔ (f x).isSome = true
set_option maxRecDepth 100000 in
theorem ascM_of {ss : List Int} (h : ss.Nodup) : (ss.mergeSort (fun x y => decide (x ≤ y))).Pairwise (· < ·) := by
  have h1 : (ss.mergeSort (fun x y => decide (x ≤ y))).Pairwise (fun x y => decide (x ≤ y) = true) :=
    List.pairwise_mergeSort (fun a b c h1 h2 => by have := of_decide_eq_true h1; have := of_decide_eq_true h2; exact decide_eq_true (by omega)) (fun a b => by
      by_cases hab : a ≤ b
      · simp [hab]
      · have : b ≤ a := by omega
        simp [this]) ss
  have h2 : (ss.mergeSort (fun x y => decide (x ≤ y))).Nodup := (List.mergeSort_perm ss _).nodup_iff.2 h
  have h3 := List.Pairwise.and h1 h2
  exact h3.imp (fun {a b} h => by have := of_decide_eq_true h.1; have := h.2; omega)
set_option maxRecDepth 100000 in
theorem below_grownU {w w' : World} (h : Go.RowKit.Below w.heap.size w w') : w.grownBy w' none := ⟨h.os, h.tape, h.output, h.size, fun b hb _ => h.block b hb⟩
set_option maxRecDepth 100000 in
theorem mkeys_any (mb : Option Nat) (w : World) :
    Calls Try.prog 38 #[.map mb] w fun e w' => e = .returned (.func (.func 59) #[] #[.pointer (some ⟨w.heap.size, 0, none⟩)]) ∧ w' = w.alloc (.cells #[.map mb] 57) :=
  callsIn_wide.1 (AnyZI.keys_in keysU Fence.wide 5 trivial rfl mb w)
set_option maxRecDepth 100000 in
set_option maxHeartbeats 1600000 in
theorem mkz_any (f : Int → Option Nat) (b n : Nat) (hn : n ≤ 1000000) (Bk : Nat) (w : World) (hk : w.cell? ⟨Bk, 0, none⟩ = some (.map (some b))) (hBk : Bk < w.heap.size) (hm : OMu w b n f) :
    Calls Try.prog 37 #[.func (.func 59) #[] #[.pointer (some ⟨Bk, 0, none⟩)]] w fun e w' =>
      ∃ v ts, e = .returned v ∧ AscM f ts ∧ w'.ownsRow w.heap.size 3 1 v ts.length (ts.map tv) ∧ w.grownBy w' none := by
  obtain ⟨D, hown, hmf⟩ := hm
  have hsz := hown.size_le
  have hseq := AnyZI.keys_gives (ρ := keysU_ren) { keysU with } Fence.wide 2 trivial rfl (by omega) Bk b n D w hBk hk hown
  have cS := callsIn_wide.1 (AnyZI.sorted_in sortedU Fence.wide 5 trivial trivial trivial trivial rfl (by omega) (sortsU _) (enters_of Try.func58 (by kernel_rfl) rfl) 59 #[.pointer (some ⟨Bk, 0, none⟩)] trivial (enters_of Try.func59 (by kernel_rfl) rfl) _ (Maps.size D) (by unfold maxLen; omega) (by omega) w hseq)
  change Calls Try.prog 37 _ _ _ at cS
  refine cS.mono ?_
  rintro e w1 ⟨v, ss, rfl, hS, hrow, hnil, hb⟩
  obtain ⟨hnd, hmem⟩ := OMu.keys hown hmf hS
  refine ⟨v, ss.mergeSort (fun x y => decide (x ≤ y)), rfl, ⟨ascM_of hnd, fun x => ?_⟩, ?_, below_grownU hb⟩
  · rw [(List.mergeSort_perm ss _).mem_iff]
    exact hmem x
  · rw [List.length_mergeSort]
    exact hrow
end Go.Proofs.Ytdkbdghkboeggaa

/- masks: All, Mask, Local. -/
namespace Go.Proofs.Ytdkbdghkboeggaa
open Go.RowKit Go.Maps Bs
/-- A neighbour with its bits. -/
structure Md where
  x : Int
  b : Nat
def mdC (m : Md) : List Value := [.int .i64 m.x, .int .u64 (m.b : Int)]
set_option maxRecDepth 100000 in
theorem md_one (m : Md) : ∀ u ∈ mdC m, u.oneCell' = true := by
  intro u hu
  simp [mdC] at hu
  rcases hu with rfl | rfl <;> rfl
/-- The neighbours of a list with their bits. -/
def mdL (f : Int → Option Nat) (ts : List Int) : List Md := ts.map fun x => ⟨x, (f x).getD 0⟩
def mdK (f : Int → Option Nat) (ts : List Int) (k : Nat) : List Md := mdL f (ts.take k)
set_option maxRecDepth 100000 in
theorem mdK_next {f : Int → Option Nat} {ts : List Int} {k : Nat} {x : Int} (h : ts[k]? = some x) : mdK f ts (k + 1) = mdK f ts k ++ [⟨x, (f x).getD 0⟩] := by
  unfold mdK mdL
  rw [List.take_add_one, h, List.map_append]; rfl
set_option maxRecDepth 100000 in
theorem mdK_end (f : Int → Option Nat) (ts : List Int) : mdK f ts ts.length = mdL f ts := by unfold mdK; rw [List.take_length]
set_option maxRecDepth 100000 in
theorem mdK_len (f : Int → Option Nat) (ts : List Int) (k : Nat) : (mdK f ts k).length ≤ ts.length := by unfold mdK mdL; rw [List.length_map, List.length_take]; omega
set_option maxRecDepth 100000 in
theorem mdL_len (f : Int → Option Nat) (ts : List Int) : (mdL f ts).length = ts.length := by unfold mdL; rw [List.length_map]
set_option maxRecDepth 100000 in
theorem asc_len99 : ∀ (ts : List Int) (lo : Int), ts.Pairwise (· < ·) → (∀ x ∈ ts, lo < x ∧ x ≤ 99) → lo ≤ 99 → (ts.length : Int) + lo ≤ 99
  | [], lo, _, _, h => by simpa using h
  | a :: t, lo, hp, hr, h => by
    obtain ⟨h1, h2⟩ := List.pairwise_cons.1 hp
    have ha := hr a (List.mem_cons_self ..)
    have := asc_len99 t a h2 (fun x hx => ⟨h1 x hx, (hr x (List.mem_cons_of_mem _ hx)).2⟩) ha.2
    simp only [List.length_cons]
    omega
set_option maxRecDepth 100000 in
theorem ascM_len {f : Int → Option Nat} {ts : List Int} (h : AscM f ts) (ho : ColOk f) : ts.length ≤ 99 := by
  have := asc_len99 ts 0 h.asc (fun x hx => by
    obtain ⟨d, hd⟩ := Option.isSome_iff_exists.1 ((h.mem x).1 hx)
    have := (ho.u x d hd).2
    omega) (by omega)
  omega
set_option maxRecDepth 100000 in
theorem info_md : (Try.prog.info? 47).map (fun i => (i.zero, i.size, i.bytes)) = some (some (.agg #[.int .i64 0, .int .u64 0]), 2, 16) := by kernel_rfl
set_option maxRecDepth 100000 in
theorem md_row (w : World) (x : Int) (b : Nat) (t : TypeId) : ∀ j u, [Value.int .i64 x, .int .u64 (b : Int)][j]? = some u → (w.alloc (.cells #[.int .i64 x, .int .u64 (b : Int)] t)).cell? ((⟨w.heap.size, 0, none⟩ : Addr).add j) = some u := by
  intro j u hu
  rw [add_plain]
  have hb := heap_alloc_new w (.cells #[.int .i64 x, .int .u64 (b : Int)] t)
  rcases j with _ | _ | j
  · cases hu; exact cell_of_row _ _ _ _ _ _ hb
  · cases hu; exact cell_of_row _ _ _ _ _ _ hb
  · simp at hu
/-- While the neighbours come. -/
structure AL (W : World) (Mb N : Nat) (f : Int → Option Nat) (ts : List Int) (ps : Option Addr) (cs C : Nat) (v : Value) (M : List Md) (w : World) : Prop where
  mp : OMu w Mb N f
  rt : Rd w (fun b => b < C) (.slice ps ts.length cs) (ts.map tv)
  own : w.ownsRow C 47 2 v M.length (M.flatMap mdC)
  gr : W.grownBy w none
  lo : Mb < C ∧ C ≤ w.heap.size ∧ W.heap.size ≤ C
set_option maxRecDepth 100000 in
theorem AL.keep {W w w1 : World} {Mb N : Nat} {f : Int → Option Nat} {ts : List Int} {ps : Option Addr} {cs C : Nat} {v : Value} {M : List Md} (h : AL W Mb N f ts ps cs C v M w) (g : w.grownBy w1 none) : AL W Mb N f ts ps cs C v M w1 :=
  ⟨h.mp.kept g (by simp), h.rt.keep g, h.own.kept g (by cases v.ownBlock <;> simp), grown_trans h.gr g, h.lo.1, Nat.le_trans h.lo.2.1 g.size, h.lo.2.2⟩
set_option maxRecDepth 100000 in
theorem AL.put {W w w1 : World} {Mb N : Nat} {f : Int → Option Nat} {ts : List Int} {ps : Option Addr} {cs C : Nat} {v v' : Value} {M M2 : List Md} (h : AL W Mb N f ts ps cs C v M w) (hown : w1.ownsRow C 47 2 v' M2.length (M2.flatMap mdC)) (g : w.grownBy w1 v.ownBlock) : AL W Mb N f ts ps cs C v' M2 w1 := by
  have hlo := h.lo
  have hne : ∀ b, b < C → some b ≠ v.ownBlock := fun b hb e => by have := (h.own.lt b e.symm).1; omega
  exact ⟨h.mp.kept g (hne _ hlo.1), h.rt.grown g hne, hown, grown_any h.gr g (fun b hb => hne b (by omega)), h.lo.1, Nat.le_trans h.lo.2.1 g.size, h.lo.2.2⟩
/-- What All returns. -/
def AllPost (r s n : Int) (L : List Rw) (pl set : Int) (w : World) (e : Ending) (w' : World) : Prop :=
  ∃ (ts : List Int) (p : Option Addr) (c : Nat), e = .returned (.slice p (mdL (coF r s n L pl set) ts).length c) ∧ AscM (coF r s n L pl set) ts ∧ w'.ownsRow w.heap.size 47 2 (.slice p (mdL (coF r s n L pl set) ts).length c) (mdL (coF r s n L pl set) ts).length ((mdL (coF r s n L pl set) ts).flatMap mdC) ∧ w.grownBy w' none
set_option maxRecDepth 100000 in
set_option maxHeartbeats 6400000 in
theorem mall_any (r s n : Int) (p : Option Addr) (c : Nat) (L : List Rw) (pl set : Int) (w : World) (hR : RdW w (· < w.heap.size) p c L) (hm : L.length ≤ 9223372036854775807) :
    Calls Try.prog 16 #[.agg #[.int .i64 r, .int .i64 s, .int .i64 n, .slice p L.length c], .int .i64 pl, .int .i64 set] w fun e w' => AllPost r s n L pl set w e w' := by
  obtain ⟨ie, hie, he0, he1, he2⟩ := info_parts info_md
  obtain ⟨k1, k2⟩ := tone_box w #[.int .i64 r, .int .i64 s, .int .i64 n, .slice p L.length c] 24
  have H0 := Lib.hid (And.intro k1 (And.intro k2 (And.intro ((hR.keep k2).mono (q' := (· < (w.alloc (.cells #[.int .i64 r, .int .i64 s, .int .i64 n, .slice p L.length c] 24)).heap.size)) (fun b (hb : b < w.heap.size) => by show b < _; simp; omega)) (show w.heap.size < (w.alloc (.cells #[.int .i64 r, .int .i64 s, .int .i64 n, .slice p L.length c] 24)).heap.size by simp))))
  clear k1 k2 hR
  go_enter Try.func16, Try.ntmps16
  go_upto_region 1 with fail
  generalize w.alloc _ = w1 at *
  obtain ⟨d0, d1, d2, d3⟩ := row4T H0.out.1
  go_wp2_with fail
  refine (mcollect_any r s n p c L pl set w1 H0.out.2.2.1 hm).mono ?_
  rintro e w2 ⟨rfl, ⟨N, hN, hmp⟩, hg⟩
  have H2 := Lib.hid (And.intro hmp (grown_trans H0.out.2.1 hg))
  have hzz : w.heap.size < w1.heap.size := H0.out.2.2.2
  clear hmp hg H0 d0 d1 d2 d3
  obtain ⟨f, hf⟩ : ∃ f, coF r s n L pl set = f := ⟨_, rfl⟩
  have HF := Lib.hid hf
  have HOK : Hid (ColOk f) := Lib.hid (by rw [← hf]; exact coF_ok r s n L pl set)
  rw [hf] at H2
  clear hf
  generalize w1.heap.size + 1 = Mb at *
  go_wp2_with fail
  refine (mkeys_any (some Mb) w2).mono ?_
  rintro e w4 ⟨rfl, hw4⟩
  have hb4 := heap_alloc_new w2 (.cells #[.map (some Mb)] 57)
  have hg4 := World.grownBy_alloc w2 (.cells #[.map (some Mb)] 57) none
  rw [← hw4] at hb4 hg4
  have hz4 : w2.heap.size < w4.heap.size := by rw [hw4]; simp
  have HW4 := Lib.hid (And.intro hb4 (And.intro hg4 hz4))
  clear hw4 hb4 hg4 hz4
  go_wp2_with fail
  refine (mkz_any f Mb N (by omega) w2.heap.size w4 (by rw [cell_of_row _ _ _ _ _ _ HW4.out.1]; rfl) HW4.out.2.2 (H2.out.1.kept HW4.out.2.1 (by simp))).mono ?_
  rintro e w5 ⟨vs, ts, rfl, hS, hrow, hg5⟩
  obtain ⟨ps, cs, rfl, hcs1, hcs2⟩ := own_shape hrow
  have hlen := ascM_len hS HOK.out
  have HTS := Lib.hid hS
  have g25 := grown_trans HW4.out.2.1 hg5
  have A0 : Hid (AL w Mb N f ts ps cs w5.heap.size (.slice none 0 0) (mdK f ts 0) w5) := Lib.hid ⟨H2.out.1.kept g25 (by simp), (rd_of_own hrow).old, World.ownsRow_nil _ _ _ _, grown_trans H2.out.2 g25, Nat.lt_of_lt_of_le H2.out.1.lt g25.size, Nat.le_refl _, Nat.le_trans H2.out.2.size g25.size⟩
  clear hS hrow hg5 HW4 H2 g25
  generalize w5.heap.size = C at *
  go_wp2_with fail
  go_loopw [8, 19] (fun vo a wr => ∃ (k : Nat) (po : Option Addr) (co : Nat), k ≤ ts.length ∧ a = .int .i64 (k : Int) ∧ vo = .slice po (mdK f ts k).length co ∧ Hid (AL w Mb N f ts ps cs C (.slice po (mdK f ts k).length co) (mdK f ts k) wr)) (fun _ a _ => ts.length - (RowKit.intOf a).toNat)
  case atStart => exact ⟨0, none, 0, Nat.zero_le _, rfl, rfl, A0⟩
  case round =>
  clear A0
  obtain ⟨k, po, co, hk, rfl, rfl, A1⟩ := hrel
  obtain ⟨w6, hw6⟩ : ∃ w6, w6 = wr := ⟨_, rfl⟩
  rw [← hw6] at A1 ⊢
  clear hw6
  by_cases hlt : k < ts.length
  case neg =>
    obtain rfl : k = ts.length := by omega
    have hnl : ¬ (ts.length : Int) < (ts.length : Int) := by omega
    rw [mdK_end] at A1 ⊢
    go_wp2_with fail
    go_ret
    exact ⟨ts, po, co, by rw [HF.out]; rfl, by rw [HF.out]; exact HTS.out, by rw [HF.out]; exact A1.out.own.mono A1.out.lo.2.2, A1.out.gr⟩
  case pos =>
  have hlt' : (k : Int) < (ts.length : Int) := by omega
  obtain ⟨x, hx⟩ : ∃ x, ts[k]? = some x := ⟨_, List.getElem?_eq_getElem hlt⟩
  obtain ⟨-, b, off, rfl, hq, hc⟩ := tvT_at A1.out.rt hx
  have d0 := hc k x hx
  obtain ⟨d, hd⟩ := Option.isSome_iff_exists.1 ((HTS.out.mem x).1 (List.mem_of_getElem? hx))
  have hdb := HOK.out.u x d hd
  have hx1 := hdb.2
  have q1 := (A1.out.mp.look (x := x) (by unfold I64; omega)).1
  rw [hd] at q1
  simp only [Option.getD_some] at q1
  have HS : Hid (mdK f ts (k + 1) = mdK f ts k ++ [⟨x, d⟩]) := Lib.hid (by have := mdK_next (f := f) hx; rw [hd] at this; exact this)
  have hMl := mdK_len f ts k
  obtain ⟨M, hM⟩ : ∃ M, mdK f ts k = M := ⟨_, rfl⟩
  obtain ⟨M2, hM2⟩ : ∃ M2, mdK f ts (k + 1) = M2 := ⟨_, rfl⟩
  rw [hM] at A1 HS hMl ⊢
  rw [hM2] at HS
  have HM2 := Lib.hid hM2
  have HO2 := Lib.hid A1.out.own
  have hsz : C ≤ w6.heap.size := A1.out.lo.2.1
  clear hc hx hd hM hM2 hdb hx1
  go_wp2_with (at_builtin; refine hold_on ?_)
  refine Lib.hid ?_
  refine wpList_append_lies _ rfl _ _ 34 rfl C 47 ie (.agg #[.int .i64 0, .int .u64 0]) 2 16 Try.underlying34 hie he0 he1 he2 rfl (by decide) (.slice po M.length co) M.length (M.flatMap mdC) rfl (HO2.out.alloc _) ⟨w6.heap.size, 0, none⟩ 1 1 [.int .i64 x, .int .u64 (d : Int)] rfl rfl (md_row w6 x d _) (md_one ⟨x, d⟩) (by decide) (by unfold maxLen; omega) (by omega) (by simp; omega) _ rfl ?_
  intro g cap w8 hown hgrow hat hlt8
  have A2 := Lib.hid ((A1.out.keep (World.grownBy_alloc _ _ none)).put (M2 := M ++ [(⟨x, d⟩ : Md)]) (by rw [List.length_append, List.flatMap_append]; simpa [mdC] using hown) hgrow)
  rw [← HS.out] at A2
  have HL : Hid (M.length + 1 = M2.length) := Lib.hid (by rw [HS.out, List.length_append]; rfl)
  rw [HL.out] at A2 ⊢
  clear hown hgrow hat hlt8 HO2 A1 hsz HL HS q1 d0 hMl
  go_wp2_with fail
  exact ⟨⟨k + 1, some ⟨g, 0, none⟩, cap, by omega, congrArg _ (by omega), by rw [HM2.out], by rw [HM2.out]; exact A2⟩, by simp only [RowKit.intOf]; omega⟩
end Go.Proofs.Ytdkbdghkboeggaa

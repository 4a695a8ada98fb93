/- Parts of the proof, packed: DbCln, ToUnt2, DbLnk. -/
import Derived.Test.YtnpkihioklpnmaaDo13
import Derived.Test.YtnpkihioklpnmaaDo5
import Derived.Lib.SliceRun
import Derived.Deep.CutBlock
import Derived.Deep.CutRange
/- slices.Clone of links, of claims and of adverts. -/
namespace Go.Proofs.Ytnpkihioklpnmaa
open Go.RowKit Bs
set_option maxRecDepth 100000 in
theorem info_ad5 : (Try.prog.info? 38).map (fun i => (i.zero, i.size, i.bytes)) = some (some (.agg #[.int .i64 0, .int .i64 0, .bool false, .slice none 0 0, .slice none 0 0]), 5, 72) := by kernel_rfl
set_option maxRecDepth 100000 in
set_option maxHeartbeats 1600000 in
theorem dclR_any (C : List T3) (p : Option Addr) (c : Nat) (q : Nat → Prop) (w : World) (hR : RdF w q (.slice p C.length c) C.length (C.flatMap t3C)) (hn : p = none → c = 0) (hc : C.length ≤ c ∧ c ≤ 9223372036854775807) (hm : C.length ≤ 1000) :
    Calls Try.prog 85 #[.slice p C.length c] w fun e w' => ∃ v, e = .returned v ∧ w'.ownsRow w.heap.size 73 3 v C.length (C.flatMap t3C) ∧ w.grownBy w' none := by
  obtain ⟨ii, hii, hi0, hi1, hi2⟩ := info_parts info_re
  cases p with
  | none =>
    obtain rfl := hn rfl
    have h0 : C.length = 0 := by omega
    obtain rfl := List.eq_nil_of_length_eq_zero h0
    clear hR
    have heq : ∀ w : World, (binOp .eql 35 (.slice none 0 0) (.slice none 0 0)).run Try.prog w = .ok (.bool true) w := fun w => Lib.run_eql_slice_nil w _ _ none 0 0 0 0 Try.underlying35
    go_enter Try.func85, Try.ntmps85
    go_wp2_with fail
    go_ret
    exact ⟨_, rfl, World.ownsRow_nil _ _ _ _, grown_refl _ _⟩
  | some ad =>
    have k0 := World.grownBy_alloc w (.cells #[] 73) none
    have hlit : (w.alloc (.cells #[] 73)).ownsRow w.heap.size 73 3 (.slice (some ⟨w.heap.size, 0, none⟩) 0 0) 0 (([] : List T3).flatMap t3C) := World.ownsRow_lit w #[] 0 (Nat.le_refl _) (by decide) rfl
    have HL := Lib.hid (And.intro hlit (And.intro k0 (hR.grown k0 (fun _ _ => by simp))))
    clear hlit k0 hR
    have heq : ∀ w : World, (binOp .eql 35 (.slice (some ad) C.length c) (.slice none 0 0)).run Try.prog w = .ok (.bool false) w := fun w => Lib.run_eql_slice_nil w _ _ (some ad) C.length c 0 0 Try.underlying35
    go_enter Try.func85, Try.ntmps85
    go_wp2_with (at_builtin; refine hold_on ?_)
    refine Lib.hid ?_
    refine wpList_append_f t3C 3 24 (by decide) (fun _ => rfl) t3_one 73 35 ii _ Try.underlying35 hii hi0 hi1 hi2 rfl (by decide) rfl _ _ rfl w.heap.size _ [] 0 rfl rfl HL.out.1 _ _ _ C rfl rfl (fun h => by cases h) q HL.out.2.2 hc.1 (by omega) (by simp) ?_
    intro v' w1 hown hg
    rw [List.nil_append] at hown
    have HO := Lib.hid (And.intro hown (old_grow HL.out.2.1 HL.out.1 (Nat.le_refl _) hg))
    clear hown hg
    go_wp2_with fail
    go_ret
    exact ⟨v', rfl, HO.out.1, HO.out.2⟩
set_option maxRecDepth 100000 in
set_option maxHeartbeats 1600000 in
theorem dclC_any (C : List T3) (p : Option Addr) (c : Nat) (q : Nat → Prop) (w : World) (hR : RdF w q (.slice p C.length c) C.length (C.flatMap t3C)) (hn : p = none → c = 0) (hc : C.length ≤ c ∧ c ≤ 9223372036854775807) (hm : C.length ≤ 1000) :
    Calls Try.prog 86 #[.slice p C.length c] w fun e w' => ∃ v, e = .returned v ∧ w'.ownsRow w.heap.size 62 3 v C.length (C.flatMap t3C) ∧ w.grownBy w' none := by
  obtain ⟨ii, hii, hi0, hi1, hi2⟩ := info_parts info_cm
  cases p with
  | none =>
    obtain rfl := hn rfl
    have h0 : C.length = 0 := by omega
    obtain rfl := List.eq_nil_of_length_eq_zero h0
    clear hR
    have heq : ∀ w : World, (binOp .eql 36 (.slice none 0 0) (.slice none 0 0)).run Try.prog w = .ok (.bool true) w := fun w => Lib.run_eql_slice_nil w _ _ none 0 0 0 0 Try.underlying36
    go_enter Try.func86, Try.ntmps86
    go_wp2_with fail
    go_ret
    exact ⟨_, rfl, World.ownsRow_nil _ _ _ _, grown_refl _ _⟩
  | some ad =>
    have k0 := World.grownBy_alloc w (.cells #[] 62) none
    have hlit : (w.alloc (.cells #[] 62)).ownsRow w.heap.size 62 3 (.slice (some ⟨w.heap.size, 0, none⟩) 0 0) 0 (([] : List T3).flatMap t3C) := World.ownsRow_lit w #[] 0 (Nat.le_refl _) (by decide) rfl
    have HL := Lib.hid (And.intro hlit (And.intro k0 (hR.grown k0 (fun _ _ => by simp))))
    clear hlit k0 hR
    have heq : ∀ w : World, (binOp .eql 36 (.slice (some ad) C.length c) (.slice none 0 0)).run Try.prog w = .ok (.bool false) w := fun w => Lib.run_eql_slice_nil w _ _ (some ad) C.length c 0 0 Try.underlying36
    go_enter Try.func86, Try.ntmps86
    go_wp2_with (at_builtin; refine hold_on ?_)
    refine Lib.hid ?_
    refine wpList_append_f t3C 3 24 (by decide) (fun _ => rfl) t3_one 62 36 ii _ Try.underlying36 hii hi0 hi1 hi2 rfl (by decide) rfl _ _ rfl w.heap.size _ [] 0 rfl rfl HL.out.1 _ _ _ C rfl rfl (fun h => by cases h) q HL.out.2.2 hc.1 (by omega) (by simp) ?_
    intro v' w1 hown hg
    rw [List.nil_append] at hown
    have HO := Lib.hid (And.intro hown (old_grow HL.out.2.1 HL.out.1 (Nat.le_refl _) hg))
    clear hown hg
    go_wp2_with fail
    go_ret
    exact ⟨v', rfl, HO.out.1, HO.out.2⟩
set_option maxRecDepth 100000 in
set_option maxHeartbeats 1600000 in
theorem dclA_any (C : List Ad) (p : Option Addr) (c : Nat) (q : Nat → Prop) (w : World) (hR : RdF w q (.slice p C.length c) C.length (C.flatMap adL)) (hn : p = none → c = 0) (hc : C.length ≤ c ∧ c ≤ 9223372036854775807) (hm : C.length ≤ 1000) :
    Calls Try.prog 87 #[.slice p C.length c] w fun e w' => ∃ v, e = .returned v ∧ w'.ownsRow w.heap.size 38 5 v C.length (C.flatMap adL) ∧ w.grownBy w' none := by
  obtain ⟨ii, hii, hi0, hi1, hi2⟩ := info_parts info_ad5
  cases p with
  | none =>
    obtain rfl := hn rfl
    have h0 : C.length = 0 := by omega
    obtain rfl := List.eq_nil_of_length_eq_zero h0
    clear hR
    have heq : ∀ w : World, (binOp .eql 23 (.slice none 0 0) (.slice none 0 0)).run Try.prog w = .ok (.bool true) w := fun w => Lib.run_eql_slice_nil w _ _ none 0 0 0 0 Try.underlying23
    go_enter Try.func87, Try.ntmps87
    go_wp2_with fail
    go_ret
    exact ⟨_, rfl, World.ownsRow_nil _ _ _ _, grown_refl _ _⟩
  | some ad =>
    have k0 := World.grownBy_alloc w (.cells #[] 38) none
    have hlit : (w.alloc (.cells #[] 38)).ownsRow w.heap.size 38 5 (.slice (some ⟨w.heap.size, 0, none⟩) 0 0) 0 (([] : List Ad).flatMap adL) := World.ownsRow_lit w #[] 0 (Nat.le_refl _) (by decide) rfl
    have HL := Lib.hid (And.intro hlit (And.intro k0 (hR.grown k0 (fun _ _ => by simp))))
    clear hlit k0 hR
    have heq : ∀ w : World, (binOp .eql 23 (.slice (some ad) C.length c) (.slice none 0 0)).run Try.prog w = .ok (.bool false) w := fun w => Lib.run_eql_slice_nil w _ _ (some ad) C.length c 0 0 Try.underlying23
    go_enter Try.func87, Try.ntmps87
    go_wp2_with (at_builtin; refine hold_on ?_)
    refine Lib.hid ?_
    refine wpList_append_f adL 5 72 (by decide) (fun _ => rfl) ad_one 38 23 ii _ Try.underlying23 hii hi0 hi1 hi2 rfl (by decide) rfl _ _ rfl w.heap.size _ [] 0 rfl rfl HL.out.1 _ _ _ C rfl rfl (fun h => by cases h) q HL.out.2.2 hc.1 (by omega) (by simp) ?_
    intro v' w1 hown hg
    rw [List.nil_append] at hown
    have HO := Lib.hid (And.intro hown (old_grow HL.out.2.1 HL.out.1 (Nat.le_refl _) hg))
    clear hown hg
    go_wp2_with fail
    go_ret
    exact ⟨v', rfl, HO.out.1, HO.out.2⟩
end Go.Proofs.Ytnpkihioklpnmaa

/- As until: what is not late keeps what holds. -/
namespace Go.Proofs.Ytnpkihioklpnmaa
open Go
section
variable {P : Program} {ops : Array Oper} {Q : Exit → Act → World → Prop} {md : Region.Mode} {S : World → Prop} {late : Nat → Bool}
/-- Any order from here on; S holds behind whatever is not late. -/
def anyV (P : Program) (md : Region.Mode) (ops : Array Oper) (Q : Exit → Act → World → Prop) (S : World → Prop) (late : Nat → Bool) : Nat → Array Bool → Act → World → Prop
  | 0, seen, a, w => Region.ready md ops seen = [] ∧ Q .normal a w
  | n + 1, seen, a, w => (Region.ready md ops seen = [] → Q .normal a w) ∧
      ∀ k, k ∈ Region.ready md ops seen → wpOp P ops Q k (fun b v => (late k = false → S w → S v) ∧ anyV P md ops Q S late n (seen.setIfInBounds k true) b v) a w
set_option maxRecDepth 100000 in
theorem anyV_any (n : Nat) : ∀ (seen : Array Bool) (a : Act) (w : World), anyV P md ops Q S late n seen a w → wpAny P md ops Q n seen a w := by
  induction n with
  | zero => intro seen a w h; exact h
  | succ n ih => intro seen a w h; exact ⟨h.1, fun k hk => wpOp_mono (fun b v hb => ih _ b v hb.2) (h.2 k hk)⟩
set_option maxRecDepth 100000 in
theorem anyV_first {i : Nat} {oi : Oper} {v : Value} (hi : ops[i]? = some oi) (hsel : ∀ (j : Nat) (o : Oper) cs b, ops[j]? = some o → o.op ≠ .select cs b)
    (hQ : ∀ c a w, Q (.panic c) (a.put oi.dst v) w → Q (.panic c) a w) (hw : waits md ops late i = true) (n : Nat) :
    ∀ (seen : Array Bool) (a : Act) (w : World),
      (∀ j oj, ops[j]? = some oj → j ≠ i → seen.getD j true = false → (∀ e ∈ oj.after, Region.binds md e = true → e.on ≠ i) → oi.apart ops oj = true) →
      Shut1 md ops seen → i ∈ Region.ready md ops seen → YieldsIf P ops S oi v a → S w → anyV P md ops Q S late n (seen.setIfInBounds i true) (a.put oi.dst v) w → anyV P md ops Q S late (n + 1) seen a w := by
  have now : ∀ (m : Nat) (seen : Array Bool) (a : Act) (w : World), YieldsIf P ops S oi v a → S w → anyV P md ops Q S late m (seen.setIfInBounds i true) (a.put oi.dst v) w →
      wpOp P ops Q i (fun b u => (late i = false → S w → S u) ∧ anyV P md ops Q S late m (seen.setIfInBounds i true) b u) a w := fun m seen a w hy hS h => hy.wpOp hi hS ⟨fun _ _ => hS, h⟩
  induction n with
  | zero =>
    intro seen a w _ _ hr hy hS h
    refine ⟨fun e => (by rw [e] at hr; cases hr), fun j hj => ?_⟩
    by_cases e : j = i
    · exact e ▸ now 0 seen a w hy hS h
    · have := ready_mono hj e
      rw [h.1] at this
      cases this
  | succ n ih =>
    intro seen a w hf hc hr hy hS h
    refine ⟨fun e => (by rw [e] at hr; cases hr), fun j hj => ?_⟩
    by_cases e : j = i
    · exact e ▸ now (n + 1) seen a w hy hS h
    obtain ⟨hun, oj, hoj, hall⟩ := mem_ready.1 hj
    have hno : ∀ e ∈ oj.after, Region.binds md e = true → e.on ≠ i := fun e he hb hei => by
      have h1 := hall e he hb
      have h0 := (mem_ready.1 hr).1
      rw [hei] at h1
      by_cases hlt : i < seen.size
      · simp [hlt] at h0 h1
        rw [h0] at h1
        cases h1
      · simp [Array.getElem?_eq_none (Nat.le_of_not_lt hlt)] at h1
    have hl : late j = false := by
      cases hl : late j with
      | false => rfl
      | true =>
        have h1 := waits_seen hw hc hj hl
        have h0 := (mem_ready.1 hr).1
        by_cases hlt : i < seen.size
        · simp [hlt] at h0 h1
          rw [h0] at h1
          cases h1
        · simp [Array.getElem?_eq_none (Nat.le_of_not_lt hlt)] at h1
    refine wpOp_mono (fun b u hb => ⟨hb.2.1, ih _ b u (fun k ok hk hki hsk hnk => hf k ok hk hki ?_ hnk) (hc.step hj) (ready_mono hr (Ne.symm e)) hb.1 (hb.2.1 hl hS) (by rw [Array.setIfInBounds_comm _ _ e]; exact hb.2.2)⟩)
      (wpOp_putIf hoj (hf j oj hoj e hun hno) (fun cs b => hsel i oi cs b hi) (fun cs b => hsel j oj cs b hoj) hQ hy (h.2 j (ready_mono hj e)))
    by_cases hjk : j = k
    · exact hjk ▸ hun
    · rwa [getD_set_ne true hjk] at hsk
set_option maxRecDepth 100000 in
theorem anyV_take {i : Nat} {oi : Oper} {v : Value} {n : Nat} {seen : Array Bool} {a : Act} {w : World} (hi : ops[i]? = some oi) (hw : waits md ops late i = true)
    (hc : shut1 md ops seen = true) (hs : Region.noSelect ops = true) (hf : Region.free md ops seen i = true) (hr : (Region.ready md ops seen).contains i = true)
    (hQ : ∀ c a w, Q (.panic c) (a.put oi.dst v) w → Q (.panic c) a w) (hy : YieldsIf P ops S oi v a) (hS : S w)
    (h : anyV P md ops Q S late n (seen.setIfInBounds i true) (a.put oi.dst v) w) : anyV P md ops Q S late (n + 1) seen a w :=
  anyV_first hi (Region.noSelect_spec hs) hQ hw n seen a w (Region.free_spec hi hf) (shut1_spec hc) (by simpa using hr) hy hS h
/-- Each of some operations comes up next. -/
def EachV (P : Program) (md : Region.Mode) (ops : Array Oper) (Q : Exit → Act → World → Prop) (S : World → Prop) (late : Nat → Bool) (n : Nat) (seen : Array Bool) (a : Act) (w : World) (rs : List Nat) : Prop :=
  ∀ k ∈ rs, wpOp P ops Q k (fun b v => (late k = false → S w → S v) ∧ anyV P md ops Q S late n (seen.setIfInBounds k true) b v) a w
set_option maxRecDepth 100000 in
theorem EachV.nil {n : Nat} {seen : Array Bool} {a : Act} {w : World} : EachV P md ops Q S late n seen a w [] := fun _ h => by cases h
set_option maxRecDepth 100000 in
theorem EachV.cons {n : Nat} {seen : Array Bool} {a : Act} {w : World} {i : Nat} {o : Oper} {rs : List Nat} (ho : ops[i]? = some o)
    (h : ∀ K : Act → World → Prop, Shut (∀ b v, (late i = false → S w → S v) → ((late i = false → S w → S v) → anyV P md ops Q S late n (seen.setIfInBounds i true) b v) → K b v) → if Region.wanted o (yielded ops a.tmps) = true then Oper.wp P o a w K Q else K (a.put o.dst undef) w)
    (hs : EachV P md ops Q S late n seen a w rs) : EachV P md ops Q S late n seen a w (i :: rs) := fun j hj => by
  rcases List.mem_cons.1 hj with rfl | hj
  · exact wpOp_step ho (fun K hK => h K (fun b v hS hW => hK b v ⟨hS, hW hS⟩))
  · exact hs j hj
set_option maxRecDepth 100000 in
theorem anyV_ready {rs : List Nat} {n : Nat} {seen : Array Bool} {a : Act} {w : World} (hr : Region.ready md ops seen = rs) (hne : rs ≠ []) (h : EachV P md ops Q S late n seen a w rs) : anyV P md ops Q S late (n + 1) seen a w :=
  ⟨fun e => absurd (hr ▸ e) hne, hr ▸ h⟩
set_option maxRecDepth 100000 in
theorem anyV_done {seen : Array Bool} {a : Act} {w : World} (hr : Region.ready md ops seen = []) (h : Q .normal a w) (n : Nat) : anyV P md ops Q S late n seen a w := by
  cases n with
  | zero => exact ⟨hr, h⟩
  | succ n => exact ⟨fun _ => h, by rw [hr]; intro k hk; cases hk⟩
set_option maxRecDepth 100000 in
theorem region_until2 {id : Nat} {a : Act} {w : World} (late : Nat → Bool) (hm : P.follows .mixedOrders = true) (hS : S w.drew) (h : S w.drew → anyV P .any ops Q S late ops.size (Array.replicate ops.size false) a w.drew) :
    (Code.region id ops true).wp P Q a w := wp_region_any hm (anyV_any _ _ _ _ (h hS))
end
end Go.Proofs.Ytnpkihioklpnmaa

/- database: linked, between. -/
namespace Go.Proofs.Ytnpkihioklpnmaa
open Go.RowKit Bs
/-- While linked routers are looked for: the database, the advert's box, the list that grows. -/
structure LS (w : World) (l : List Ad) (p : Option Addr) (c : Nat) (A : Ad) (v : Value) (M : List Ad) (wr : World) : Prop where
  db : RdA wr (· < w.heap.size) (.slice p l.length c) l
  ab : wr.heap[w.heap.size]? = some (.cells #[.int .i64 A.r, .int .i64 A.q, .bool A.cp, .slice A.pL A.L.length A.cL, .slice A.pC A.C.length A.cC] 38 (0, 0))
  ok : AdOk wr (· < w.heap.size) A
  own : wr.ownsRow (w.heap.size + 1) 38 5 v M.length (M.flatMap adL)
  gr : w.grownBy wr none
section
variable {w wr w1 : World} {l M : List Ad} {p : Option Addr} {c : Nat} {A : Ad} {v : Value}
set_option maxRecDepth 100000 in
theorem LS.keep (h : LS w l p c A v M wr) (g : wr.grownBy w1 none) : LS w l p c A v M w1 :=
  ⟨h.db.keep g, kept_row h.ab g (by simp), h.ok.keep g, h.own.kept g (by cases hv : v.ownBlock <;> simp), grown_trans h.gr g⟩
set_option maxRecDepth 100000 in
theorem LS.new (h : LS w l p c A v M wr) {b : Nat} (g : wr.grownBy w1 (some b)) (hb : w.heap.size < b) (hne : v.ownBlock ≠ some b) : LS w l p c A v M w1 := by
  refine ⟨h.db.grown g (fun x hx e => by have := Option.some.inj e; omega), kept_row h.ab g (fun e => by have := Option.some.inj e; omega), h.ok.grown g (fun x hx e => by have := Option.some.inj e; omega), h.own.kept g ?_, grown_new h.gr g (by omega)⟩
  cases hv : v.ownBlock with
  | none => exact .inl rfl
  | some g' => exact .inr fun e => hne (hv.trans e)
/-- A box for three numbers has come. -/
structure NR (w : World) (v : Value) (b : Nat) (wr : World) : Prop where
  ab : wr.heap[b]? = some (.cells #[.int .i64 0, .int .i64 0, .int .i64 0] 73 (0, 0))
  lt : w.heap.size < b
  ne : v.ownBlock ≠ some b
set_option maxRecDepth 100000 in
theorem NR.keep {b : Nat} (h : NR w v b wr) (g : wr.grownBy w1 none) : NR w v b w1 := ⟨kept_row h.ab g (by simp), h.lt, h.ne⟩
set_option maxRecDepth 100000 in
theorem LS.nr (h : LS w l p c A v M wr) : ∀ b, b = wr.heap.size → NR w v b (wr.alloc (.cells #[.int .i64 0, .int .i64 0, .int .i64 0] 73)) := by
  rintro b rfl
  exact ⟨heap_alloc_new wr _, World.lt_of_row' h.ab, fun e => by have := (h.own.lt _ e).2; omega⟩
set_option maxRecDepth 100000 in
theorem LS.put {b : Nat} (h : LS w l p c A v M wr) (n : NR w v b wr) (x y z : Int) : LS w l p c A v M (((wr.setCell ⟨b, 0, none⟩ (.int .i64 x)).setCell ⟨b, 1, none⟩ (.int .i64 y)).setCell ⟨b, 2, none⟩ (.int .i64 z)) :=
  h.new (store3r (.int .i64 x) (.int .i64 y) (.int .i64 z) n.ab).2 n.lt n.ne
set_option maxRecDepth 100000 in
theorem LS.app {v' : Value} {o : Obj} {B : Ad} (h : LS w l p c A v M wr) (hown : w1.ownsRow (w.heap.size + 1) 38 5 v' (M.length + 1) (M.flatMap adL ++ adL B)) (hg : (wr.alloc o).grownBy w1 v.ownBlock) : LS w l p c A v' (M ++ [B]) w1 := by
  have k0 := World.grownBy_alloc wr o none
  have h1 := h.keep k0
  have hb : ∀ b, v.ownBlock = some b → w.heap.size < b := fun b hb => by have := (h.own.lt b hb).1; omega
  refine ⟨h1.db.grown hg (fun x hx e => by have := hb x e.symm; omega), kept_row h1.ab hg (fun e => by have := hb _ e.symm; omega), h1.ok.grown hg (fun x hx e => by have := hb x e.symm; omega), ?_, ?_⟩
  · rw [List.flatMap_append, List.length_append, List.flatMap_cons, List.flatMap_nil, List.append_nil]; exact hown
  · cases hv : v.ownBlock with
    | none => rw [hv] at hg; exact grown_trans h1.gr hg
    | some b => rw [hv] at hg; exact grown_new h1.gr hg (by have := hb b hv; omega)
end
set_option maxRecDepth 100000 in
theorem one_rowA (w : World) (t : TypeId) (B : Ad) (j : Nat) (u : Value) (hu : ([B].flatMap adL)[j]? = some u) : (w.alloc (.cells #[.int .i64 B.r, .int .i64 B.q, .bool B.cp, .slice B.pL B.L.length B.cL, .slice B.pC B.C.length B.cC] t)).cell? ((⟨w.heap.size, 0, none⟩ : Addr).add j) = some u := by
  have h := heap_alloc_new w (.cells #[.int .i64 B.r, .int .i64 B.q, .bool B.cp, .slice B.pL B.L.length B.cL, .slice B.pC B.C.length B.cC] t)
  rw [add_plain, Nat.zero_add, cell_of_row _ _ _ _ _ _ h]
  have : [B].flatMap adL = adL B := by simp
  rw [this] at hu
  simpa [adL] using hu
def LnkPost (M : List Ad) (w : World) (e : Ending) (w' : World) : Prop := ∃ p c, e = .returned (.slice p M.length c) ∧ RdF w' (fun b => w.heap.size ≤ b ∧ b < w'.heap.size) (.slice p M.length c) M.length (M.flatMap adL) ∧ (M.length ≤ c ∧ c ≤ 9223372036854775807) ∧ w.grownBy w' none
set_option maxRecDepth 100000 in
theorem lk1_no {l : List Ad} {A : Ad} {x : T3} (h : fndA l x.a = none) : lk1 l A x = [] := by unfold lk1; rw [h]
set_option maxRecDepth 100000 in
theorem lk1_yes {l : List Ad} {A B : Ad} {x : T3} {b : Bool} (h : fndA l x.a = some B) (hb : (rcA B A.r).isSome = b) : lk1 l A x = if b = true then [B] else [] := by
  unfold lk1
  rw [h]
  simp only
  rw [hb]
set_option maxRecDepth 100000 in
set_option maxHeartbeats 6400000 in
theorem dlinked_any (l : List Ad) (A : Ad) (p : Option Addr) (c : Nat) (q : Nat → Prop) (w : World) (hR : RdA w q (.slice p l.length c) l) (hA : AdOk w q A) (hp : l.Pairwise (fun A B => A.r < B.r)) (hm : l.length ≤ 1000) (hL : A.L.length ≤ 1000) :
    Calls Try.prog 66 #[.slice p l.length c, .agg #[.int .i64 A.r, .int .i64 A.q, .bool A.cp, .slice A.pL A.L.length A.cL, .slice A.pC A.C.length A.cC]] w fun e w' => LnkPost (lnk l A) w e w' := by
  obtain ⟨ia, hia, hz0, hz1, hz2⟩ := info_parts info_ad5
  have k1 := heap_alloc_new w (.cells #[.int .i64 A.r, .int .i64 A.q, .bool A.cp, .slice A.pL A.L.length A.cL, .slice A.pC A.C.length A.cC] 38)
  have k2 := World.grownBy_alloc w (.cells #[.int .i64 A.r, .int .i64 A.q, .bool A.cp, .slice A.pL A.L.length A.cL, .slice A.pC A.C.length A.cC] 38) none
  have N0 : Hid (LS w l p c A (.slice none 0 0) ((A.L.take 0).flatMap (lk1 l A)) (w.alloc (.cells #[.int .i64 A.r, .int .i64 A.q, .bool A.cp, .slice A.pL A.L.length A.cL, .slice A.pC A.C.length A.cC] 38))) := Lib.hid ⟨(RdA.old hR).keep k2, k1, hA.old.keep k2, World.ownsRow_nil _ _ _ _, k2⟩
  have HP := Lib.hid hp
  clear k1 k2 hR hA hp
  go_enter Try.func66, Try.ntmps66
  go_upto_region 1 with fail
  generalize w.alloc _ = wa at *
  obtain ⟨c0, c1, c2, c3, c4⟩ := row5 N0.out.ab
  obtain ⟨ar, aq, acp, aL, aC, apL, acL, apC, acC⟩ := A
  obtain ⟨A, hAA⟩ : ∃ A : Ad, A = ⟨ar, aq, acp, aL, aC, apL, acL, apC, acC⟩ := ⟨_, rfl⟩
  have hAL : A.L = aL := by rw [hAA]
  have hAr : A.r = ar := by rw [hAA]
  have hcA : #[.int .i64 A.r, .int .i64 A.q, .bool A.cp, .slice A.pL A.L.length A.cL, .slice A.pC A.C.length A.cC] = (#[.int .i64 ar, .int .i64 aq, .bool acp, .slice apL aL.length acL, .slice apC aC.length acC] : Array Value) := by rw [hAA]
  rw [← hAA] at N0 ⊢
  simp only at c0 c1 c2 c3 c4 hL ⊢
  have HAA := Lib.hid (And.intro hAL (And.intro hAr hcA))
  have HAE := Lib.hid hAA
  clear hAA hAL hAr hcA
  rw [HAA.out.1] at N0
  go_wp2_with fail
  go_loopw [5, 15] (fun v a wr => ∃ k : Nat, k ≤ aL.length ∧ a = .int .i64 (k : Int) ∧ (∃ pv nv cv, v = .slice pv nv cv) ∧ Hid (LS w l p c A v ((aL.take k).flatMap (lk1 l A)) wr)) (fun _ a _ => aL.length - (RowKit.intOf a).toNat)
  case atStart => exact ⟨0, Nat.zero_le _, rfl, ⟨_, _, _, rfl⟩, N0⟩
  case round =>
    obtain ⟨k, hk, rfl, ⟨pv, nv, cv, rfl⟩, N⟩ := hrel
    clear N0 c0 c1 c2 c3 c4
    by_cases hlt : k < aL.length
    · have hLr := N.out.ok.l
      rw [HAA.out.1] at hLr
      have hcv : (Value.slice A.pL aL.length A.cL) = .slice apL aL.length acL := by
        have := congrArg (fun a : Array Value => a[3]?) HAA.out.2.2
        simp only [HAA.out.1] at this
        simpa using this
      rw [hcv] at hLr
      obtain ⟨-, b, off, rfl, hq, hc⟩ := rd3_cells hLr (by omega)
      obtain ⟨x, hx⟩ : ∃ x, aL[k]? = some x := ⟨_, List.getElem?_eq_getElem hlt⟩
      obtain ⟨a0, a1, a2⟩ := hc k x hx
      have HS : Hid ((aL.take (k + 1)).flatMap (lk1 l A) = (aL.take k).flatMap (lk1 l A) ++ lk1 l A x) := Lib.hid (by have h := hx; rw [← HAA.out.1] at h ⊢; exact lnk_snoc h)
      have hMl : ((aL.take k).flatMap (lk1 l A)).length ≤ k := by
        have := lnk_len l ⟨ar, 0, false, aL.take k, [], none, 0, none, 0⟩
        have h2 : lnk l (⟨A.r, 0, false, aL.take k, [], none, 0, none, 0⟩ : Ad) = (aL.take k).flatMap (lk1 l A) := rfl
        have h3 := lnk_len l (⟨A.r, 0, false, aL.take k, [], none, 0, none, 0⟩ : Ad)
        rw [h2] at h3
        simp only [List.length_take] at h3
        omega
      obtain ⟨M, hM⟩ : ∃ M, (aL.take k).flatMap (lk1 l A) = M := ⟨_, rfl⟩
      rw [hM] at N HS hMl
      clear hc hx hM hLr hcv
      obtain rfl : nv = M.length := by
        obtain ⟨p', c', e, _⟩ := own_shape N.out.own
        injection e
      have gal := World.grownBy_alloc wr (.cells #[.int .i64 x.a, .int .i64 x.b, .int .i64 x.c] 73) none
      have N1 := Lib.hid (And.intro (N.out.keep gal) (heap_alloc_new wr (.cells #[.int .i64 x.a, .int .i64 x.b, .int .i64 x.c] 73)))
      clear gal N
      go_upto_region 5 with fail
      clear a0 a1 a2
      generalize wr.alloc _ = wy at *
      obtain ⟨d0, d1, d2⟩ := row3 N1.out.2
      go_wp2_with fail
      refine (dplace_any l x.a p c _ wy N1.out.1.db (by omega)).mono ?_
      rintro e w2 ⟨i, bo, rfl, hP, hg⟩
      have N2 := Lib.hid (N1.out.1.keep hg)
      have hF := hP.fnd HP.out
      have hle := hP.le
      clear hg N1 d0 d1 d2 hP
      cases bo with
      | false =>
        have HL : Hid (lk1 l A x = []) := Lib.hid (lk1_no (hF.2 rfl))
        clear hF
        go_wp2_with fail
        exact ⟨⟨k + 1, by omega, congrArg _ (by omega), ⟨_, _, _, rfl⟩, by rw [HS.out, HL.out, List.append_nil]; exact N2⟩, by simp only [RowKit.intOf]; omega⟩
      | true =>
        obtain ⟨hi, hsm⟩ := hF.1 rfl
        obtain ⟨B, hB⟩ : ∃ B, fndA l x.a = some B := Option.isSome_iff_exists.1 hsm
        rw [hB] at hi
        have hil : i < l.length := (List.getElem?_eq_some_iff.1 hi).1
        obtain ⟨bk, hbk⟩ : ∃ b, (rcA B ar).isSome = b := ⟨_, rfl⟩
        have HL : Hid (lk1 l A x = if bk = true then [B] else []) := Lib.hid (lk1_yes hB (by rw [HAA.out.2.1]; exact hbk))
        have HB := Lib.hid (And.intro hi (List.mem_of_getElem? hi))
        have HBK := Lib.hid hbk
        obtain ⟨-, b2, off2, rfl, hq2, -⟩ := rda_cells N2.out.db (by omega)
        have i0 : (0 : Int) ≤ (i : Int) := by omega
        have i1 : (i : Int) < (l.length : Int) := by omega
        clear hF hi hsm hB hbk
        go_upto_region 7 with fail
        go_cut [10, 11] from 28 to 37 (fun u t wx => t = .bool bk ∧ Hid (LS w l (some ⟨b2, off2, none⟩) c A (.slice pv M.length cv) M wx))
        case first =>
          have HD := Lib.hid (N2.out.keep (grown_drew (grown_refl w2 none)))
          clear N2
          refine region_until2 (S := fun w' => Hid (LS w l (some ⟨b2, off2, none⟩) c A (.slice pv M.length cv) M w')) (fun j => j == 11 || j == 12) (by kernel_rfl) (HD) (fun hHeld => ?_)
          refine anyV_take (i := 0) (oi := { dst := some 29, op := Op.move (Operand.tmp 0), type := 23, pos := "database.go:179", after := #[], guard := none }) (v := ?_) rfl (by kernel_rfl) (by kernel_rfl) (by kernel_rfl) (by kernel_rfl) (by kernel_rfl) (fun _ _ _ h => h) (Or.inl ⟨by rfl, ?_⟩) hHeld ?_
          rotate_left 1
          · intro u hSu
            obtain ⟨q0, q1, q2, q3, q4⟩ := rda_at hSu.out.db HB.out.1
            have hab := hSu.out.ab
            rw [HAA.out.2.2] at hab
            obtain ⟨c0, c1, c2, c3, c4⟩ := row5 hab
            go_simp
            first | done | with_reducible rfl
          (try simp only [Act.put, List.setIfInBounds_toArray, List.set_cons_zero, List.set_cons_succ])
          refine anyV_take (i := 1) (oi := { dst := some 30, op := Op.move (Operand.tmp 8), type := 3, pos := "database.go:179", after := #[], guard := none }) (v := ?_) rfl (by kernel_rfl) (by kernel_rfl) (by kernel_rfl) (by kernel_rfl) (by kernel_rfl) (fun _ _ _ h => h) (Or.inl ⟨by rfl, ?_⟩) hHeld ?_
          rotate_left 1
          · intro u hSu
            obtain ⟨q0, q1, q2, q3, q4⟩ := rda_at hSu.out.db HB.out.1
            have hab := hSu.out.ab
            rw [HAA.out.2.2] at hab
            obtain ⟨c0, c1, c2, c3, c4⟩ := row5 hab
            go_simp
            first | done | with_reducible rfl
          (try simp only [Act.put, List.setIfInBounds_toArray, List.set_cons_zero, List.set_cons_succ])
          refine anyV_take (i := 2) (oi := { dst := some 31, op := Op.indexAddr 23 (Operand.tmp 29) (Operand.tmp 30), type := 0, pos := "database.go:179", after := #[{ on := 0, ground := Ground.data }, { on := 1, ground := Ground.data }], guard := none }) (v := ?_) rfl (by kernel_rfl) (by kernel_rfl) (by kernel_rfl) (by kernel_rfl) (by kernel_rfl) (fun _ _ _ h => h) (Or.inl ⟨by rfl, ?_⟩) hHeld ?_
          rotate_left 1
          · intro u hSu
            obtain ⟨q0, q1, q2, q3, q4⟩ := rda_at hSu.out.db HB.out.1
            have hab := hSu.out.ab
            rw [HAA.out.2.2] at hab
            obtain ⟨c0, c1, c2, c3, c4⟩ := row5 hab
            go_simp
            first | done | with_reducible rfl
          (try simp only [Act.put, List.setIfInBounds_toArray, List.set_cons_zero, List.set_cons_succ])
          refine anyV_take (i := 3) (oi := { dst := some 32, op := Op.load 38 (Operand.tmp 31), type := 38, pos := "database.go:179", after := #[{ on := 2, ground := Ground.data }], guard := none }) (v := ?_) rfl (by kernel_rfl) (by kernel_rfl) (by kernel_rfl) (by kernel_rfl) (by kernel_rfl) (fun _ _ _ h => h) (Or.inl ⟨by rfl, ?_⟩) hHeld ?_
          rotate_left 1
          · intro u hSu
            obtain ⟨q0, q1, q2, q3, q4⟩ := rda_at hSu.out.db HB.out.1
            have hab := hSu.out.ab
            rw [HAA.out.2.2] at hab
            obtain ⟨c0, c1, c2, c3, c4⟩ := row5 hab
            go_simp
            first | done | with_reducible rfl
          (try simp only [Act.put, List.setIfInBounds_toArray, List.set_cons_zero, List.set_cons_succ])
          refine anyV_take (i := 4) (oi := { dst := some 33, op := Op.fieldAddr 38 (Operand.tmp 3) 0, type := 0, pos := "database.go:179", after := #[], guard := none }) (v := ?_) rfl (by kernel_rfl) (by kernel_rfl) (by kernel_rfl) (by kernel_rfl) (by kernel_rfl) (fun _ _ _ h => h) (Or.inl ⟨by rfl, ?_⟩) hHeld ?_
          rotate_left 1
          · intro u hSu
            obtain ⟨q0, q1, q2, q3, q4⟩ := rda_at hSu.out.db HB.out.1
            have hab := hSu.out.ab
            rw [HAA.out.2.2] at hab
            obtain ⟨c0, c1, c2, c3, c4⟩ := row5 hab
            go_simp
            first | done | with_reducible rfl
          (try simp only [Act.put, List.setIfInBounds_toArray, List.set_cons_zero, List.set_cons_succ])
          refine anyV_take (i := 5) (oi := { dst := some 34, op := Op.load 3 (Operand.tmp 33), type := 3, pos := "database.go:179", after := #[{ on := 4, ground := Ground.data }], guard := none }) (v := ?_) rfl (by kernel_rfl) (by kernel_rfl) (by kernel_rfl) (by kernel_rfl) (by kernel_rfl) (fun _ _ _ h => h) (Or.inl ⟨by rfl, ?_⟩) hHeld ?_
          rotate_left 1
          · intro u hSu
            obtain ⟨q0, q1, q2, q3, q4⟩ := rda_at hSu.out.db HB.out.1
            have hab := hSu.out.ab
            rw [HAA.out.2.2] at hab
            obtain ⟨c0, c1, c2, c3, c4⟩ := row5 hab
            go_simp
            first | done | with_reducible rfl
          (try simp only [Act.put, List.setIfInBounds_toArray, List.set_cons_zero, List.set_cons_succ])
          refine anyV_ready (rs := [6, 10]) (by kernel_rfl) (by simp) ?_
          refine EachV.cons (o := { dst := some 35, op := Op.call { callee := Callee.value (Operand.func 97), args := #[Operand.tmp 32, Operand.tmp 34], argTypes := #[38, 3] }, type := 74, pos := "database.go:179", after := #[{ on := 3, ground := Ground.data }, { on := 5, ground := Ground.data }], guard := none }) rfl (fun Kz hK => ?_) (EachV.cons (o := { dst := some 10, op := Op.alloc 73, type := 0, pos := "database.go:179", after := #[], guard := none }) rfl (fun Kz hK => ?_) EachV.nil)
          · go_simp
            go_at_call 97
            refine (dreach_any B ar _ _ (hHeld.out.db.ok B HB.out.2)).mono ?_
            rintro e w5 ⟨rfl, hg⟩
            rw [HBK.out]
            have hHn := Lib.hid (hHeld.out.keep hg)
            try replace HS9 := Lib.hid (show ∀ b, b = _ → _ from fun b hb => (HS9.out b hb).keep hg)
            clear hg
            refine hK.out _ _ (fun _ _ => hHn) (fun hH2 => ?_)
            have hHeld2 := hH2 rfl hHeld
            clear hK Kz hHeld hH2
            have hHeld := hHeld2
            clear hHeld2
            (try simp only [Act.put, List.setIfInBounds_toArray, List.set_cons_zero, List.set_cons_succ])
            refine anyV_take (i := 7) (oi := { dst := some 28, op := Op.move (Operand.tmp 35), type := 74, pos := "database.go:179", after := #[{ on := 6, ground := Ground.data }], guard := none }) (v := ?_) rfl (by kernel_rfl) (by kernel_rfl) (by kernel_rfl) (by kernel_rfl) (by kernel_rfl) (fun _ _ _ h => h) (Or.inl ⟨by rfl, ?_⟩) hHeld ?_
            rotate_left 1
            · intro u hSu
              obtain ⟨q0, q1, q2, q3, q4⟩ := rda_at hSu.out.db HB.out.1
              have hab := hSu.out.ab
              rw [HAA.out.2.2] at hab
              obtain ⟨c0, c1, c2, c3, c4⟩ := row5 hab
              go_simp
              first | done | with_reducible rfl
            (try simp only [Act.put, List.setIfInBounds_toArray, List.set_cons_zero, List.set_cons_succ])
            refine anyV_take (i := 8) (oi := { dst := some 36, op := Op.extract (Operand.tmp 28) 0, type := 73, pos := "database.go:179", after := #[{ on := 7, ground := Ground.data }], guard := none }) (v := ?_) rfl (by kernel_rfl) (by kernel_rfl) (by kernel_rfl) (by kernel_rfl) (by kernel_rfl) (fun _ _ _ h => h) (Or.inl ⟨by rfl, ?_⟩) hHeld ?_
            rotate_left 1
            · intro u hSu
              obtain ⟨q0, q1, q2, q3, q4⟩ := rda_at hSu.out.db HB.out.1
              have hab := hSu.out.ab
              rw [HAA.out.2.2] at hab
              obtain ⟨c0, c1, c2, c3, c4⟩ := row5 hab
              go_simp
              first | done | with_reducible rfl
            (try simp only [Act.put, List.setIfInBounds_toArray, List.set_cons_zero, List.set_cons_succ])
            refine anyV_ready (rs := [9, 10]) (by kernel_rfl) (by simp) ?_
            refine EachV.cons (o := { dst := some 37, op := Op.extract (Operand.tmp 28) 1, type := 4, pos := "database.go:179", after := #[{ on := 7, ground := Ground.data }, { on := 11, ground := Ground.gcOnly Departure.lateStores }], guard := none }) rfl (fun Kz hK => ?_) (EachV.cons (o := { dst := some 10, op := Op.alloc 73, type := 0, pos := "database.go:179", after := #[], guard := none }) rfl (fun Kz hK => ?_) EachV.nil)
            · go_simp
              refine hK.out _ _ (fun _ h => h) (fun _ => ?_)
              clear hK Kz
              (try simp only [Act.put, List.setIfInBounds_toArray, List.set_cons_zero, List.set_cons_succ])
              refine anyV_ready (rs := [10]) (by kernel_rfl) (by simp) ?_
              refine EachV.cons (o := { dst := some 10, op := Op.alloc 73, type := 0, pos := "database.go:179", after := #[], guard := none }) rfl (fun Kz hK => ?_) EachV.nil
              go_simp
              try have HE2 := Lib.hid (hHeld.out.keep (World.grownBy_alloc _ (.cells #[.int .i64 (rcV B ar).a, .int .i64 (rcV B ar).b, .int .i64 (rcV B ar).c] 73) none))
              have HSN := hHeld.out.nr
              have hHn := Lib.hid (hHeld.out.keep (World.grownBy_alloc _ (.cells #[.int .i64 0, .int .i64 0, .int .i64 0] 73) none))
              have HS9 := Lib.hid HSN
              clear HSN
              refine hK.out _ _ (fun _ _ => hHn) (fun hH2 => ?_)
              have hHeld2 := hH2 rfl hHeld
              clear hK Kz hHeld hH2
              have hHeld := hHeld2
              clear hHeld2
              (try simp only [Act.put, List.setIfInBounds_toArray, List.set_cons_zero, List.set_cons_succ])
              refine anyV_ready (rs := [11]) (by kernel_rfl) (by simp) ?_
              refine EachV.cons (o := { dst := none, op := Op.store 73 (Operand.tmp 10) (Operand.tmp 36), type := 0, pos := "database.go:179", after := #[{ on := 10, ground := Ground.data }, { on := 8, ground := Ground.data }, { on := 6, ground := Ground.chain }, { on := 0, ground := Ground.phase }, { on := 1, ground := Ground.phase }, { on := 2, ground := Ground.phase }, { on := 3, ground := Ground.phase }, { on := 4, ground := Ground.phase }, { on := 5, ground := Ground.phase }, { on := 6, ground := Ground.phase }, { on := 7, ground := Ground.phase }, { on := 8, ground := Ground.phase }, { on := 9, ground := Ground.textOnly Departure.lateStores }, { on := 10, ground := Ground.phase }], guard := none }) rfl (fun Kz hK => ?_) EachV.nil
              have hna := HS9.out _ (by first | rfl | simp)
              obtain ⟨k0, k1, k2⟩ := row3 hna.ab
              have f0 := frozen_of_row _ _ 0 _ _ hna.ab
              have f1 := frozen_of_row _ _ 1 _ _ hna.ab
              have f2 := frozen_of_row _ _ 2 _ _ hna.ab
              try (have hna2 : NR w _ w2.heap.size _ := hna; obtain ⟨j0, j1, j2⟩ := row3 hna2.ab; have g0 := frozen_of_row _ _ 0 _ _ hna2.ab; have g1 := frozen_of_row _ _ 1 _ _ hna2.ab; have g2 := frozen_of_row _ _ 2 _ _ hna2.ab)
              have HE := Lib.hid (hHeld.out.put hna (rcV B ar).a (rcV B ar).b (rcV B ar).c)
              go_simp
              refine hK.out _ _ (fun h => by cases h) (fun _ => ?_)
              clear hK Kz
              (try simp only [Act.put, List.setIfInBounds_toArray, List.set_cons_zero, List.set_cons_succ])
              refine anyV_ready (rs := [12]) (by kernel_rfl) (by simp) ?_
              refine EachV.cons (o := { dst := some 11, op := Op.assign (Operand.tmp 37), type := 4, pos := "database.go:179", after := #[{ on := 9, ground := Ground.data }, { on := 11, ground := Ground.chain }, { on := 0, ground := Ground.phase }, { on := 1, ground := Ground.phase }, { on := 2, ground := Ground.phase }, { on := 3, ground := Ground.phase }, { on := 4, ground := Ground.phase }, { on := 5, ground := Ground.phase }, { on := 6, ground := Ground.phase }, { on := 7, ground := Ground.phase }, { on := 8, ground := Ground.phase }, { on := 9, ground := Ground.phase }, { on := 10, ground := Ground.phase }, { on := 11, ground := Ground.phase }], guard := none }) rfl (fun Kz hK => ?_) EachV.nil
              go_simp
              refine hK.out _ _ (fun h => by cases h) (fun _ => ?_)
              clear hK Kz
              (try simp only [Act.put, List.setIfInBounds_toArray, List.set_cons_zero, List.set_cons_succ])
              refine anyV_done (by kernel_rfl) ?_ _
              clear HD HS9
              go_wp2_with fail
              go_meet
              first | exact ⟨rfl, HE⟩ | exact ⟨rfl, HE2⟩
            · go_simp
              try have HE2 := Lib.hid (hHeld.out.keep (World.grownBy_alloc _ (.cells #[.int .i64 (rcV B ar).a, .int .i64 (rcV B ar).b, .int .i64 (rcV B ar).c] 73) none))
              have HSN := hHeld.out.nr
              have hHn := Lib.hid (hHeld.out.keep (World.grownBy_alloc _ (.cells #[.int .i64 0, .int .i64 0, .int .i64 0] 73) none))
              have HS9 := Lib.hid HSN
              clear HSN
              refine hK.out _ _ (fun _ _ => hHn) (fun hH2 => ?_)
              have hHeld2 := hH2 rfl hHeld
              clear hK Kz hHeld hH2
              have hHeld := hHeld2
              clear hHeld2
              (try simp only [Act.put, List.setIfInBounds_toArray, List.set_cons_zero, List.set_cons_succ])
              refine anyV_ready (rs := [9, 11]) (by kernel_rfl) (by simp) ?_
              refine EachV.cons (o := { dst := some 37, op := Op.extract (Operand.tmp 28) 1, type := 4, pos := "database.go:179", after := #[{ on := 7, ground := Ground.data }, { on := 11, ground := Ground.gcOnly Departure.lateStores }], guard := none }) rfl (fun Kz hK => ?_) (EachV.cons (o := { dst := none, op := Op.store 73 (Operand.tmp 10) (Operand.tmp 36), type := 0, pos := "database.go:179", after := #[{ on := 10, ground := Ground.data }, { on := 8, ground := Ground.data }, { on := 6, ground := Ground.chain }, { on := 0, ground := Ground.phase }, { on := 1, ground := Ground.phase }, { on := 2, ground := Ground.phase }, { on := 3, ground := Ground.phase }, { on := 4, ground := Ground.phase }, { on := 5, ground := Ground.phase }, { on := 6, ground := Ground.phase }, { on := 7, ground := Ground.phase }, { on := 8, ground := Ground.phase }, { on := 9, ground := Ground.textOnly Departure.lateStores }, { on := 10, ground := Ground.phase }], guard := none }) rfl (fun Kz hK => ?_) EachV.nil)
              · go_simp
                refine hK.out _ _ (fun _ h => h) (fun _ => ?_)
                clear hK Kz
                (try simp only [Act.put, List.setIfInBounds_toArray, List.set_cons_zero, List.set_cons_succ])
                refine anyV_ready (rs := [11]) (by kernel_rfl) (by simp) ?_
                refine EachV.cons (o := { dst := none, op := Op.store 73 (Operand.tmp 10) (Operand.tmp 36), type := 0, pos := "database.go:179", after := #[{ on := 10, ground := Ground.data }, { on := 8, ground := Ground.data }, { on := 6, ground := Ground.chain }, { on := 0, ground := Ground.phase }, { on := 1, ground := Ground.phase }, { on := 2, ground := Ground.phase }, { on := 3, ground := Ground.phase }, { on := 4, ground := Ground.phase }, { on := 5, ground := Ground.phase }, { on := 6, ground := Ground.phase }, { on := 7, ground := Ground.phase }, { on := 8, ground := Ground.phase }, { on := 9, ground := Ground.textOnly Departure.lateStores }, { on := 10, ground := Ground.phase }], guard := none }) rfl (fun Kz hK => ?_) EachV.nil
                have hna := HS9.out _ (by first | rfl | simp)
                obtain ⟨k0, k1, k2⟩ := row3 hna.ab
                have f0 := frozen_of_row _ _ 0 _ _ hna.ab
                have f1 := frozen_of_row _ _ 1 _ _ hna.ab
                have f2 := frozen_of_row _ _ 2 _ _ hna.ab
                try (have hna2 : NR w _ w2.heap.size _ := hna; obtain ⟨j0, j1, j2⟩ := row3 hna2.ab; have g0 := frozen_of_row _ _ 0 _ _ hna2.ab; have g1 := frozen_of_row _ _ 1 _ _ hna2.ab; have g2 := frozen_of_row _ _ 2 _ _ hna2.ab)
                have HE := Lib.hid (hHeld.out.put hna (rcV B ar).a (rcV B ar).b (rcV B ar).c)
                go_simp
                refine hK.out _ _ (fun h => by cases h) (fun _ => ?_)
                clear hK Kz
                (try simp only [Act.put, List.setIfInBounds_toArray, List.set_cons_zero, List.set_cons_succ])
                refine anyV_ready (rs := [12]) (by kernel_rfl) (by simp) ?_
                refine EachV.cons (o := { dst := some 11, op := Op.assign (Operand.tmp 37), type := 4, pos := "database.go:179", after := #[{ on := 9, ground := Ground.data }, { on := 11, ground := Ground.chain }, { on := 0, ground := Ground.phase }, { on := 1, ground := Ground.phase }, { on := 2, ground := Ground.phase }, { on := 3, ground := Ground.phase }, { on := 4, ground := Ground.phase }, { on := 5, ground := Ground.phase }, { on := 6, ground := Ground.phase }, { on := 7, ground := Ground.phase }, { on := 8, ground := Ground.phase }, { on := 9, ground := Ground.phase }, { on := 10, ground := Ground.phase }, { on := 11, ground := Ground.phase }], guard := none }) rfl (fun Kz hK => ?_) EachV.nil
                go_simp
                refine hK.out _ _ (fun h => by cases h) (fun _ => ?_)
                clear hK Kz
                (try simp only [Act.put, List.setIfInBounds_toArray, List.set_cons_zero, List.set_cons_succ])
                refine anyV_done (by kernel_rfl) ?_ _
                clear HD HS9
                go_wp2_with fail
                go_meet
                first | exact ⟨rfl, HE⟩ | exact ⟨rfl, HE2⟩
              · have hna := HS9.out _ (by first | rfl | simp)
                obtain ⟨k0, k1, k2⟩ := row3 hna.ab
                have f0 := frozen_of_row _ _ 0 _ _ hna.ab
                have f1 := frozen_of_row _ _ 1 _ _ hna.ab
                have f2 := frozen_of_row _ _ 2 _ _ hna.ab
                try (have hna2 : NR w _ w2.heap.size _ := hna; obtain ⟨j0, j1, j2⟩ := row3 hna2.ab; have g0 := frozen_of_row _ _ 0 _ _ hna2.ab; have g1 := frozen_of_row _ _ 1 _ _ hna2.ab; have g2 := frozen_of_row _ _ 2 _ _ hna2.ab)
                have HE := Lib.hid (hHeld.out.put hna (rcV B ar).a (rcV B ar).b (rcV B ar).c)
                go_simp
                refine hK.out _ _ (fun h => by cases h) (fun _ => ?_)
                clear hK Kz
                (try simp only [Act.put, List.setIfInBounds_toArray, List.set_cons_zero, List.set_cons_succ])
                refine anyV_ready (rs := [9]) (by kernel_rfl) (by simp) ?_
                refine EachV.cons (o := { dst := some 37, op := Op.extract (Operand.tmp 28) 1, type := 4, pos := "database.go:179", after := #[{ on := 7, ground := Ground.data }, { on := 11, ground := Ground.gcOnly Departure.lateStores }], guard := none }) rfl (fun Kz hK => ?_) EachV.nil
                go_simp
                refine hK.out _ _ (fun _ h => h) (fun _ => ?_)
                clear hK Kz
                (try simp only [Act.put, List.setIfInBounds_toArray, List.set_cons_zero, List.set_cons_succ])
                refine anyV_ready (rs := [12]) (by kernel_rfl) (by simp) ?_
                refine EachV.cons (o := { dst := some 11, op := Op.assign (Operand.tmp 37), type := 4, pos := "database.go:179", after := #[{ on := 9, ground := Ground.data }, { on := 11, ground := Ground.chain }, { on := 0, ground := Ground.phase }, { on := 1, ground := Ground.phase }, { on := 2, ground := Ground.phase }, { on := 3, ground := Ground.phase }, { on := 4, ground := Ground.phase }, { on := 5, ground := Ground.phase }, { on := 6, ground := Ground.phase }, { on := 7, ground := Ground.phase }, { on := 8, ground := Ground.phase }, { on := 9, ground := Ground.phase }, { on := 10, ground := Ground.phase }, { on := 11, ground := Ground.phase }], guard := none }) rfl (fun Kz hK => ?_) EachV.nil
                go_simp
                refine hK.out _ _ (fun h => by cases h) (fun _ => ?_)
                clear hK Kz
                (try simp only [Act.put, List.setIfInBounds_toArray, List.set_cons_zero, List.set_cons_succ])
                refine anyV_done (by kernel_rfl) ?_ _
                clear HD HS9
                go_wp2_with fail
                go_meet
                first | exact ⟨rfl, HE⟩ | exact ⟨rfl, HE2⟩
          · go_simp
            try have HE2 := Lib.hid (hHeld.out.keep (World.grownBy_alloc _ (.cells #[.int .i64 (rcV B ar).a, .int .i64 (rcV B ar).b, .int .i64 (rcV B ar).c] 73) none))
            have HSN := hHeld.out.nr
            have hHn := Lib.hid (hHeld.out.keep (World.grownBy_alloc _ (.cells #[.int .i64 0, .int .i64 0, .int .i64 0] 73) none))
            have HS9 := Lib.hid HSN
            clear HSN
            refine hK.out _ _ (fun _ _ => hHn) (fun hH2 => ?_)
            have hHeld2 := hH2 rfl hHeld
            clear hK Kz hHeld hH2
            have hHeld := hHeld2
            clear hHeld2
            (try simp only [Act.put, List.setIfInBounds_toArray, List.set_cons_zero, List.set_cons_succ])
            refine anyV_ready (rs := [6]) (by kernel_rfl) (by simp) ?_
            refine EachV.cons (o := { dst := some 35, op := Op.call { callee := Callee.value (Operand.func 97), args := #[Operand.tmp 32, Operand.tmp 34], argTypes := #[38, 3] }, type := 74, pos := "database.go:179", after := #[{ on := 3, ground := Ground.data }, { on := 5, ground := Ground.data }], guard := none }) rfl (fun Kz hK => ?_) EachV.nil
            go_simp
            go_at_call 97
            refine (dreach_any B ar _ _ (hHeld.out.db.ok B HB.out.2)).mono ?_
            rintro e w5 ⟨rfl, hg⟩
            rw [HBK.out]
            have hHn := Lib.hid (hHeld.out.keep hg)
            try replace HS9 := Lib.hid (show ∀ b, b = _ → _ from fun b hb => (HS9.out b hb).keep hg)
            clear hg
            refine hK.out _ _ (fun _ _ => hHn) (fun hH2 => ?_)
            have hHeld2 := hH2 rfl hHeld
            clear hK Kz hHeld hH2
            have hHeld := hHeld2
            clear hHeld2
            (try simp only [Act.put, List.setIfInBounds_toArray, List.set_cons_zero, List.set_cons_succ])
            refine anyV_take (i := 7) (oi := { dst := some 28, op := Op.move (Operand.tmp 35), type := 74, pos := "database.go:179", after := #[{ on := 6, ground := Ground.data }], guard := none }) (v := ?_) rfl (by kernel_rfl) (by kernel_rfl) (by kernel_rfl) (by kernel_rfl) (by kernel_rfl) (fun _ _ _ h => h) (Or.inl ⟨by rfl, ?_⟩) hHeld ?_
            rotate_left 1
            · intro u hSu
              obtain ⟨q0, q1, q2, q3, q4⟩ := rda_at hSu.out.db HB.out.1
              have hab := hSu.out.ab
              rw [HAA.out.2.2] at hab
              obtain ⟨c0, c1, c2, c3, c4⟩ := row5 hab
              go_simp
              first | done | with_reducible rfl
            (try simp only [Act.put, List.setIfInBounds_toArray, List.set_cons_zero, List.set_cons_succ])
            refine anyV_take (i := 8) (oi := { dst := some 36, op := Op.extract (Operand.tmp 28) 0, type := 73, pos := "database.go:179", after := #[{ on := 7, ground := Ground.data }], guard := none }) (v := ?_) rfl (by kernel_rfl) (by kernel_rfl) (by kernel_rfl) (by kernel_rfl) (by kernel_rfl) (fun _ _ _ h => h) (Or.inl ⟨by rfl, ?_⟩) hHeld ?_
            rotate_left 1
            · intro u hSu
              obtain ⟨q0, q1, q2, q3, q4⟩ := rda_at hSu.out.db HB.out.1
              have hab := hSu.out.ab
              rw [HAA.out.2.2] at hab
              obtain ⟨c0, c1, c2, c3, c4⟩ := row5 hab
              go_simp
              first | done | with_reducible rfl
            (try simp only [Act.put, List.setIfInBounds_toArray, List.set_cons_zero, List.set_cons_succ])
            refine anyV_ready (rs := [9, 11]) (by kernel_rfl) (by simp) ?_
            refine EachV.cons (o := { dst := some 37, op := Op.extract (Operand.tmp 28) 1, type := 4, pos := "database.go:179", after := #[{ on := 7, ground := Ground.data }, { on := 11, ground := Ground.gcOnly Departure.lateStores }], guard := none }) rfl (fun Kz hK => ?_) (EachV.cons (o := { dst := none, op := Op.store 73 (Operand.tmp 10) (Operand.tmp 36), type := 0, pos := "database.go:179", after := #[{ on := 10, ground := Ground.data }, { on := 8, ground := Ground.data }, { on := 6, ground := Ground.chain }, { on := 0, ground := Ground.phase }, { on := 1, ground := Ground.phase }, { on := 2, ground := Ground.phase }, { on := 3, ground := Ground.phase }, { on := 4, ground := Ground.phase }, { on := 5, ground := Ground.phase }, { on := 6, ground := Ground.phase }, { on := 7, ground := Ground.phase }, { on := 8, ground := Ground.phase }, { on := 9, ground := Ground.textOnly Departure.lateStores }, { on := 10, ground := Ground.phase }], guard := none }) rfl (fun Kz hK => ?_) EachV.nil)
            · go_simp
              refine hK.out _ _ (fun _ h => h) (fun _ => ?_)
              clear hK Kz
              (try simp only [Act.put, List.setIfInBounds_toArray, List.set_cons_zero, List.set_cons_succ])
              refine anyV_ready (rs := [11]) (by kernel_rfl) (by simp) ?_
              refine EachV.cons (o := { dst := none, op := Op.store 73 (Operand.tmp 10) (Operand.tmp 36), type := 0, pos := "database.go:179", after := #[{ on := 10, ground := Ground.data }, { on := 8, ground := Ground.data }, { on := 6, ground := Ground.chain }, { on := 0, ground := Ground.phase }, { on := 1, ground := Ground.phase }, { on := 2, ground := Ground.phase }, { on := 3, ground := Ground.phase }, { on := 4, ground := Ground.phase }, { on := 5, ground := Ground.phase }, { on := 6, ground := Ground.phase }, { on := 7, ground := Ground.phase }, { on := 8, ground := Ground.phase }, { on := 9, ground := Ground.textOnly Departure.lateStores }, { on := 10, ground := Ground.phase }], guard := none }) rfl (fun Kz hK => ?_) EachV.nil
              have hna := HS9.out _ (by first | rfl | simp)
              obtain ⟨k0, k1, k2⟩ := row3 hna.ab
              have f0 := frozen_of_row _ _ 0 _ _ hna.ab
              have f1 := frozen_of_row _ _ 1 _ _ hna.ab
              have f2 := frozen_of_row _ _ 2 _ _ hna.ab
              try (have hna2 : NR w _ w2.heap.size _ := hna; obtain ⟨j0, j1, j2⟩ := row3 hna2.ab; have g0 := frozen_of_row _ _ 0 _ _ hna2.ab; have g1 := frozen_of_row _ _ 1 _ _ hna2.ab; have g2 := frozen_of_row _ _ 2 _ _ hna2.ab)
              have HE := Lib.hid (hHeld.out.put hna (rcV B ar).a (rcV B ar).b (rcV B ar).c)
              go_simp
              refine hK.out _ _ (fun h => by cases h) (fun _ => ?_)
              clear hK Kz
              (try simp only [Act.put, List.setIfInBounds_toArray, List.set_cons_zero, List.set_cons_succ])
              refine anyV_ready (rs := [12]) (by kernel_rfl) (by simp) ?_
              refine EachV.cons (o := { dst := some 11, op := Op.assign (Operand.tmp 37), type := 4, pos := "database.go:179", after := #[{ on := 9, ground := Ground.data }, { on := 11, ground := Ground.chain }, { on := 0, ground := Ground.phase }, { on := 1, ground := Ground.phase }, { on := 2, ground := Ground.phase }, { on := 3, ground := Ground.phase }, { on := 4, ground := Ground.phase }, { on := 5, ground := Ground.phase }, { on := 6, ground := Ground.phase }, { on := 7, ground := Ground.phase }, { on := 8, ground := Ground.phase }, { on := 9, ground := Ground.phase }, { on := 10, ground := Ground.phase }, { on := 11, ground := Ground.phase }], guard := none }) rfl (fun Kz hK => ?_) EachV.nil
              go_simp
              refine hK.out _ _ (fun h => by cases h) (fun _ => ?_)
              clear hK Kz
              (try simp only [Act.put, List.setIfInBounds_toArray, List.set_cons_zero, List.set_cons_succ])
              refine anyV_done (by kernel_rfl) ?_ _
              clear HD HS9
              go_wp2_with fail
              go_meet
              first | exact ⟨rfl, HE⟩ | exact ⟨rfl, HE2⟩
            · have hna := HS9.out _ (by first | rfl | simp)
              obtain ⟨k0, k1, k2⟩ := row3 hna.ab
              have f0 := frozen_of_row _ _ 0 _ _ hna.ab
              have f1 := frozen_of_row _ _ 1 _ _ hna.ab
              have f2 := frozen_of_row _ _ 2 _ _ hna.ab
              try (have hna2 : NR w _ w2.heap.size _ := hna; obtain ⟨j0, j1, j2⟩ := row3 hna2.ab; have g0 := frozen_of_row _ _ 0 _ _ hna2.ab; have g1 := frozen_of_row _ _ 1 _ _ hna2.ab; have g2 := frozen_of_row _ _ 2 _ _ hna2.ab)
              have HE := Lib.hid (hHeld.out.put hna (rcV B ar).a (rcV B ar).b (rcV B ar).c)
              go_simp
              refine hK.out _ _ (fun h => by cases h) (fun _ => ?_)
              clear hK Kz
              (try simp only [Act.put, List.setIfInBounds_toArray, List.set_cons_zero, List.set_cons_succ])
              refine anyV_ready (rs := [9]) (by kernel_rfl) (by simp) ?_
              refine EachV.cons (o := { dst := some 37, op := Op.extract (Operand.tmp 28) 1, type := 4, pos := "database.go:179", after := #[{ on := 7, ground := Ground.data }, { on := 11, ground := Ground.gcOnly Departure.lateStores }], guard := none }) rfl (fun Kz hK => ?_) EachV.nil
              go_simp
              refine hK.out _ _ (fun _ h => h) (fun _ => ?_)
              clear hK Kz
              (try simp only [Act.put, List.setIfInBounds_toArray, List.set_cons_zero, List.set_cons_succ])
              refine anyV_ready (rs := [12]) (by kernel_rfl) (by simp) ?_
              refine EachV.cons (o := { dst := some 11, op := Op.assign (Operand.tmp 37), type := 4, pos := "database.go:179", after := #[{ on := 9, ground := Ground.data }, { on := 11, ground := Ground.chain }, { on := 0, ground := Ground.phase }, { on := 1, ground := Ground.phase }, { on := 2, ground := Ground.phase }, { on := 3, ground := Ground.phase }, { on := 4, ground := Ground.phase }, { on := 5, ground := Ground.phase }, { on := 6, ground := Ground.phase }, { on := 7, ground := Ground.phase }, { on := 8, ground := Ground.phase }, { on := 9, ground := Ground.phase }, { on := 10, ground := Ground.phase }, { on := 11, ground := Ground.phase }], guard := none }) rfl (fun Kz hK => ?_) EachV.nil
              go_simp
              refine hK.out _ _ (fun h => by cases h) (fun _ => ?_)
              clear hK Kz
              (try simp only [Act.put, List.setIfInBounds_toArray, List.set_cons_zero, List.set_cons_succ])
              refine anyV_done (by kernel_rfl) ?_ _
              clear HD HS9
              go_wp2_with fail
              go_meet
              first | exact ⟨rfl, HE⟩ | exact ⟨rfl, HE2⟩
        case rest =>
        obtain ⟨rfl, N3⟩ := hcut
        clear N2
        cases bk with
        | false =>
          go_wp2_with fail
          exact ⟨⟨k + 1, by omega, congrArg _ (by omega), ⟨_, _, _, rfl⟩, by rw [HS.out, HL.out, if_neg (by decide), List.append_nil]; exact N3⟩, by simp only [RowKit.intOf]; omega⟩
        | true =>
          obtain ⟨e0, e1, e2, e3, e4⟩ := rda_at N3.out.db HB.out.1
          have HO := Lib.hid N3.out.own
          have hsz := World.lt_of_row' N3.out.ab
          go_wp2_with (at_builtin; refine wpList_append_f adL 5 72 (by decide) adL_len ad_one 38 23 ia _ Try.underlying23 hia hz0 hz1 hz2 rfl (by decide) rfl _ _ rfl (w.heap.size + 1) _ M _ ?c0 rfl (HO.out.alloc _) (some ⟨wc.heap.size, 0, none⟩) 1 1 [B] rfl rfl (by simp) (fun _ => True) (rdf_one _ trivial (fun j u hu => by (first | exact one_rowA _ _ _ _ _ hu | (simp at hu))) 1) (by decide) (by simp; omega) (by simp; omega) ?_)
          try (case c0 => rfl)
          intro v' w9 hown hg
          have N4 := Lib.hid (N3.out.app hown hg)
          obtain ⟨p9, c9, rfl, -, -⟩ := own_shape N4.out.own
          clear hown hg HO N3 e0 e1 e2 e3 e4
          go_wp2_with fail
          exact ⟨⟨k + 1, by omega, congrArg _ (by omega), ⟨_, _, _, rfl⟩, by rw [HS.out, HL.out]; first | (rw [if_pos rfl]; exact N4) | (rw [if_pos trivial]; exact N4)⟩, by simp only [RowKit.intOf]; omega⟩
    · obtain rfl : k = aL.length := by omega
      have hN := N.out
      rw [List.take_length] at hN
      have e : lnk l A = aL.flatMap (lk1 l A) := by unfold lnk; rw [HAA.out.1]
      rw [← e] at hN
      obtain ⟨p9, c9, he, h1, h2⟩ := own_shape hN.own
      injection he with he1 he2 he3
      subst he1 he2 he3
      have H9 : Hid (LnkPost (lnk l A) w (.returned (.slice pv (lnk l A).length cv)) wr) := Lib.hid ⟨pv, cv, rfl, (rdf_of_own2 hN.own).mono (fun b hb => by constructor <;> omega), ⟨h1, h2⟩, hN.gr⟩
      clear hN N
      go_wp2_with fail
      go_ret
      rw [← HAE.out]
      exact H9.out
end Go.Proofs.Ytnpkihioklpnmaa

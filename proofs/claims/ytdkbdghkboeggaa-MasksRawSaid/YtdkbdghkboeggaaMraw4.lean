/- Parts of the proof, packed: MaAwk, MaRRw, MaRHp, MaBit, MaRBt. -/
import Derived.Test.YtdkbdghkboeggaaMraw3
import Derived.Laws.StructEq
import Derived.Test.YtdkbdghkboeggaaMraw1
/- masks: the laws' example. -/
namespace Go.Proofs.Ytdkbdghkboeggaa
open Go.RowKit Go.Maps Bs
set_option maxRecDepth 100000 in
theorem asc_same : ∀ {l m : List Int}, l.Pairwise (· < ·) → m.Pairwise (· < ·) → (∀ x, x ∈ l ↔ x ∈ m) → l = m
  | [], [], _, _, _ => rfl
  | [], b :: m, _, _, h => by have := (h b).2 (by simp); cases this
  | a :: l, [], _, _, h => by have := (h a).1 (by simp); cases this
  | a :: l, b :: m, hl, hm, h => by
    obtain ⟨h1, h2⟩ := List.pairwise_cons.1 hl
    obtain ⟨h3, h4⟩ := List.pairwise_cons.1 hm
    have e : a = b := by
      rcases List.mem_cons.1 ((h a).1 (by simp)) with e | e
      · exact e
      · rcases List.mem_cons.1 ((h b).2 (by simp)) with e2 | e2
        · exact e2.symm
        · have := h1 b e2; have := h3 a e; omega
    subst e
    refine congrArg _ (asc_same h2 h4 fun x => ⟨fun hx => ?_, fun hx => ?_⟩)
    · rcases List.mem_cons.1 ((h x).1 (List.mem_cons_of_mem _ hx)) with e | e
      · have := h1 x hx; omega
      · exact e
    · rcases List.mem_cons.1 ((h x).2 (List.mem_cons_of_mem _ hx)) with e | e
      · have := h3 x hx; omega
      · exact e
def exT (p1 p2 : Option Addr) : List Rw := [⟨1, [2, 3], p1, 2⟩, ⟨2, [3], p2, 1⟩]
set_option maxRecDepth 100000 in
theorem ex_ck (p1 p2 : Option Addr) : ckT 1 0 8 (exT p1 p2) = 0 := by kernel_rfl
set_option maxRecDepth 100000 in
theorem ex_pl : plS 1 8 = 0 ∧ plS 2 8 = 0 := ⟨by kernel_rfl, by kernel_rfl⟩
set_option maxRecDepth 100000 in
theorem ex_nx : nxI [2, 3] 0 = 2 ∧ nxI [3] 0 = 3 ∧ nxI [2, 3] 1 = 3 ∧ nxI [3] 1 = 3 := ⟨by kernel_rfl, by kernel_rfl, by kernel_rfl, by kernel_rfl⟩
set_option maxRecDepth 100000 in
theorem ex_co0 (p1 p2 : Option Addr) : coF 1 0 8 (exT p1 p2) 0 0 = colL 8 0 0 (exT p1 p2) := by
  unfold coF
  rw [if_pos ⟨⟨by decide, by decide⟩, ex_ck p1 p2⟩]; rfl
set_option maxRecDepth 100000 in
theorem ex_co1 (p1 p2 : Option Addr) : coF 1 0 8 (exT p1 p2) 1 0 = colL 8 0 1 (exT p1 p2) := by
  unfold coF
  rw [if_pos ⟨⟨by decide, by decide⟩, ex_ck p1 p2⟩]; rfl
set_option maxRecDepth 100000 in
theorem ex_v0 (p1 p2 : Option Addr) : colL 8 0 0 (exT p1 p2) 2 = some 1 ∧ colL 8 0 0 (exT p1 p2) 3 = some 2 := ⟨by kernel_rfl, by kernel_rfl⟩
set_option maxRecDepth 100000 in
theorem ex_v1 (p1 p2 : Option Addr) : colL 8 0 1 (exT p1 p2) 3 = some 3 := by kernel_rfl
set_option maxRecDepth 100000 in
theorem ex_all0 {p1 p2 : Option Addr} {ts : List Int} (h : AscM (coF 1 0 8 (exT p1 p2) 0 0) ts) : mdL (coF 1 0 8 (exT p1 p2) 0 0) ts = [⟨2, 1⟩, ⟨3, 2⟩] := by
  rw [ex_co0] at h ⊢
  have e : ts = [2, 3] := asc_same h.asc (by decide) fun x => by
    rw [h.mem x, colL_some]
    unfold exT
    simp [ex_pl.1, ex_pl.2, ex_nx.1, ex_nx.2.1]
    omega
  subst e
  unfold mdL
  simp [(ex_v0 p1 p2).1, (ex_v0 p1 p2).2]
set_option maxRecDepth 100000 in
theorem ex_all1 {p1 p2 : Option Addr} {ts : List Int} (h : AscM (coF 1 0 8 (exT p1 p2) 1 0) ts) : mdL (coF 1 0 8 (exT p1 p2) 1 0) ts = [⟨3, 3⟩] := by
  rw [ex_co1] at h ⊢
  have e : ts = [3] := asc_same h.asc (by decide) fun x => by
    rw [h.mem x, colL_some]
    unfold exT
    simp [ex_pl.1, ex_pl.2, ex_nx.2.2.1, ex_nx.2.2.2]
    constructor
    · rintro ⟨h, -⟩
      exact h.symm
    · rintro h
      exact ⟨h.symm, by omega⟩
  subst e
  unfold mdL
  simp [ex_v1 p1 p2]
/-- The example's table. -/
structure EX (w : World) (B : Nat) (p1 p2 p8 : Option Addr) (u : World) : Prop where
  box : u.heap[B]? = some (.cells #[.int .i64 1, .int .i64 0, .int .i64 8, .slice p8 2 2] 24)
  rd : RdW u (· < B) p8 2 (exT p1 p2)
  gr : w.grownBy u none
set_option maxRecDepth 100000 in
theorem EX.keep {w : World} {B : Nat} {p1 p2 p8 : Option Addr} {u u1 : World} (h : EX w B p1 p2 p8 u) (g : u.grownBy u1 none) : EX w B p1 p2 p8 u1 := ⟨kept_row h.box g (by simp), h.rd.keep g, grown_trans h.gr g⟩
set_option maxRecDepth 100000 in
theorem EX.all {w : World} {B : Nat} {p1 p2 p8 : Option Addr} {u : World} (h : EX w B p1 p2 p8 u) : RdW u (· < u.heap.size) p8 2 (exT p1 p2) := by
  refine h.rd.mono fun b hb => ?_
  have hz : B < u.heap.size := by
    by_cases hz : B < u.heap.size
    · exact hz
    · have := h.box
      rw [Array.getElem?_eq_none (by omega)] at this; cases this
  exact Nat.lt_trans hb hz
set_option maxRecDepth 100000 in
theorem ex_start (w : World) : EX w (w.heap.size + 1 + 1 + 1) (some ⟨w.heap.size, 0, none⟩) (some ⟨w.heap.size + 1, 0, none⟩) (some ⟨w.heap.size + 1 + 1, 0, none⟩)
    ((((w.alloc (.cells #[.int .i64 2, .int .i64 3] 3)).alloc (.cells #[.int .i64 3] 3)).alloc (.cells #[.int .i64 1, .slice (some ⟨w.heap.size, 0, none⟩) 2 2, .int .i64 2, .slice (some ⟨w.heap.size + 1, 0, none⟩) 1 1] 28)).alloc (.cells #[.int .i64 1, .int .i64 0, .int .i64 8, .slice (some ⟨w.heap.size + 1 + 1, 0, none⟩) 2 2] 24)) := by
  obtain ⟨w1, h1⟩ : ∃ w1, w1 = w.alloc (.cells #[.int .i64 2, .int .i64 3] 3) := ⟨_, rfl⟩
  have a1 := heap_alloc_new w (.cells #[.int .i64 2, .int .i64 3] 3)
  have g1 := World.grownBy_alloc w (.cells #[.int .i64 2, .int .i64 3] 3) none
  have z1 : w1.heap.size = w.heap.size + 1 := by rw [h1]; simp
  rw [← h1] at a1 g1 ⊢
  clear h1
  obtain ⟨w2, h2⟩ : ∃ w2, w2 = w1.alloc (.cells #[.int .i64 3] 3) := ⟨_, rfl⟩
  have a2 := heap_alloc_new w1 (.cells #[.int .i64 3] 3)
  have g2 := World.grownBy_alloc w1 (.cells #[.int .i64 3] 3) none
  have z2 : w2.heap.size = w.heap.size + 1 + 1 := by rw [h2, ← z1]; simp
  rw [← h2] at a2 g2 ⊢
  rw [z1] at a2
  clear h2
  obtain ⟨w3, h3⟩ : ∃ w3, w3 = w2.alloc (.cells #[.int .i64 1, .slice (some ⟨w.heap.size, 0, none⟩) 2 2, .int .i64 2, .slice (some ⟨w.heap.size + 1, 0, none⟩) 1 1] 28) := ⟨_, rfl⟩
  have a3 := heap_alloc_new w2 (.cells #[.int .i64 1, .slice (some ⟨w.heap.size, 0, none⟩) 2 2, .int .i64 2, .slice (some ⟨w.heap.size + 1, 0, none⟩) 1 1] 28)
  have g3 := World.grownBy_alloc w2 (.cells #[.int .i64 1, .slice (some ⟨w.heap.size, 0, none⟩) 2 2, .int .i64 2, .slice (some ⟨w.heap.size + 1, 0, none⟩) 1 1] 28) none
  have z3 : w3.heap.size = w.heap.size + 1 + 1 + 1 := by rw [h3, ← z2]; simp
  rw [← h3] at a3 g3 ⊢
  rw [z2] at a3
  clear h3
  have a4 := heap_alloc_new w3 (.cells #[.int .i64 1, .int .i64 0, .int .i64 8, .slice (some ⟨w.heap.size + 1 + 1, 0, none⟩) 2 2] 24)
  have g4 := World.grownBy_alloc w3 (.cells #[.int .i64 1, .int .i64 0, .int .i64 8, .slice (some ⟨w.heap.size + 1 + 1, 0, none⟩) 2 2] 24) none
  rw [z3] at a4
  generalize w3.alloc _ = w4 at *
  have b3 := kept_row a3 g4 (by simp)
  have b2 := kept_row (kept_row a2 g3 (by simp)) g4 (by simp)
  have b1 := kept_row (kept_row (kept_row a1 g2 (by simp)) g3 (by simp)) g4 (by simp)
  refine ⟨a4, ⟨⟨_, 2, rfl, fun _ => ⟨_, _, rfl, by omega, fun i u hi => ?_⟩⟩, fun x hx => ?_⟩, grown_trans (grown_trans (grown_trans g1 g2) g3) g4⟩
  · rw [Nat.zero_add, cell_of_row _ _ _ _ _ _ b3]
    simpa [exT, rwC] using hi
  · unfold exT at hx
    simp only [List.mem_cons, List.not_mem_nil, or_false] at hx
    rcases hx with rfl | rfl
    · refine ⟨⟨_, 2, rfl, fun _ => ⟨_, _, rfl, by omega, fun i u hi => ?_⟩⟩, ⟨by show 2 ≤ 2; decide, by show 2 ≤ 9223372036854775807; decide⟩⟩
      rw [Nat.zero_add, cell_of_row _ _ _ _ _ _ b1]
      simpa [tv] using hi
    · refine ⟨⟨_, 1, rfl, fun _ => ⟨_, _, rfl, by omega, fun i u hi => ?_⟩⟩, ⟨by show 1 ≤ 1; decide, by show 1 ≤ 9223372036854775807; decide⟩⟩
      rw [Nat.zero_add, cell_of_row _ _ _ _ _ _ b2]
      simpa [tv] using hi
set_option maxRecDepth 100000 in
set_option maxHeartbeats 6400000 in
theorem mawake_any (w : World) :
    Calls Try.prog 8 #[] w fun e w' => e = .returned (.bool true) ∧ w.grownBy w' none := by
  have H0 := Lib.hid (ex_start w)
  go_enter Try.func8, Try.ntmps8
  go_upto_region 2 with fail
  generalize (((w.alloc _).alloc _).alloc _).alloc _ = w4 at *
  generalize (some (⟨w.heap.size, 0, none⟩ : Addr)) = p1 at *
  generalize (some (⟨w.heap.size + 1, 0, none⟩ : Addr)) = p2 at *
  generalize w.heap.size + 1 + 1 + 1 = B at *
  generalize (some (⟨w.heap.size + 1 + 1, 0, none⟩ : Addr)) = p8 at *
  refine wp_region_held_drew (S := fun w' => Hid (EX w B p1 p2 p8 w')) (by kernel_rfl) (Lib.hid (H0.out.keep (grown_drew (grown_refl _ none)))) (fun hHeld => ?_)
  refine wpAnyH_take (i := 0) (oi := { dst := some 10, op := Op.load 24 (Operand.tmp 1), type := 24, pos := "law.go:18", after := #[], guard := none }) (v := ?_) rfl (by kernel_rfl) (by kernel_rfl) (by kernel_rfl) (fun _ _ _ h => h) (Or.inl ⟨by rfl, ?_⟩) hHeld ?_
  rotate_left 1
  · intro u hSu
    obtain ⟨d0, d1, d2, d3⟩ := row4T hSu.out.box
    go_simp
    first | done | with_reducible rfl
  (try simp only [Act.put, List.setIfInBounds_toArray, List.set_cons_zero, List.set_cons_succ])
  refine wpAnyH_take (i := 2) (oi := { dst := some 12, op := Op.load 24 (Operand.tmp 1), type := 24, pos := "law.go:18", after := #[], guard := none }) (v := ?_) rfl (by kernel_rfl) (by kernel_rfl) (by kernel_rfl) (fun _ _ _ h => h) (Or.inl ⟨by rfl, ?_⟩) hHeld ?_
  rotate_left 1
  · intro u hSu
    obtain ⟨d0, d1, d2, d3⟩ := row4T hSu.out.box
    go_simp
    first | done | with_reducible rfl
  (try simp only [Act.put, List.setIfInBounds_toArray, List.set_cons_zero, List.set_cons_succ])
  refine wpAnyH_ready (rs := [1]) (by kernel_rfl) (by simp) ?_
  refine AllReadyH.cons (o := { dst := some 11, op := Op.call { callee := Callee.value (Operand.func 16), args := #[Operand.tmp 10, Operand.const (Value.int IntKind.i64 0), Operand.const (Value.int IntKind.i64 0)], argTypes := #[24, 3, 3] }, type := 34, pos := "law.go:18", after := #[{ on := 0, ground := Ground.data }], guard := none }) rfl (fun Kz hK => ?_) AllReadyH.nil
  go_simp
  go_at_call 16
  refine (mall_any 1 0 8 p8 2 (exT p1 p2) 0 0 _ hHeld.out.all (by show 2 ≤ 9223372036854775807; decide)).mono ?_
  rintro e w5 ⟨ts, q5, r5, rfl, hA, ho, hg⟩
  rw [ex_all0 hA] at ho ⊢
  have HN := Lib.hid (hHeld.out.keep hg)
  have HR5 := Lib.hid (rdf_of_own ho)
  clear hA ho hg
  refine hK.out _ _ (HN) (fun hH2 => ?_)
  clear hK Kz hHeld
  have hHeld := hH2
  clear hH2
  (try simp only [Act.put, List.setIfInBounds_toArray, List.set_cons_zero, List.set_cons_succ])
  refine wpAnyH_ready (rs := [3]) (by kernel_rfl) (by simp) ?_
  refine AllReadyH.cons (o := { dst := some 13, op := Op.call { callee := Callee.value (Operand.func 16), args := #[Operand.tmp 12, Operand.const (Value.int IntKind.i64 1), Operand.const (Value.int IntKind.i64 0)], argTypes := #[24, 3, 3] }, type := 34, pos := "law.go:18", after := #[{ on := 2, ground := Ground.data }, { on := 1, ground := Ground.chain }], guard := none }) rfl (fun Kz hK => ?_) AllReadyH.nil
  go_simp
  go_at_call 16
  refine (mall_any 1 0 8 p8 2 (exT p1 p2) 1 0 _ hHeld.out.all (by show 2 ≤ 9223372036854775807; decide)).mono ?_
  rintro e w6 ⟨ts, q6, r6, rfl, hA, ho, hg⟩
  rw [ex_all1 hA] at ho ⊢
  have HN := Lib.hid (hHeld.out.keep hg)
  have HP := Lib.hid (HR5.out.keep hg)
  have HR6 := Lib.hid (rdf_of_own ho)
  clear hA ho hg
  refine hK.out _ _ (HN) (fun hH2 => ?_)
  clear hK Kz hHeld
  have hHeld := hH2
  clear hH2
  (try simp only [Act.put, List.setIfInBounds_toArray, List.set_cons_zero, List.set_cons_succ])
  refine wpAnyH_take (i := 4) (oi := { dst := some 2, op := Op.assign (Operand.tmp 11), type := 34, pos := "law.go:18", after := #[{ on := 1, ground := Ground.data }, { on := 3, ground := Ground.chain }, { on := 0, ground := Ground.phase }, { on := 1, ground := Ground.phase }, { on := 2, ground := Ground.textOnly Departure.lateStores }, { on := 3, ground := Ground.textOnly Departure.lateStoresUnsure }], guard := none }) (v := ?_) rfl (by kernel_rfl) (by kernel_rfl) (by kernel_rfl) (fun _ _ _ h => h) (Or.inl ⟨by rfl, ?_⟩) hHeld ?_
  rotate_left 1
  · intro u hSu
    obtain ⟨d0, d1, d2, d3⟩ := row4T hSu.out.box
    go_simp
    first | done | with_reducible rfl
  (try simp only [Act.put, List.setIfInBounds_toArray, List.set_cons_zero, List.set_cons_succ])
  refine wpAnyH_take (i := 5) (oi := { dst := some 3, op := Op.assign (Operand.tmp 13), type := 34, pos := "law.go:18", after := #[{ on := 3, ground := Ground.data }, { on := 4, ground := Ground.chain }, { on := 0, ground := Ground.phase }, { on := 1, ground := Ground.phase }, { on := 2, ground := Ground.phase }, { on := 3, ground := Ground.phase }, { on := 4, ground := Ground.phase }], guard := none }) (v := ?_) rfl (by kernel_rfl) (by kernel_rfl) (by kernel_rfl) (fun _ _ _ h => h) (Or.inl ⟨by rfl, ?_⟩) hHeld ?_
  rotate_left 1
  · intro u hSu
    obtain ⟨d0, d1, d2, d3⟩ := row4T hSu.out.box
    go_simp
    first | done | with_reducible rfl
  (try simp only [Act.put, List.setIfInBounds_toArray, List.set_cons_zero, List.set_cons_succ])
  refine wpAnyH_done (by kernel_rfl) ?_ _
  clear H0
  obtain ⟨-, g1, o1, rfl, -, hE⟩ := RdF.cells (f := mdC) (k := 2) (fun _ => rfl) (by decide) HP.out (by decide)
  obtain ⟨-, g2, o2, rfl, -, hO⟩ := RdF.cells (f := mdC) (k := 2) (fun _ => rfl) (by decide) HR6.out (by decide)
  have e0 : w6.cell? ⟨g1, o1, none⟩ = some (.int .i64 2) := hE 0 _ rfl 0 _ rfl
  have e1 : w6.cell? ⟨g1, o1 + 1, none⟩ = some (.int .u64 1) := hE 0 _ rfl 1 _ rfl
  have e2 : w6.cell? ⟨g1, o1 + 2, none⟩ = some (.int .i64 3) := hE 1 _ rfl 0 _ rfl
  have e3 : w6.cell? ⟨g1, o1 + 2 + 1, none⟩ = some (.int .u64 2) := hE 1 _ rfl 1 _ rfl
  have f0 : w6.cell? ⟨g2, o2, none⟩ = some (.int .i64 3) := hO 0 _ rfl 0 _ rfl
  have f1 : w6.cell? ⟨g2, o2 + 1, none⟩ = some (.int .u64 3) := hO 0 _ rfl 1 _ rfl
  clear hE hO HP HR6 HR5
  go_wp2_with fail
  go_ret
  exact ⟨rfl, hHeld.out.gr⟩
end Go.Proofs.Ytdkbdghkboeggaa

/- tables, the reference's functions: inside, plane, Row, Hop. -/
namespace Go.Proofs.Ytdkbdghkboeggaa
open Go.RowKit Go.Maps Bs
set_option maxRecDepth 100000 in
theorem rin11_any (n lo hi : Int) (w : World) :
    Calls Try.prog 45 #[.int .i64 n, .int .i64 lo, .int .i64 hi] w fun e w' => e = .returned (.bool (inV n lo hi)) ∧ w = w' := by
  have HV : Hid (inV n lo hi = (decide (lo ≤ n) && decide (n ≤ hi))) := Lib.hid (by unfold inV; rw [Bool.decide_and])
  go_enter Try.func45, Try.ntmps45
  by_cases h1 : lo ≤ n
  · go_wp2_with fail
    go_ret
    exact ⟨by rw [HV.out]; simp [h1], rfl⟩
  · go_wp2_with fail
    go_ret
    exact ⟨by rw [HV.out]; simp; omega, rfl⟩
set_option maxRecDepth 100000 in
theorem rpl12_any (k : Int) (w : World) :
    Calls Try.prog 33 #[.int .i64 k] w fun e w' => e = .returned (.bool (decide (0 ≤ k) && decide (k < 8))) ∧ w = w' := by
  go_enter Try.func33, Try.ntmps33
  by_cases h1 : 0 ≤ k
  · go_wp2_with fail
    go_ret
    exact ⟨by simp [h1], rfl⟩
  · go_wp2_with fail
    go_ret
    exact ⟨by simp; omega, rfl⟩
def isW (id : Int) (x : Rw) : Bool := decide (x.id = id)
def fdW (L : List Rw) (id : Int) : Option Rw := L.find? (isW id)
def zRw : Rw := ⟨0, [], none, 0⟩
set_option maxRecDepth 100000 in
theorem fw_take {L : List Rw} {r : Int} {k : Nat} {x : Rw} (h : (L.take k).find? (isW r) = none) (hx : L[k]? = some x) : (L.take (k + 1)).find? (isW r) = if x.id = r then some x else none := by
  rw [List.take_add_one, hx, List.find?_append, h]
  unfold isW
  by_cases e : x.id = r <;> simp [e]
set_option maxRecDepth 100000 in
theorem fw_hit {L : List Rw} {r : Int} {k : Nat} {x : Rw} (h : (L.take k).find? (isW r) = none) (hx : L[k]? = some x) (e : x.id = r) : fdW L r = some x := by
  unfold fdW
  have h2 := fw_take h hx
  rw [if_pos e] at h2
  rw [← List.take_append_drop (k + 1) L, List.find?_append, h2]
  rfl
set_option maxRecDepth 100000 in
theorem fw_end {L : List Rw} {r : Int} (h : (L.take L.length).find? (isW r) = none) : fdW L r = none := by
  rw [List.take_length] at h
  exact h
set_option maxRecDepth 100000 in
theorem row_size : (Try.prog.info? 28).map (·.size) = some 2 := by kernel_rfl
set_option maxRecDepth 100000 in
theorem res_row_b {fn : Func} {p u : Tmp} (h : fn.results = #[.cell p 28, .tmp u]) (tmps : Array Value) (w : World) (g : Nat) (x y : Value) (hp : tmps.getD p undef = .pointer (some ⟨g, 0, none⟩)) (hg : w.heap[g]? = some (.cells #[x, y] 28 (0, 0))) :
    (results fn tmps).run Try.prog w = .ok (.tuple #[.agg #[x, y], tmps.getD u undef]) w := by
  have hp' : tmps[p]?.getD undef = .pointer (some ⟨g, 0, none⟩) := by simpa using hp
  rw [results_cell_tmp h]
  simp [hp', asAddr, run_loadVar_row w g _ _ _ _ _ hg Try.underlying28 rfl row_size, Result.andThen]
set_option maxRecDepth 100000 in
theorem rowR2 {w : World} {b : Nat} {x y : Value} {t : TypeId} (h : w.heap[b]? = some (.cells #[x, y] t (0, 0))) : w.cell? ⟨b, 0, none⟩ = some x ∧ w.cell? ⟨b, 1, none⟩ = some y :=
  ⟨cell_of_row _ _ _ _ _ _ h, cell_of_row _ _ _ _ _ _ h⟩
set_option maxRecDepth 100000 in
theorem storeR {w : World} {b : Nat} {t : TypeId} {z0 z1 : Value} (u0 u1 : Value) (h : w.heap[b]? = some (.cells #[z0, z1] t (0, 0))) :
    ((w.setCell ⟨b, 0, none⟩ u0).setCell ⟨b, 1, none⟩ u1).heap[b]? = some (.cells #[u0, u1] t (0, 0)) ∧ w.grownBy ((w.setCell ⟨b, 0, none⟩ u0).setCell ⟨b, 1, none⟩ u1) (some b) :=
  ⟨store2 h, grown_store2 w b u0 u1⟩
/-- The boxes of a table and of a row. -/
structure TB (W : World) (r s n : Int) (p : Option Addr) (c : Nat) (L : List Rw) (z0 z1 : Value) (w : World) : Prop where
  bx : w.heap[W.heap.size]? = some (.cells #[.int .i64 r, .int .i64 s, .int .i64 n, .slice p L.length c] 24 (0, 0))
  z : w.heap[W.heap.size + 1]? = some (.cells #[z0, z1] 28 (0, 0))
  rd : RdW w (· < W.heap.size) p c L
  gr : W.grownBy w none
set_option maxRecDepth 100000 in
theorem TB.keep {W w w1 : World} {r s n : Int} {p : Option Addr} {c : Nat} {L : List Rw} {z0 z1 : Value} (h : TB W r s n p c L z0 z1 w) (g : w.grownBy w1 none) : TB W r s n p c L z0 z1 w1 :=
  ⟨kept_row h.bx g (by simp), kept_row h.z g (by simp), h.rd.keep g, grown_trans h.gr g⟩
set_option maxRecDepth 100000 in
theorem tb_start {w : World} {r s n : Int} {p : Option Addr} {c : Nat} {L : List Rw} (hR : RdW w (· < w.heap.size) p c L) : TB w r s n p c L (.int .i64 0) (.slice none 0 0) ((w.alloc (.cells #[.int .i64 r, .int .i64 s, .int .i64 n, .slice p L.length c] 24)).alloc (.cells #[.int .i64 0, .slice none 0 0] 28)) := by
  obtain ⟨k1, k2, k3, k4⟩ := two_boxes w #[.int .i64 r, .int .i64 s, .int .i64 n, .slice p L.length c] #[.int .i64 0, .slice none 0 0] 24 28
  exact ⟨k1, k2, hR.keep k3, k3⟩
set_option maxRecDepth 100000 in
set_option maxHeartbeats 3200000 in
theorem rrow_any (r s n : Int) (p : Option Addr) (c : Nat) (L : List Rw) (id : Int) (w : World) (hR : RdW w (· < w.heap.size) p c L) (hm : L.length ≤ 9223372036854775807) :
    Calls Try.prog 54 #[.agg #[.int .i64 r, .int .i64 s, .int .i64 n, .slice p L.length c], .int .i64 id] w fun e w' => e = .returned (.tuple #[.agg #[.int .i64 ((fdW L id).getD zRw).id, .slice ((fdW L id).getD zRw).p ((fdW L id).getD zRw).nx.length ((fdW L id).getD zRw).c], .bool (fdW L id).isSome]) ∧ w.grownBy w' none := by
  have H0 := Lib.hid (tb_start (r := r) (s := s) (n := n) hR)
  clear hR
  go_enter Try.func54, Try.ntmps54
  go_upto_region 1 with fail
  generalize (w.alloc _).alloc _ = wa at *
  go_wp2_with fail
  go_loopw [6] (fun a wr => ∃ k : Nat, k ≤ L.length ∧ a = .int .i64 (k : Int) ∧ Hid ((L.take k).find? (isW id) = none) ∧ Hid (TB w r s n p c L (.int .i64 0) (.slice none 0 0) wr)) (fun a _ => L.length - (RowKit.intOf a).toNat)
  case atStart => exact ⟨0, Nat.zero_le _, rfl, Lib.hid rfl, H0⟩
  case round =>
  obtain ⟨k, hk, rfl, HN, K⟩ := hrel
  clear H0
  obtain ⟨d0, d1, d2, d3⟩ := row4T K.out.bx
  by_cases hlt : k < L.length
  · have hlt' : (k : Int) < (L.length : Int) := by omega
    obtain ⟨x, hx⟩ : ∃ x, L[k]? = some x := ⟨_, List.getElem?_eq_getElem hlt⟩
    obtain ⟨-, b, off, rfl, -, hc⟩ := rw_cells K.out.rd.rd (by omega)
    obtain ⟨a0, a1⟩ := hc k x hx
    have HX := Lib.hid hx
    clear hc hx
    by_cases e : x.id = id
    · have e' : (x.id == id) = true := by simpa using e
      have HF := Lib.hid (fw_hit HN.out HX.out e)
      clear e
      obtain ⟨z0, z1⟩ := rowR2 K.out.z
      have f0 := frozen_of_row _ _ 0 _ _ K.out.z
      have f1 := frozen_of_row _ _ 1 _ _ K.out.z
      obtain ⟨t1, t2⟩ := storeR (.int .i64 x.id) (.slice x.p x.nx.length x.c) K.out.z
      have HT := Lib.hid (And.intro t1 (grown_new K.out.gr t2 (by omega)))
      clear t1 t2 K HN
      go_wp2_with fail
      refine bodyPost_ret (res_row_b rfl _ _ (w.heap.size + 1) _ _ rfl HT.out.1) rfl ?_
      exact ⟨by rw [HF.out]; rfl, HT.out.2⟩
    · have e' : (x.id == id) = false := by simpa using e
      have HN2 : Hid ((L.take (k + 1)).find? (isW id) = none) := Lib.hid (by rw [fw_take HN.out HX.out, if_neg e])
      clear e HN
      go_wp2_with fail
      exact ⟨⟨k + 1, by omega, congrArg _ (by omega), HN2, K⟩, by simp only [RowKit.intOf]; omega⟩
  · obtain rfl : k = L.length := by omega
    have hnl : ¬ (L.length : Int) < (L.length : Int) := by omega
    have HF := Lib.hid (fw_end HN.out)
    obtain ⟨z0, z1⟩ := rowR2 K.out.z
    have f0 := frozen_of_row _ _ 0 _ _ K.out.z
    have f1 := frozen_of_row _ _ 1 _ _ K.out.z
    obtain ⟨t1, t2⟩ := storeR (.int .i64 0) (.slice none 0 0) K.out.z
    have HT := Lib.hid (And.intro t1 (grown_new K.out.gr t2 (by omega)))
    clear t1 t2 K HN
    go_wp2_with fail
    refine bodyPost_ret (res_row_b rfl _ _ (w.heap.size + 1) _ _ rfl HT.out.1) rfl ?_
    exact ⟨by rw [HF.out]; rfl, HT.out.2⟩
end Go.Proofs.Ytdkbdghkboeggaa

/- tables, the reference's functions: Hop. -/
namespace Go.Proofs.Ytdkbdghkboeggaa
open Go.RowKit Go.Maps Bs
/-- The next hop of an ID in a plane. -/
def hopI (L : List Rw) (id : Int) (k : Nat) : Int := nxI ((fdW L id).getD zRw).nx k
set_option maxRecDepth 100000 in
theorem fdW_ok {w : World} {q : Nat → Prop} {p : Option Addr} {c : Nat} {L : List Rw} {id : Int} (h : RdW w q p c L) : RwOk w q ((fdW L id).getD zRw) := by
  cases hf : fdW L id with
  | none => exact ⟨⟨none, 0, rfl, fun h => absurd rfl h⟩, ⟨Nat.le_refl _, by show (0 : Nat) ≤ _; omega⟩⟩
  | some x => exact h.ok x (List.mem_of_find?_eq_some hf)
set_option maxRecDepth 100000 in
set_option maxHeartbeats 3200000 in
theorem rhop_any (r s n : Int) (p : Option Addr) (c : Nat) (L : List Rw) (id : Int) (k : Nat) (hk : k < 8) (w : World) (hR : RdW w (· < w.heap.size) p c L) (hm : L.length ≤ 9223372036854775807) :
    Calls Try.prog 34 #[.agg #[.int .i64 r, .int .i64 s, .int .i64 n, .slice p L.length c], .int .i64 id, .int .i64 (k : Int)] w fun e w' => e = .returned (.int .i64 (hopI L id k)) ∧ w.grownBy w' none := by
  obtain ⟨k1, k2⟩ := tone_box w #[.int .i64 r, .int .i64 s, .int .i64 n, .slice p L.length c] 24
  have H0 := Lib.hid (And.intro k1 (And.intro k2 ((hR.keep k2).mono (q' := (· < (w.alloc (.cells #[.int .i64 r, .int .i64 s, .int .i64 n, .slice p L.length c] 24)).heap.size)) (fun b (hb : b < w.heap.size) => by show b < _; simp; omega))))
  clear k1 k2 hR
  go_enter Try.func34, Try.ntmps34
  go_upto_region 1 with fail
  generalize w.alloc _ = w1 at *
  obtain ⟨d0, d1, d2, d3⟩ := row4T H0.out.1
  go_wp2_with fail
  refine (rrow_any r s n p c L id w1 H0.out.2.2 hm).mono ?_
  rintro e w2 ⟨rfl, hg⟩
  have HX := Lib.hid (fdW_ok (id := id) (H0.out.2.2.keep hg))
  have HZ : Hid ((fdW L id).isSome = false → ((fdW L id).getD zRw).nx.length = 0) := Lib.hid (fun h => by cases hf : fdW L id with
    | none => rfl
    | some x => rw [hf] at h; cases h)
  have HH : Hid (hopI L id k = nxI ((fdW L id).getD zRw).nx k) := Lib.hid rfl
  have G2 := Lib.hid (grown_trans H0.out.2.1 hg)
  clear hg H0 d0 d1 d2 d3
  obtain ⟨res, hres⟩ : ∃ res, hopI L id k = res := ⟨_, rfl⟩
  have HRS := Lib.hid hres
  rw [hres] at HH
  clear hres
  generalize (fdW L id).getD zRw = x at *
  generalize (fdW L id).isSome = ob at *
  obtain ⟨k1, k2⟩ := tone_box w2 #[.int .i64 x.id, .slice x.p x.nx.length x.c] 28
  have HB := Lib.hid (And.intro k1 (And.intro (grown_trans G2.out k2) (HX.out.keep k2)))
  clear k1 k2 G2 HX
  go_upto_region 2 with fail
  generalize w2.alloc _ = w3 at *
  have c1 : w3.cell? ⟨w2.heap.size, 1, none⟩ = some (.slice x.p x.nx.length x.c) := cell_of_row _ _ _ _ _ _ HB.out.1
  by_cases h0 : x.nx.length = 0
  · have h0' : ((x.nx.length : Int) == 0) = true := beq_iff_eq.2 (by omega)
    have HO : Hid (res = 0) := Lib.hid (by rw [HH.out]; unfold nxI; rw [if_pos h0])
    clear h0
    cases ob
    · go_wp2_with fail
      go_ret
      exact ⟨by rw [HRS.out, HO.out]; rfl, HB.out.2.1⟩
    · go_wp2_with fail
      go_ret
      exact ⟨by rw [HRS.out, HO.out]; rfl, HB.out.2.1⟩
  · cases ob
    · exact absurd (HZ.out rfl) h0
    have h0' : ((x.nx.length : Int) == 0) = false := beq_eq_false_iff_ne.2 (by omega)
    have hmx : x.nx.length ≤ 9223372036854775807 := Nat.le_trans HB.out.2.2.hc.1 HB.out.2.2.hc.2
    have hat := nxI_at (k := k) h0
    rw [← HH.out] at hat
    have hrd := HB.out.2.2.rd
    obtain ⟨-, b, off, hp, hq, hc⟩ := tvT_at hrd hat
    have a0 := hc _ _ hat
    obtain ⟨j, hj⟩ : ∃ j, k % x.nx.length = j := ⟨_, rfl⟩
    have hjl : j < x.nx.length := by rw [← hj]; exact Nat.mod_lt _ (by omega)
    rw [hj] at a0
    rw [hp] at c1
    have r1 : ((k : Int)).tmod (x.nx.length : Int) = (j : Int) := by rw [Int.tmod_eq_emod_of_nonneg (by omega), ← hj]; exact (Int.natCast_emod k x.nx.length).symm
    have r1b : ((k : Int)) % (x.nx.length : Int) = (j : Int) := by rw [← hj]; exact (Int.natCast_emod k x.nx.length).symm
    have r2 : IntKind.i64.wrap (j : Int) = (j : Int) := IntWalk.i64_in _ (by omega)
    have r0 : (x.nx.length : Int) ≠ 0 := by omega
    have j0 : (0 : Int) ≤ (j : Int) := by omega
    have j1 : (j : Int) < (x.nx.length : Int) := by omega
    clear h0 hat hrd hc hj HZ HH
    go_upto_region 4 with fail
    go_region
    have G := Lib.hid (grown_drew HB.out.2.1)
    clear a0 c1 r1 r1b r2 r0 j0 j1
    go_wp2_with fail
    go_ret
    exact ⟨by rw [HRS.out]; rfl, G.out⟩
end Go.Proofs.Ytdkbdghkboeggaa

/- masks, the reference's Bits: the mathematics. -/
namespace Go.Proofs.Ytdkbdghkboeggaa
open Go.RowKit Go.Maps Bs
set_option maxRecDepth 100000 in
theorem place_at {s b len : Int} (h : atOk s b len = true) : plOk (atI s b len) len = true ∧ plS (atI s b len) len = s ∧ plB (atI s b len) len = b := by
  have h0 := h
  unfold atOk inV at h
  simp only [Bool.and_eq_true, decide_eq_true_eq] at h
  obtain ⟨⟨⟨hv, hb⟩, hs⟩, hm⟩ := h
  have hl : len = 8 ∨ len = 16 ∨ len = 32 ∨ len = 64 := by
    have := pl_fields (id := 1) (len := len) (by unfold plOk inV; simp [hv])
    exact this.1
  have e : atI s b len = s * len + b + 1 := by unfold atI; rw [if_pos h0]
  have hp : plOk (s * len + b + 1) len = true := by
    unfold plOk inV
    simp only [Bool.and_eq_true, decide_eq_true_eq]
    refine ⟨hv, ?_, hm⟩
    rcases hl with rfl | rfl | rfl | rfl <;> omega
  rw [e]
  refine ⟨hp, ?_, ?_⟩
  · unfold plS
    rw [if_pos hp, Int.tdiv_eq_ediv_of_nonneg (by rcases hl with rfl | rfl | rfl | rfl <;> omega)]
    rcases hl with rfl | rfl | rfl | rfl <;> omega
  · unfold plB
    rw [if_pos hp]
    rcases hl with rfl | rfl | rfl | rfl <;> omega
/-- Whether bit j of a mask is set. -/
def btP (L : List Rw) (n set u : Int) (k : Nat) (j : Nat) : Bool := atOk set (j : Int) n && decide (0 < u) && decide (hopI L (atI set (j : Int) n) k = u)
def btA (P : Nat → Bool) : Nat → Nat
  | 0 => 0
  | i + 1 => if P i = true then btA P i ||| b2 i else btA P i
set_option maxRecDepth 100000 in
theorem btA_u64 (P : Nat → Bool) : ∀ i, i ≤ 64 → U64 (btA P i)
  | 0, _ => by unfold btA; exact u64_mk (by decide)
  | i + 1, h => by
    unfold btA
    split
    · exact Nat.or_lt_two_pow (n := 64) (btA_u64 P i (by omega)) (b2_u64 (by omega))
    · exact btA_u64 P i (by omega)
set_option maxRecDepth 100000 in
theorem btA_bit (P : Nat → Bool) : ∀ N j, (btA P N).testBit j = true ↔ j < N ∧ P j = true
  | 0, j => by unfold btA; simp
  | i + 1, j => by
    have ih := btA_bit P i j
    unfold btA
    by_cases hp : P i = true
    · rw [if_pos hp, Nat.testBit_or]
      unfold b2
      rw [Nat.testBit_two_pow]
      simp only [Bool.or_eq_true, decide_eq_true_eq, ih]
      constructor
      · rintro (h | rfl)
        · exact ⟨by omega, h.2⟩
        · exact ⟨by omega, hp⟩
      · rintro ⟨h1, h2⟩
        by_cases e : i = j
        · exact Or.inr e
        · exact Or.inl ⟨by omega, h2⟩
    · rw [if_neg hp, ih]
      constructor
      · rintro h; exact ⟨by omega, h.2⟩
      · rintro ⟨h1, h2⟩
        by_cases e : i = j
        · subst e; exact absurd h2 hp
        · exact ⟨by omega, h2⟩
set_option maxRecDepth 100000 in
theorem ascW_pair : ∀ E : List Rw, ascB ltW E = true → E.Pairwise (fun x y => x.id < y.id)
  | [], _ => List.Pairwise.nil
  | [a], _ => List.pairwise_singleton _ _
  | a :: b :: t, h => by
    rw [ascB, Bool.and_eq_true] at h
    have ih := ascW_pair (b :: t) h.2
    have hab : a.id < b.id := of_decide_eq_true h.1
    refine List.pairwise_cons.2 ⟨fun y hy => ?_, ih⟩
    rcases List.mem_cons.1 hy with rfl | hy
    · exact hab
    · have := (List.pairwise_cons.1 ih).1 y hy; omega
set_option maxRecDepth 100000 in
theorem fdW_mem {L : List Rw} (h : ascB ltW L = true) {x : Rw} (hx : x ∈ L) : fdW L x.id = some x := by
  have hp := ascW_pair L h
  clear h
  unfold fdW
  induction L with
  | nil => cases hx
  | cons a t ih =>
    obtain ⟨h1, h2⟩ := List.pairwise_cons.1 hp
    rw [List.find?_cons]
    rcases List.mem_cons.1 hx with rfl | hm
    · simp [isW]
    · have := h1 x hm
      have e : isW x.id a = false := by unfold isW; simp; omega
      rw [e]
      exact ih hm h2
set_option maxRecDepth 100000 in
/-- The mask of the reference is the mask. -/
theorem mask_eq {r s n : Int} {L : List Rw} (h : ckT r s n L = 0) {N : Nat} (hN : n = (N : Int)) {k : Nat} {set u : Int} (hu : 0 < u) :
    btA (btP L n set u k) N = (colL n set k L u).getD 0 := by
  have ho := ck_ok h
  refine Nat.eq_of_testBit_eq fun j => ?_
  rw [Bool.eq_iff_iff, btA_bit, colL_bit]
  unfold btP
  simp only [Bool.and_eq_true, decide_eq_true_eq]
  constructor
  · rintro ⟨hj, ⟨h1, -⟩, h3⟩
    obtain ⟨p1, p2, p3⟩ := place_at h1
    unfold hopI at h3
    cases hf : fdW L (atI set (j : Int) n) with
    | none =>
      rw [hf] at h3
      have : nxI ([] : List Int) k = 0 := rfl
      simp only [Option.getD_none] at h3
      have h4 : (0 : Int) = u := h3
      omega
    | some x =>
      rw [hf, Option.getD_some] at h3
      have hx := List.mem_of_find?_eq_some hf
      have he : x.id = atI set (j : Int) n := by
        have := List.find?_some hf
        unfold isW at this
        simpa using this
      refine ⟨x, hx, by rw [he]; exact p2, h3, by omega, by rw [he, p3]; omega⟩
  · rintro ⟨x, hx, h1, h2, h3, h4⟩
    have hw := any_memT ho.2.1 hx
    have hid : 1 ≤ x.id ∧ x.id ≤ 256 := by
      unfold wrW inV at hw
      rw [Bool.or_eq_false_iff] at hw
      simpa using hw.1
    have hvl : vl n = true := by
      have := ho.1
      unfold hdT at this
      have hl : ¬ L.length = 0 := by
        intro e
        have := List.eq_nil_of_length_eq_zero e
        subst this
        cases hx
      simp [hl] at this
      exact this.2
    have hp : plOk x.id n = true := by unfold plOk inV; simp [hvl, hid.1, hid.2]
    obtain ⟨a1, a2⟩ := at_place hp
    have hB : plB x.id n = (j : Int) := by
      have : 0 ≤ plB x.id n := by
        obtain ⟨hl, -⟩ := pl_fields hp
        unfold plB
        rw [if_pos hp]
        rcases hl with rfl | rfl | rfl | rfl <;> omega
      omega
    have hjn : (j : Int) < n := by
      rw [← hB]
      obtain ⟨hl, -⟩ := pl_fields hp
      unfold plB
      rw [if_pos hp]
      rcases hl with rfl | rfl | rfl | rfl <;> omega
    rw [h1, hB] at a1 a2
    refine ⟨by omega, ⟨a1, hu⟩, ?_⟩
    unfold hopI
    rw [a2, fdW_mem ho.2.2.2.2.1 hx, Option.getD_some]
    exact h2
end Go.Proofs.Ytdkbdghkboeggaa

/- masks, the reference's functions: Bits. -/
namespace Go.Proofs.Ytdkbdghkboeggaa
open Go.RowKit Go.Maps Bs
/-- The box of a table. -/
structure BX (W : World) (r s n : Int) (p : Option Addr) (c : Nat) (L : List Rw) (w : World) : Prop where
  bx : w.heap[W.heap.size]? = some (.cells #[.int .i64 r, .int .i64 s, .int .i64 n, .slice p L.length c] 24 (0, 0))
  rd : RdW w (· < w.heap.size) p c L
  gr : W.grownBy w none
set_option maxRecDepth 100000 in
theorem BX.keep {W w w1 : World} {r s n : Int} {p : Option Addr} {c : Nat} {L : List Rw} (h : BX W r s n p c L w) (g : w.grownBy w1 none) : BX W r s n p c L w1 :=
  ⟨kept_row h.bx g (by simp), (h.rd.keep g).mono (fun b (hb : b < w.heap.size) => Nat.lt_of_lt_of_le hb g.size), grown_trans h.gr g⟩
set_option maxRecDepth 100000 in
theorem bx_start {w : World} {r s n : Int} {p : Option Addr} {c : Nat} {L : List Rw} (hR : RdW w (· < w.heap.size) p c L) : BX w r s n p c L (w.alloc (.cells #[.int .i64 r, .int .i64 s, .int .i64 n, .slice p L.length c] 24)) := by
  obtain ⟨k1, k2⟩ := tone_box w #[.int .i64 r, .int .i64 s, .int .i64 n, .slice p L.length c] 24
  exact ⟨k1, (hR.keep k2).mono (fun b (hb : b < w.heap.size) => Nat.lt_of_lt_of_le hb k2.size), k2⟩
set_option maxRecDepth 100000 in
set_option maxHeartbeats 3200000 in
theorem rbits_any (r s : Int) (N : Nat) (hN : N ≤ 64) (p : Option Addr) (c : Nat) (L : List Rw) (k : Nat) (hk : k < 8) (set u : Int) (w : World) (hR : RdW w (· < w.heap.size) p c L) (hm : L.length ≤ 9223372036854775807) :
    Calls Try.prog 36 #[.agg #[.int .i64 r, .int .i64 s, .int .i64 (N : Int), .slice p L.length c], .int .i64 (k : Int), .int .i64 set, .int .i64 u] w fun e w' => e = .returned (.int .u64 ((btA (btP L (N : Int) set u k) N : Nat) : Int)) ∧ w.grownBy w' none := by
  have H0 := Lib.hid (bx_start (r := r) (s := s) (n := (N : Int)) hR)
  obtain ⟨P, hP⟩ : ∃ P, btP L (N : Int) set u k = P := ⟨_, rfl⟩
  have HP := Lib.hid hP
  rw [hP]
  clear hR hP
  go_enter Try.func36, Try.ntmps36
  go_upto_region 1 with fail
  generalize w.alloc _ = wa at *
  go_wp2_with fail
  go_loopw [9, 10] (fun o a wr => ∃ i : Nat, i ≤ N ∧ a = .int .i64 (i : Int) ∧ o = .int .u64 ((btA P i : Nat) : Int) ∧ Hid (BX w r s (N : Int) p c L wr)) (fun _ a _ => N - (RowKit.intOf a).toNat)
  case atStart => exact ⟨0, Nat.zero_le _, rfl, rfl, H0⟩
  case round =>
  obtain ⟨i, hi, rfl, rfl, K⟩ := hrel
  clear H0
  obtain ⟨d0, d1, d2, d3⟩ := row4T K.out.bx
  by_cases hlt : i < N
  case neg =>
    obtain rfl : i = N := by omega
    have hnl : ¬ (i : Int) < (i : Int) := by omega
    go_wp2_with fail
    go_ret
    exact ⟨rfl, K.out.gr⟩
  have hlt' : (i : Int) < (N : Int) := by omega
  have HU := Lib.hid (btA_u64 P i (by omega))
  have HS : Hid (btA P (i + 1) = if P i = true then btA P i ||| b2 i else btA P i) := Lib.hid rfl
  have hPi : Hid (P i = (atOk set (i : Int) (N : Int) && decide (0 < u) && decide (hopI L (atI set (i : Int) (N : Int)) k = u))) := Lib.hid (by rw [← HP.out]; rfl)
  obtain ⟨B, hB⟩ : ∃ B, btA P i = B := ⟨_, rfl⟩
  rw [hB] at HU HS ⊢
  clear hB
  go_wp2_with fail
  refine (irat_any set i N wr).mono ?_
  rintro e w1 ⟨rfl, hg⟩
  have K1 := Lib.hid (K.out.keep hg)
  clear hg K d0 d1 d2 d3
  obtain ⟨ok, hok⟩ : ∃ ok, atOk set (i : Int) (N : Int) = ok := ⟨_, rfl⟩
  obtain ⟨id, hid⟩ : ∃ id, atI set (i : Int) (N : Int) = id := ⟨_, rfl⟩
  rw [hok, hid] at hPi ⊢
  clear hok hid
  obtain ⟨d0, d1, d2, d3⟩ := row4T K1.out.bx
  cases ok
  case false =>
    have HE : Hid (btA P (i + 1) = B) := Lib.hid (by rw [HS.out, hPi.out]; simp)
    go_wp2_with fail
    exact ⟨⟨i + 1, by omega, congrArg _ (by omega), by rw [HE.out], K1⟩, by simp only [RowKit.intOf]; omega⟩
  by_cases hu : 0 < u
  case neg =>
    have HE : Hid (btA P (i + 1) = B) := Lib.hid (by rw [HS.out, hPi.out]; simp [hu])
    go_wp2_with fail
    exact ⟨⟨i + 1, by omega, congrArg _ (by omega), by rw [HE.out], K1⟩, by simp only [RowKit.intOf]; omega⟩
  go_wp2_with fail
  refine (rhop_any r s N p c L id k hk w1 K1.out.rd hm).mono ?_
  rintro e w2 ⟨rfl, hg⟩
  have K2 := Lib.hid (K1.out.keep hg)
  clear hg K1 d0 d1 d2 d3
  obtain ⟨h, hh⟩ : ∃ h, hopI L id k = h := ⟨_, rfl⟩
  rw [hh] at hPi ⊢
  clear hh
  by_cases he : h = u
  case neg =>
    have he' : (h == u) = false := by simpa using he
    have HE : Hid (btA P (i + 1) = B) := Lib.hid (by rw [HS.out, hPi.out]; simp [he])
    clear he
    go_wp2_with fail
    exact ⟨⟨i + 1, by omega, congrArg _ (by omega), by rw [HE.out], K2⟩, by simp only [RowKit.intOf]; omega⟩
  have he' : (h == u) = true := by simpa using he
  have HE : Hid (btA P (i + 1) = B ||| b2 i) := Lib.hid (by rw [HS.out, hPi.out]; simp [he, hu])
  clear he
  go_wp2_with fail
  refine (bit_any i (by omega) w2).mono ?_
  rintro e w3 ⟨rfl, rfl⟩
  have HU2 := HU.out
  have HB2 : U64 (b2 i) := b2_u64 (by omega)
  go_wp2_with fail
  exact ⟨⟨i + 1, by omega, congrArg _ (by omega), by rw [HE.out]; exact congrArg _ (orU _ _ HU2 HB2), K2⟩, by simp only [RowKit.intOf]; omega⟩
end Go.Proofs.Ytdkbdghkboeggaa

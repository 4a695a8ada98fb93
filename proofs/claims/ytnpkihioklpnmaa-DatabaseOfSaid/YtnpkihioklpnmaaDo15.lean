/- Parts of the proof, packed: DbQu, DbBm, DbRed, DbBtw, DbChk. -/
import Derived.Test.YtnpkihioklpnmaaDo13
import Derived.Test.YtnpkihioklpnmaaDo4
import Derived.Test.YtnpkihioklpnmaaDo5
import Derived.ArgAppend
import Derived.Maps.OwnSet
import Derived.Maps.OwnOps
import Derived.Test.YtnpkihioklpnmaaDo14
import Derived.Deep.CutBlock
import Derived.Carry
import Derived.Test.YtnpkihioklpnmaaDo2
/- A row of structs that is taken from the front and appended to at the end: a queue. -/
namespace Go.Proofs.Ytnpkihioklpnmaa
open Go.RowKit Bs
/-- Cells xs, n structs of k, lie at the end of a block of the call's own, room behind them. -/
structure Qu (w : World) (base k g off n cap : Nat) (xs : List Value) : Prop where
  ge : base ≤ g
  lt : g < w.heap.size
  le : n ≤ cap
  len : xs.length = n * k
  at_ : ∀ j u, xs[j]? = some u → w.cell? ⟨g, off + j, none⟩ = some u
  spare : ∀ j, j < (cap - n) * k → (w.cell? ⟨g, off + n * k + j, none⟩).isSome = true ∧ w.frozen? ⟨g, off + n * k + j, none⟩ = false
set_option maxRecDepth 100000 in
theorem frozen_far2 {w w' : World} {r : Option Nat} (g : w.grownBy w' r) {a : Addr} (ha : a.block < w.heap.size) (hr : some a.block ≠ r) : w'.frozen? a = w.frozen? a := World.frozen?_of_block (g.block a.block ha hr)
set_option maxRecDepth 100000 in
theorem Qu.grown {w w' : World} {base k g off n cap : Nat} {xs : List Value} {r : Option Nat} (h : Qu w base k g off n cap xs) (gr : w.grownBy w' r) (hr : some g ≠ r) : Qu w' base k g off n cap xs := by
  refine ⟨h.ge, Nat.lt_of_lt_of_le h.lt gr.size, h.le, h.len, fun j u hj => gr.cell (h.at_ j u hj) hr, fun j hj => ?_⟩
  obtain ⟨h1, h2⟩ := h.spare j hj
  obtain ⟨u, hu⟩ := Option.isSome_iff_exists.1 h1
  exact ⟨by rw [gr.cell hu hr]; rfl, by rw [frozen_far2 gr (a := ⟨g, off + n * k + j, none⟩) h.lt hr]; exact h2⟩
set_option maxRecDepth 100000 in
theorem Qu.keep {w w' : World} {base k g off n cap : Nat} {xs : List Value} (h : Qu w base k g off n cap xs) (gr : w.grownBy w' none) : Qu w' base k g off n cap xs := h.grown gr (by simp)
set_option maxRecDepth 100000 in
/-- The first struct is left behind. -/
theorem Qu.pop {w : World} {base k g off n cap : Nat} {xs : List Value} (h : Qu w base k g off (n + 1) cap xs) : Qu w base k g (off + k) n (cap - 1) (xs.drop k) := by
  have hle := h.le
  refine ⟨h.ge, h.lt, by omega, by rw [List.length_drop, h.len, Nat.add_mul]; omega, fun j u hj => ?_, fun j hj => ?_⟩
  · rw [List.getElem?_drop] at hj
    have := h.at_ _ u hj
    rw [← Nat.add_assoc] at this
    exact this
  · have := h.spare j (by rw [show cap - (n + 1) = cap - 1 - n by omega]; exact hj)
    rw [show off + (n + 1) * k + j = off + k + n * k + j by rw [Nat.add_mul]; omega] at this
    exact this
set_option maxRecDepth 100000 in
theorem Qu.of {w : World} {base k n g cap : Nat} {e : TypeId} {xs : List Value} (h : w.ownsRow base e k (.slice (some ⟨g, 0, none⟩) n cap) n xs) : Qu w base k g 0 n cap xs := by
  obtain ⟨h1, h2⟩ := h
  rcases h2 with ⟨e1, _⟩ | ⟨g', cap', cur, hv, hg, hh, hn, hcap, hsz, htake⟩
  · cases e1
  · injection hv with hv1 hv2 hv3
    injection hv1 with hv1
    injection hv1 with hv1
    subst hv1 hv3
    have hc : ∀ o, w.cell? ⟨g, o, none⟩ = cur[o]? := fun o => cell_of_row _ _ _ _ _ _ hh
    have hlt : g < w.heap.size := (Array.getElem?_eq_some_iff.1 hh).1
    refine ⟨hg, hlt, hn, h1, fun j u hj => ?_, fun j hj => ?_⟩
    · rw [Nat.zero_add, hc, ← Array.getElem?_toList]
      rw [← htake, List.getElem?_take] at hj
      split at hj
      · exact hj
      · cases hj
    · refine ⟨?_, frozen_of_row _ _ _ _ _ hh⟩
      rw [hc, Array.getElem?_eq_getElem (by
        rw [hsz]
        have : (cap - n) * k + n * k = cap * k := by rw [← Nat.add_mul]; congr 1; omega
        omega)]
      rfl
set_option maxRecDepth 100000 in
theorem grown_setCells2 (g : Nat) : ∀ (vs : List Value) (o : Nat) (w : World), w.grownBy (w.setCells g o vs) (some g)
  | [], _, w => grown_refl w _
  | v :: r, o, w => by
    rw [World.setCells]
    exact grown_trans (grown_setCell w ⟨g, o, none⟩ v) (grown_setCells2 g r (o + 1) _)
section
variable {P : Program}
set_option maxRecDepth 100000 in
/-- A struct is appended: in the block, or all in a new one. -/
theorem Qu.push {w : World} {base k g off n cap bytes : Nat} {xs : List Value} (h : Qu w base k g off n cap xs) (t ty e : TypeId) (i : TypeInfo) (z : Value) (ht : P.underlying t = some (.slice e)) (hi : P.info? e = some i) (hz : i.zero = some z) (hsize : i.size = k) (hby : i.bytes = bytes) (hzs : z.cells.size = k) (hk : 0 < k)
    (hbytes : bytes ≤ 1000) (hn : n ≤ 100000) (a : Addr) (c : Nat) (news : List Value) (hl : news.length = k) (hnews : ∀ j u, news[j]? = some u → w.cell? (a.add j) = some u) (h1 : ∀ u ∈ news, u.oneCell' = true) (hbase : base ≤ w.heap.size) :
    ∃ g' off' cap' w', (Builtin.append_ #[t, t] ty #[.slice (some ⟨g, off, none⟩) n cap, .slice (some a) 1 c]).run P w = .ok (.slice (some ⟨g', off', none⟩) (n + 1) cap') w' ∧ Qu w' base k g' off' (n + 1) cap' (xs ++ news) ∧ w.grownBy w' (some g) ∧ (g' = g ∨ w.heap.size ≤ g') := by
  subst hsize
  have hle := h.le
  by_cases hr : n + 1 ≤ cap
  · have hsome : ∀ j, j < news.length → (w.cell? ⟨g, off + n * i.size + j, none⟩).isSome = true ∧ w.frozen? ⟨g, off + n * i.size + j, none⟩ = false := fun j hj => h.spare j (by
      have : 1 * i.size ≤ (cap - n) * i.size := Nat.mul_le_mul_right _ (by omega)
      omega)
    have hrun := run_append_room_cells (P := P) w t ty e i ht hi g off n cap a 1 c news (by omega) hnews h1 hr (fun j hj => (hsome j hj).1) (fun j hj => (hsome j hj).2)
    have hg := grown_setCells2 g news (off + n * i.size) w
    refine ⟨g, off, cap, _, hrun, ⟨h.ge, Nat.lt_of_lt_of_le h.lt hg.size, hr, by rw [List.length_append, h.len, hl, Nat.add_mul]; omega, fun j u hj => ?_, fun j hj => ?_⟩, hg, .inl rfl⟩
    · by_cases hj1 : j < xs.length
      · rw [List.getElem?_append_left hj1] at hj
        rw [World.cell?_setCells_out g _ _ _ _ (fun _ _ => Or.inl (by show off + j < off + n * i.size; have := h.len; omega))]
        exact h.at_ j u hj
      · rw [List.getElem?_append_right (by omega)] at hj
        obtain ⟨hj2, he⟩ := List.getElem?_eq_some_iff.1 hj
        have := World.cell?_setCells_in g news (off + n * i.size) w (fun j hj => (hsome j hj).1) (j - xs.length) hj2
        rw [show off + n * i.size + (j - xs.length) = off + j by have := h.len; omega] at this
        rw [this, he]
    · have he : off + (n + 1) * i.size + j = off + n * i.size + (i.size + j) := by rw [Nat.add_mul]; omega
      have := h.spare (i.size + j) (by
        have : (cap - n) * i.size = (cap - (n + 1)) * i.size + i.size := by rw [show cap - n = cap - (n + 1) + 1 by omega, Nat.add_mul, Nat.one_mul]
        omega)
      rw [he, World.frozen?_setCells, World.cell?_setCells_out g _ _ _ _ (fun _ _ => Or.inr (by show off + n * i.size + news.length ≤ off + n * i.size + (i.size + j); omega))]
      exact this
  · have hb2 : (n + 1) * bytes ≤ 140737488355328 := Nat.le_trans (Nat.mul_le_mul (show n + 1 ≤ 100001 by omega) hbytes) (by decide)
    obtain ⟨v', w', hrun, r1, r2⟩ := run_append_arg_grows (P := P) w t ty e i z i.size bytes ht hi hz rfl hby hzs hk ⟨g, off, none⟩ n cap xs h.len (fun j u hj => by rw [add_plain]; exact h.at_ j u hj) a 1 c news (by omega) hnews (by omega) (by unfold maxLen; omega) hb2
    obtain ⟨p', c', he, h3, h4⟩ := own_shape r1
    rcases r1.2 with ⟨e0, e1⟩ | ⟨g', cap', cur, hv, hg, hh, hn2, hcap, hsz, htake⟩
    · omega
    · subst hv
      have hq := Qu.of r1
      exact ⟨g', 0, cap', w', hrun, ⟨Nat.le_trans hbase hg, hq.lt, hq.le, hq.len, hq.at_, hq.spare⟩, grown_none r2 _, .inr hg⟩
end
end Go.Proofs.Ytnpkihioklpnmaa

/- Maps that say of numbers whether they are in a set. -/
namespace Go.Proofs.Ytnpkihioklpnmaa
open Go.RowKit Go.Maps Bs
def kB (x : Int) : Lit := .int .i64 x
set_option maxRecDepth 100000 in
theorem kB_key (x : Int) : WideAt.IsKeyLit (kB x) := by unfold kB WideAt.IsKeyLit; trivial
set_option maxRecDepth 100000 in
theorem kB_ne {x y : Int} (h : x ≠ y) : kB x ≠ kB y := fun e => h (by unfold kB at e; injection e)
/-- A map that holds S. -/
structure MB2 (D : DataW Unit) (S : Int → Bool) : Prop where
  td : Tidy D
  at_ : ∀ x, D.atKey (kB x) (.lit (.bool false)) = .lit (.bool (S x))
def putB (S : Int → Bool) (x : Int) : Int → Bool := fun u => if u = x then true else S u
set_option maxRecDepth 100000 in
theorem MB2.nil : MB2 (.map []) (fun _ => false) := ⟨tidy_empty, fun _ => rfl⟩
set_option maxRecDepth 100000 in
theorem MB2.put {D : DataW Unit} {S : Int → Bool} (h : MB2 D S) (x : Int) : MB2 (D.put (kB x) (.lit (.bool true))) (putB S x) := by
  refine ⟨h.td.put (kB_key x) _, fun y => ?_⟩
  unfold putB
  by_cases e : y = x
  · subst e
    rw [if_pos rfl]
    exact atKey_put_same h.td.isMap (kB_key y) _ _
  · rw [if_neg e, atKey_put_other (kB_ne e), h.at_]
set_option maxRecDepth 100000 in
theorem lawB : Keyed Try.prog 3 := int_keyed Try.underlying3
set_option maxRecDepth 100000 in
theorem zeroB (w : World) : (zeroValue 4).run Try.prog w = .ok (.bool false) w := by kernel_rfl
set_option maxRecDepth 100000 in
theorem wfB {x : Int} (h : I64 x) : (Lit.int .i64 x).wf = true := by
  unfold I64 at h
  simp [Lit.wf, IntKind.min, IntKind.max, IntKind.bits, IntKind.signed]
  omega
set_option maxRecDepth 100000 in
theorem plainB_inv {v : Value} {z : DataW Unit × List MemPlace} (h : plainElem Try.prog 4 v = some z) : ∃ b, v = .bool b ∧ z = (.lit (.bool b), []) := by
  unfold plainElem at h
  rw [Try.underlying4] at h
  cases v <;> simp at h
  exact ⟨_, rfl, h.symm⟩
/-- Block b is a map that holds S, written at most n times. -/
def OMb (w : World) (b n : Nat) (S : Int → Bool) : Prop := ∃ D : DataW Unit, w.ownsMap Try.prog 3 (plainElem Try.prog 4) b n D ∧ MB2 D S
set_option maxRecDepth 100000 in
theorem OMb.kept {w w' : World} {b n : Nat} {S : Int → Bool} {r : Option Nat} (h : OMb w b n S) (g : w.grownBy w' r) (hr : some b ≠ r) : OMb w' b n S := by
  obtain ⟨D, h1, h2⟩ := h
  exact ⟨D, h1.kept g hr, h2⟩
set_option maxRecDepth 100000 in
theorem OMb.lt {w : World} {b n : Nat} {S : Int → Bool} (h : OMb w b n S) : b < w.heap.size := by
  obtain ⟨D, h1, h2⟩ := h
  exact h1.lt
set_option maxRecDepth 100000 in
theorem OMb.mono {w : World} {b n m : Nat} {S : Int → Bool} (h : OMb w b n S) (hn : n ≤ m) : OMb w b m S := by
  obtain ⟨D, h1, h2⟩ := h
  exact ⟨D, h1.mono hn, h2⟩
set_option maxRecDepth 100000 in
theorem OMb.made (w : World) : OMb (w.alloc (.map #[] 0)) w.heap.size 0 (fun _ => false) := ⟨_, World.ownsMap_made w _ _ _, MB2.nil⟩
set_option maxRecDepth 100000 in
theorem OMb.put {w : World} {b n : Nat} {S : Int → Bool} (h : OMb w b n S) (hn : n ≤ 1000000) {x : Int} (hx : I64 x) :
    ∃ w', (Instr.mapUpdate 102 (.map (some b)) (.int .i64 x) (.bool true)).run Try.prog w = .ok () w' ∧ OMb w' b (n + 1) (putB S x) ∧ w.grownBy w' (some b) := by
  obtain ⟨D, h1, h2⟩ := h
  obtain ⟨w', r1, r2, r3⟩ := h1.update (t := 102) lawB Try.underlying102 (by unfold maxLen; omega) (keyOf_int_mk Try.underlying3 (wfB hx)) (plainElem_bool Try.underlying4 true)
  exact ⟨w', r1, ⟨_, r2, h2.put x⟩, r3⟩
set_option maxRecDepth 100000 in
theorem OMb.look {w : World} {b n : Nat} {S : Int → Bool} (h : OMb w b n S) {x : Int} (hx : I64 x) :
    (Instr.lookup 102 (.map (some b)) (.int .i64 x) false).run Try.prog w = .ok (.bool (S x)) w := by
  obtain ⟨D, h1, h2⟩ := h
  obtain ⟨v, ps, hrun, hv⟩ := h1.lookup (t := 102) lawB Try.underlying102 (zeroB w) (plainElem_bool Try.underlying4 false) (keyOf_int_mk Try.underlying3 (wfB hx))
  obtain ⟨c, rfl, hc⟩ := plainB_inv hv
  have ha := h2.at_ x
  have hc1 := congrArg Prod.fst hc
  simp only at hc1
  rw [show kB x = .int .i64 x from rfl, hc1] at ha
  injection ha with ha
  injection ha with ha
  rw [hrun, ha]
/-- A map value: nil, or a block that meets q. -/
def MVb (w : World) (q : Nat → Prop) (v : Value) (S : Int → Bool) : Prop :=
  (v = .map none ∧ ∀ x, S x = false) ∨ ∃ b n, v = .map (some b) ∧ q b ∧ n ≤ 1000000 ∧ OMb w b n S
set_option maxRecDepth 100000 in
theorem MVb.grown {w w' : World} {q : Nat → Prop} {v : Value} {S : Int → Bool} {r : Option Nat} (h : MVb w q v S) (g : w.grownBy w' r) (hr : ∀ b, q b → some b ≠ r) : MVb w' q v S := by
  rcases h with h | ⟨b, n, e, hq, hn, h⟩
  · exact .inl h
  · exact .inr ⟨b, n, e, hq, hn, h.kept g (hr b hq)⟩
set_option maxRecDepth 100000 in
theorem MVb.keep {w w' : World} {q : Nat → Prop} {v : Value} {S : Int → Bool} (h : MVb w q v S) (g : w.grownBy w' none) : MVb w' q v S := h.grown g (fun _ _ => by simp)
set_option maxRecDepth 100000 in
theorem MVb.mono {w : World} {q q' : Nat → Prop} {v : Value} {S : Int → Bool} (h : MVb w q v S) (hq : ∀ b, q b → b < w.heap.size → q' b) : MVb w q' v S := by
  rcases h with h | ⟨b, n, e, h1, hn, h⟩
  · exact .inl h
  · exact .inr ⟨b, n, e, hq b h1 h.lt, hn, h⟩
set_option maxRecDepth 100000 in
theorem MVb.look {w : World} {q : Nat → Prop} {v : Value} {S : Int → Bool} (h : MVb w q v S) {x : Int} (hx : I64 x) :
    (Instr.lookup 102 v (.int .i64 x) false).run Try.prog w = .ok (.bool (S x)) w := by
  rcases h with ⟨rfl, hn⟩ | ⟨b, n, rfl, -, -, h⟩
  · rw [hn x]
    exact look_nil false lawB Try.underlying102 (zeroB w) (keyOf_int_mk Try.underlying3 (wfB hx))
  · exact h.look hx
end Go.Proofs.Ytnpkihioklpnmaa

/- database.reached: the routers that can be reached. -/
namespace Go.Proofs.Ytnpkihioklpnmaa
open Go.RowKit Bs
set_option maxRecDepth 100000 in
theorem wpList_append_run {P : Program} {w w' : World} {ops : Array Oper} {rest : List Oper} {o : Oper} {a : Act} {Q : Exit → Act → World → Prop} (hgd : o.guard = none) (s x : Operand) (t : TypeId)
    (ho : o.op = .call { callee := .builtin .append, args := #[s, x], argTypes := #[t, t] }) (v vx v' : Value) (hs : a.eval s = v) (hx : a.eval x = vx) (hrun : (Builtin.append_ #[t, t] o.type #[v, vx]).run P w = .ok v' w')
    (h : wpList P ops Q rest (a.put o.dst v') w') : wpList P ops Q (o :: rest) a w := by
  refine wpList_plain hgd fun K hK => ?_
  unfold Oper.wp
  simp [execOp, ho, resolve, invoke, builtin, hs, hx, hrun, Result.andThen]
  exact hK _ _ h
set_option maxRecDepth 100000 in
theorem add_cons (A : Ad) : ∀ (M : List Ad) (S : List Int) (W : List Ad), M.foldl addA (S, A :: W) = ((M.foldl addA (S, W)).1, A :: (M.foldl addA (S, W)).2)
  | [], _, _ => rfl
  | B :: M, S, W => by
    rw [List.foldl_cons, List.foldl_cons]
    unfold addA
    split
    · exact add_cons A M S W
    · exact add_cons A M _ _
set_option maxRecDepth 100000 in
theorem add_step {M : List Ad} {k : Nat} {x : Ad} {st : List Int × List Ad} (h : M[k]? = some x) : (M.take (k + 1)).foldl addA st = addA ((M.take k).foldl addA st) x := by
  rw [List.take_add_one, h, List.foldl_append]
  rfl
/-- While the routers that are reached are looked for. -/
structure RS (w : World) (l : List Ad) (p : Option Addr) (c Bm n : Nat) (S : List Int) (g off cap : Nat) (W : List Ad) (wr : World) : Prop where
  db : RdA wr (· < w.heap.size) (.slice p l.length c) l
  mp : OMb wr Bm n (inS S)
  qu : Qu wr w.heap.size 5 g off W.length cap (W.flatMap adL)
  ne : g ≠ Bm
  gb : w.heap.size ≤ Bm
  gr : w.grownBy wr none
section
variable {w wr w1 : World} {l W : List Ad} {p : Option Addr} {c Bm n g off cap : Nat} {S : List Int}
set_option maxRecDepth 100000 in
theorem RS.keep (h : RS w l p c Bm n S g off cap W wr) (k : wr.grownBy w1 none) : RS w l p c Bm n S g off cap W w1 :=
  ⟨h.db.keep k, h.mp.kept k (by simp), h.qu.keep k, h.ne, h.gb, grown_trans h.gr k⟩
set_option maxRecDepth 100000 in
theorem RS.map {n2 : Nat} {S2 : List Int} (h : RS w l p c Bm n S g off cap W wr) (k : wr.grownBy w1 (some Bm)) (hm : OMb w1 Bm n2 (inS S2)) : RS w l p c Bm n2 S2 g off cap W w1 := by
  have hgb := h.gb
  exact ⟨h.db.grown k (fun b hb e => by have := Option.some.inj e; omega), hm, h.qu.grown k (fun e => h.ne (Option.some.inj e)), h.ne, h.gb, grown_new h.gr k h.gb⟩
set_option maxRecDepth 100000 in
theorem RS.push {g2 off2 cap2 : Nat} {W2 : List Ad} (h : RS w l p c Bm n S g off cap W wr) (k : wr.grownBy w1 (some g)) (hq : Qu w1 w.heap.size 5 g2 off2 W2.length cap2 (W2.flatMap adL)) (hg : g2 = g ∨ wr.heap.size ≤ g2) : RS w l p c Bm n S g2 off2 cap2 W2 w1 := by
  have hge := h.qu.ge
  have hlt := h.mp.lt
  have hne := h.ne
  exact ⟨h.db.grown k (fun b hb e => by have := Option.some.inj e; omega), h.mp.kept k (fun e => hne (Option.some.inj e).symm), hq, by rcases hg with rfl | hg <;> omega, h.gb, grown_new h.gr k hge⟩
set_option maxRecDepth 100000 in
theorem RS.cells {A : Ad} (h : RS w l p c Bm n S g off cap (A :: W) wr) : wr.cell? ⟨g, off, none⟩ = some (.int .i64 A.r) ∧ wr.cell? ⟨g, off + 1, none⟩ = some (.int .i64 A.q) ∧ wr.cell? ⟨g, off + 2, none⟩ = some (.bool A.cp) ∧ wr.cell? ⟨g, off + 3, none⟩ = some (.slice A.pL A.L.length A.cL) ∧ wr.cell? ⟨g, off + 4, none⟩ = some (.slice A.pC A.C.length A.cC) := by
  have e : (A :: W).flatMap adL = adL A ++ W.flatMap adL := rfl
  have hf : ∀ j u, j < 5 → (adL A)[j]? = some u → wr.cell? ⟨g, off + j, none⟩ = some u := fun j u hj hu => h.qu.at_ j u (by rw [e, List.getElem?_append_left (by rw [adL_len]; exact hj)]; exact hu)
  exact ⟨hf 0 _ (by omega) rfl, hf 1 _ (by omega) rfl, hf 2 _ (by omega) rfl, hf 3 _ (by omega) rfl, hf 4 _ (by omega) rfl⟩
set_option maxRecDepth 100000 in
theorem RS.pop {A : Ad} (h : RS w l p c Bm n S g off cap (A :: W) wr) : (cap ≠ 1 → RS w l p c Bm n S g (off + 5) (cap - 1) W wr) ∧ (cap = 1 → RS w l p c Bm n S g off 0 W wr ∧ W = []) := by
  have e : (A :: W).flatMap adL = adL A ++ W.flatMap adL := rfl
  have hq := h.qu
  have hle := hq.le
  rw [List.length_cons] at hle
  refine ⟨fun _ => ?_, fun h1 => ?_⟩
  · have := Qu.pop (n := W.length) hq
    rw [e, show (5 : Nat) = (adL A).length from rfl, List.drop_left] at this
    exact ⟨h.db, h.mp, this, h.ne, h.gb, h.gr⟩
  · subst h1
    have hW : W = [] := List.eq_nil_of_length_eq_zero (by omega)
    subst hW
    exact ⟨⟨h.db, h.mp, ⟨hq.ge, hq.lt, Nat.le_refl _, rfl, fun j u hj => by simp at hj, fun j hj => by simp at hj⟩, h.ne, h.gb, h.gr⟩, rfl⟩
end
/-- What is still to be done gives what is reached. -/
structure BI (l : List Ad) (r : Int) (S : List Int) (W : List Ad) : Prop where
  frm : ∀ B ∈ W, B ∈ l
  run : bfs l (unv l S + W.length) S W = reS l r
set_option maxRecDepth 100000 in
theorem BI.next {l : List Ad} (hp : l.Pairwise (fun A B => A.r < B.r)) {r : Int} {S S2 : List Int} {A : Ad} {W W3 : List Ad} (h : BI l r S (A :: W)) (e : (lnk l A).foldl addA (S, A :: W) = (S2, A :: W3)) : BI l r S2 W3 ∧ unv l S2 + W3.length + 1 = unv l S + (A :: W).length := by
  rw [add_cons] at e
  injection e with e1 e2
  injection e2 with _ e2
  have h1 := h.run
  rw [bfs_step hp, e1, e2] at h1
  have h2 := add_keep hp (lnk l A) (fun B hB => lnk_mem hB) (S, W)
  rw [e1, e2] at h2
  refine ⟨⟨fun B hB => ?_, h1⟩, by rw [List.length_cons]; simp only at h2; omega⟩
  rw [← e2] at hB
  exact add_from (lnk l A) (fun C hC => lnk_mem hC) (S, W) (fun C hC => h.frm C (List.mem_cons_of_mem _ hC)) B hB
/-- Linked routers in a row that was made while blocks h7 to h8 came. -/
structure RM2 (w : World) (l : List Ad) (p : Option Addr) (c Bm n : Nat) (S : List Int) (g off cap : Nat) (W : List Ad) (pm : Option Addr) (cm : Nat) (M : List Ad) (h7 h8 : Nat) (wr : World) : Prop where
  s : RS w l p c Bm n S g off cap W wr
  m : RdF wr (fun b => h7 ≤ b ∧ b < h8) (.slice pm M.length cm) M.length (M.flatMap adL)
  a : (g < h7 ∨ h8 ≤ g) ∧ Bm < h7 ∧ h8 ≤ wr.heap.size
set_option maxRecDepth 100000 in
theorem inS_put {S : List Int} {x : Int} : (fun u => if u = x then true else inS S u) = inS (S ++ [x]) := by
  funext u
  rw [inS_app, inS_one]
  by_cases e : u = x
  · subst e; simp
  · rw [if_neg e, decide_eq_false (fun h => e h.symm), Bool.or_false]
set_option maxRecDepth 100000 in
set_option maxHeartbeats 6400000 in
theorem dreached_any (l : List Ad) (r : Int) (p : Option Addr) (c : Nat) (q : Nat → Prop) (w : World) (hR : RdA w q (.slice p l.length c) l) (hD : OkD l) :
    Calls Try.prog 65 #[.slice p l.length c, .int .i64 r] w fun e w' => ∃ v, e = .returned v ∧ MVb w' (w.heap.size ≤ ·) v (inS (reS l r)) ∧ w.grownBy w' none := by
  obtain ⟨ia, hia, hz0, hz1, hz2⟩ := info_parts info_ad5
  have HR := Lib.hid (RdA.old hR)
  have HD := Lib.hid hD
  have HP := Lib.hid hD.pair
  have hll := hD.len
  have HRNG : Hid (∀ A ∈ l, (1 ≤ A.r ∧ A.r ≤ 99) ∧ A.L.length ≤ 23) := Lib.hid (fun A hA => ⟨(VA.of (hD.v A hA)).r, (VA.of (hD.v A hA)).ll⟩)
  clear hR hD
  go_enter Try.func65, Try.ntmps65
  go_wp2_with fail
  refine (dplace_any l r p c _ w HR.out (by omega)).mono ?_
  rintro e w1 ⟨i, bo, rfl, hPl, hg⟩
  have hF := hPl.fnd HP.out
  have G1 := Lib.hid hg
  clear hPl hg
  cases bo with
  | false =>
    have HRE : Hid (reS l r = []) := Lib.hid (by unfold reS; rw [hF.2 rfl])
    clear hF
    go_wp2_with fail
    go_ret
    exact ⟨_, rfl, .inl ⟨rfl, fun x => by rw [HRE.out]; rfl⟩, G1.out⟩
  | true =>
    obtain ⟨hi, hsm⟩ := hF.1 rfl
    obtain ⟨A0, hA0⟩ : ∃ B, fndA l r = some B := Option.isSome_iff_exists.1 hsm
    rw [hA0] at hi
    have hil : i < l.length := (List.getElem?_eq_some_iff.1 hi).1
    obtain ⟨hA0m, hA0r⟩ := fndA_some hA0
    have hr99 : 1 ≤ r ∧ r ≤ 99 := by have := (HRNG.out A0 hA0m).1; omega
    have HA0 := Lib.hid (And.intro hi hA0m)
    have HRE : Hid (reS l r = bfs l (unv l [r] + 1) [r] [A0]) := Lib.hid (by unfold reS; rw [hA0])
    obtain ⟨w3, hput, hm3, hg3⟩ := (OMb.made w1).put (x := r) (by omega) (by unfold I64; omega)
    have hm3' : OMb w3 w1.heap.size (0 + 1) (inS [r]) := by
      have e := hm3
      unfold putB at e
      have e2 : (fun u => if u = r then true else false) = inS [r] := by
        funext u
        rw [inS_one]
        by_cases e : u = r
        · subst e; simp
        · rw [if_neg e, decide_eq_false (fun h => e h.symm)]
      rw [e2] at e
      exact e
    have g13 : w1.grownBy w3 none := grown_any (World.grownBy_alloc w1 (.map #[] 0) none) hg3 (fun b hb e => by have := Option.some.inj e; omega)
    have HP3 := Lib.hid hput
    have hsz1 := G1.out.size
    have ga := World.grownBy_alloc w3 (.cells #[.int .i64 A0.r, .int .i64 A0.q, .bool A0.cp, .slice A0.pL A0.L.length A0.cL, .slice A0.pC A0.C.length A0.cC] 38) none
    have hrow := World.ownsRow_lit (base := w1.heap.size + 1) (e := 38) (size := 5) w3 #[.int .i64 A0.r, .int .i64 A0.q, .bool A0.cp, .slice A0.pL A0.L.length A0.cL, .slice A0.pC A0.C.length A0.cC] 1 (by have := hm3.lt; omega) (by decide) rfl
    have K0 : Hid (RS w l p c w1.heap.size 1 [r] w3.heap.size 0 1 [A0] (w3.alloc (.cells #[.int .i64 A0.r, .int .i64 A0.q, .bool A0.cp, .slice A0.pL A0.L.length A0.cL, .slice A0.pC A0.C.length A0.cC] 38))) := Lib.hid (by
      have hq := Qu.of hrow
      refine ⟨((HR.out.keep G1.out).keep g13).keep ga, hm3'.kept ga (by simp), ⟨by have := hq.ge; omega, hq.lt, hq.le, hq.len, hq.at_, hq.spare⟩, by have := hm3.lt; omega, hsz1, grown_trans (grown_trans G1.out g13) ga⟩)
    have hu0 : unv l [r] ≤ 99 := by
      have := List.length_filter_le (fun A : Ad => !inS [r] A.r) l
      unfold unv
      omega
    have B0 : Hid (BI l r [r] [A0]) := Lib.hid ⟨fun B hB => by rw [List.mem_singleton] at hB; subst hB; exact hA0m, HRE.out.symm⟩
    have HU0 : Hid (unv l [r] ≤ 99) := Lib.hid hu0
    obtain ⟨-, b1, off1, rfl, -, -⟩ := rda_cells HR.out (by omega)
    have hcells := rda_at ((HR.out.keep G1.out).keep g13) hi
    have HCE := Lib.hid hcells
    obtain ⟨Bm, hBm⟩ : ∃ Bm, w1.heap.size = Bm := ⟨_, rfl⟩
    have i0 : (0 : Int) ≤ (i : Int) := by omega
    have i1 : (i : Int) < (l.length : Int) := by omega
    rw [hBm] at hput K0
    clear hF hi hsm hA0 hA0m hA0r hm3 hm3' hg3 g13 ga hrow hu0 hsz1 hcells
    have hmm := fun t w => run_makeMap (P := Try.prog) t w
    obtain ⟨e0, e1, e2, e3, e4⟩ := HCE.out
    go_upto_block 0 with fail
    clear hmm hput e0 e1 e2 e3 e4 HCE HP3
    generalize w3.alloc _ = w4 at *
    generalize w3.heap.size = g0 at *
    go_wp2_with fail
    go_loopg [8] (unv l [r] + 1) (fun gh vo wr => ∃ (S : List Int) (W : List Ad) (n g off cap : Nat), vo = .slice (some ⟨g, off, none⟩) W.length cap ∧ unv l S + W.length = gh ∧ gh ≤ 100 ∧ n + unv l S ≤ 100 ∧ Hid (RS w l (some ⟨b1, off1, none⟩) c Bm n S g off cap W wr) ∧ Hid (BI l r S W))
    case atStart => exact ⟨[r], [A0], 1, g0, 0, 1, rfl, rfl, by have := HU0.out; omega, by have := HU0.out; omega, K0, B0⟩
    case round =>
    obtain ⟨S, W, n, g, off, cap, rfl, hgk, hgk1, hn, K, B⟩ := hrel
    clear K0 B0 HU0
    cases W with
    | nil =>
      have HEX : Hid (reS l r = S) := Lib.hid (by rw [← B.out.run]; exact bfs_nil l _ S)
      have HO : Hid (MVb wr (w.heap.size ≤ ·) (.map (some Bm)) (inS (reS l r)) ∧ w.grownBy wr none) := Lib.hid ⟨Or.inr ⟨Bm, n, rfl, K.out.gb, by omega, by rw [HEX.out]; exact K.out.mp⟩, K.out.gr⟩
      clear K B
      go_wp2_with fail
      go_ret
      exact ⟨_, rfl, HO.out.1, HO.out.2⟩
    | cons A W =>
      obtain ⟨a0, a1, a2, a3, a4⟩ := K.out.cells
      have hAm := B.out.frm A List.mem_cons_self
      have hAL : A.L.length ≤ 1000 := by have := (HRNG.out A hAm).2; omega
      have HAM := Lib.hid hAm
      have hWl : 0 < (A :: W).length := by simp
      obtain ⟨mW, hmW⟩ : ∃ mW, (A :: W).length = mW := ⟨_, rfl⟩
      rw [hmW] at hgk hWl ⊢
      have HMW := Lib.hid hmW
      have hw1 : (0 : Int) < (mW : Int) := by omega
      clear hAm hmW
      go_wp2_with fail
      refine (dlinked_any l A (some ⟨b1, off1, none⟩) c _ wr K.out.db (K.out.db.ok A HAM.out) HP.out (by omega) hAL).mono ?_
      rintro e w5 ⟨pm, cm, rfl, hM, hMl, hg⟩
      have hlen := lnk_len l A
      obtain ⟨M, hMM⟩ : ∃ M, lnk l A = M := ⟨_, rfl⟩
      rw [hMM] at hM hMl hlen ⊢
      have HMM := Lib.hid hMM
      have C0 : Hid (RM2 w l (some ⟨b1, off1, none⟩) c Bm n S g off cap (A :: W) pm cm M wr.heap.size w5.heap.size w5) := Lib.hid ⟨K.out.keep hg, hM, ⟨.inl K.out.qu.lt, K.out.mp.lt, Nat.le_refl _⟩⟩
      generalize wr.heap.size = h7 at *
      generalize w5.heap.size = h8 at *
      have hMx : M.length ≤ 1000 := by omega
      clear hM hg hMM a0 a1 a2 a3 a4 K hlen
      go_wp2_with fail
      go_loopw [8, 38] (fun vo a wq => ∃ (k : Nat) (S2 : List Int) (W2 : List Ad) (n2 g2 off2 cap2 : Nat), vo = .slice (some ⟨g2, off2, none⟩) W2.length cap2 ∧ k ≤ M.length ∧ a = .int .i64 (k : Int) ∧ n2 + unv l S2 ≤ 100 ∧ Hid ((M.take k).foldl addA (S, A :: W) = (S2, W2)) ∧ Hid (RM2 w l (some ⟨b1, off1, none⟩) c Bm n2 S2 g2 off2 cap2 W2 pm cm M h7 h8 wq)) (fun _ a _ => M.length - (RowKit.intOf a).toNat)
      case atStart => exact ⟨0, S, A :: W, n, g, off, cap, by rw [HMW.out], Nat.zero_le _, rfl, hn, Lib.hid rfl, C0⟩
      case round =>
      obtain ⟨k, S2, W2, n2, g2, off2, cap2, rfl, hk, rfl, hn2, HF, C⟩ := hrel
      clear C0
      have hsum : unv l S2 + W2.length = gk := by
        have := add_keep HP.out (M.take k) (fun B hB => by have := List.mem_of_mem_take hB; rw [← HMM.out] at this; exact lnk_mem this) (S, A :: W)
        rw [HF.out] at this
        simp only at this
        rw [HMW.out] at this
        omega
      by_cases hlt : k < M.length
      · obtain ⟨-, bm, offm, rfl, -, -⟩ := RdF.cells (f := adL) (k := 5) adL_len (by decide) C.out.m (by omega)
        obtain ⟨x, hx⟩ : ∃ x, M[k]? = some x := ⟨_, List.getElem?_eq_getElem hlt⟩
        have hcx : wr.cell? ⟨bm, offm + k * 5, none⟩ = some (.int .i64 x.r) ∧ wr.cell? ⟨bm, offm + k * 5 + 1, none⟩ = some (.int .i64 x.q) ∧ wr.cell? ⟨bm, offm + k * 5 + 2, none⟩ = some (.bool x.cp) ∧ wr.cell? ⟨bm, offm + k * 5 + 3, none⟩ = some (.slice x.pL x.L.length x.cL) ∧ wr.cell? ⟨bm, offm + k * 5 + 4, none⟩ = some (.slice x.pC x.C.length x.cC) := by
          obtain ⟨-, b', o', e, -, hc⟩ := RdF.cells (f := adL) (k := 5) adL_len (by decide) C.out.m (by omega)
          injection e with e
          injection e with e1 e2
          subst e1
          subst e2
          exact ⟨hc k x hx 0 _ rfl, hc k x hx 1 _ rfl, hc k x hx 2 _ rfl, hc k x hx 3 _ rfl, hc k x hx 4 _ rfl⟩
        obtain ⟨a0, a1, a2, a3, a4⟩ := hcx
        have hxm : x ∈ l := by
          have := List.mem_of_getElem? hx
          rw [← HMM.out] at this
          exact lnk_mem this
        have hxI : I64 x.r := by have := (HRNG.out x hxm).1; unfold I64; omega
        have HST : Hid ((M.take (k + 1)).foldl addA (S, A :: W) = addA (S2, W2) x) := Lib.hid (by rw [add_step hx, HF.out])
        have HXM := Lib.hid hxm
        have gal := World.grownBy_alloc wr (.cells #[.int .i64 x.r, .int .i64 x.q, .bool x.cp, .slice x.pL x.L.length x.cL, .slice x.pC x.C.length x.cC] 38) none
        have HXB := Lib.hid (heap_alloc_new wr (.cells #[.int .i64 x.r, .int .i64 x.q, .bool x.cp, .slice x.pL x.L.length x.cL, .slice x.pC x.C.length x.cC] 38))
        have C1 : Hid (RM2 w l (some ⟨b1, off1, none⟩) c Bm n2 S2 g2 off2 cap2 W2 (some ⟨bm, offm, none⟩) cm M h7 h8 (wr.alloc (.cells #[.int .i64 x.r, .int .i64 x.q, .bool x.cp, .slice x.pL x.L.length x.cL, .slice x.pC x.C.length x.cC] 38))) := Lib.hid ⟨C.out.s.keep gal, C.out.m.grown gal (fun _ _ => by simp), ⟨C.out.a.1, C.out.a.2.1, Nat.le_trans C.out.a.2.2 gal.size⟩⟩
        clear hx hxm gal C
        go_upto_region 11 with fail
        clear a0 a1 a2 a3 a4
        generalize wr.alloc _ = wy at *
        generalize wr.heap.size = X at *
        obtain ⟨d0, d1, d2, d3, d4⟩ := row5 HXB.out
        have hlook := C1.out.s.mp.look hxI
        obtain ⟨bs, hbs⟩ : ∃ bs, inS S2 x.r = bs := ⟨_, rfl⟩
        rw [hbs] at hlook
        cases bs with
        | true =>
          have HF2 : Hid ((M.take (k + 1)).foldl addA (S, A :: W) = (S2, W2)) := Lib.hid (by rw [HST.out]; unfold addA; rw [if_pos hbs])
          clear hbs
          go_wp2_with fail
          exact ⟨⟨k + 1, S2, W2, n2, g2, off2, cap2, rfl, by omega, congrArg _ (by omega), hn2, HF2, C1⟩, by simp only [RowKit.intOf]; omega⟩
        | false =>
          have HF2 : Hid ((M.take (k + 1)).foldl addA (S, A :: W) = (S2 ++ [x.r], W2 ++ [x])) := Lib.hid (by rw [HST.out]; unfold addA; rw [if_neg (by rw [hbs]; decide)])
          have hun := unv_add HP.out HXM.out hbs
          obtain ⟨w9, hput2, hm9, hg9⟩ := C1.out.s.mp.put (by omega) hxI
          unfold putB at hm9
          rw [inS_put] at hm9
          have C2 : Hid (RM2 w l (some ⟨b1, off1, none⟩) c Bm (n2 + 1) (S2 ++ [x.r]) g2 off2 cap2 W2 (some ⟨bm, offm, none⟩) cm M h7 h8 w9) := Lib.hid ⟨C1.out.s.map hg9 hm9, C1.out.m.grown hg9 (fun b hb e => by have := Option.some.inj e; have := C1.out.a.2.1; omega), ⟨C1.out.a.1, C1.out.a.2.1, Nat.le_trans C1.out.a.2.2 hg9.size⟩⟩
          have hXne : X ≠ Bm := fun e => by
            have h1 := C1.out.s.mp
            obtain ⟨D, ⟨es, ck, hb, _⟩, _⟩ := h1
            rw [← e, HXB.out] at hb
            cases hb
          have HXB9 := Lib.hid (kept_row HXB.out hg9 (fun e => hXne (Option.some.inj e)))
          clear hbs hm9 hg9 hXne
          go_upto_region 13 with fail
          clear hput2 hlook C1 HXB d0 d1 d2 d3 d4
          obtain ⟨d0, d1, d2, d3, d4⟩ := row5 HXB9.out
          have k9 := World.grownBy_alloc w9 (.cells #[.int .i64 x.r, .int .i64 x.q, .bool x.cp, .slice x.pL x.L.length x.cL, .slice x.pC x.C.length x.cC] 38) none
          have C3 := C2.out.s.keep k9
          obtain ⟨g3, off3, cap3, w11, hrun, hq3, hg3, hgg⟩ := Qu.push (P := Try.prog) C3.qu 23 23 38 ia _ Try.underlying23 hia hz0 hz1 hz2 rfl (by decide) (by decide) (by omega) ⟨w9.heap.size, 0, none⟩ 1 (adL x) (adL_len x) (fun j u hu => one_rowA w9 _ x j u (by simpa using hu)) (ad_one x) C3.gr.size
          have hfl : W2.flatMap adL ++ adL x = (W2 ++ [x]).flatMap adL := by rw [List.flatMap_append, List.flatMap_cons, List.flatMap_nil, List.append_nil]
          have hle2 : W2.length + 1 = (W2 ++ [x]).length := by rw [List.length_append]; rfl
          rw [hfl] at hq3
          have C4 : Hid (RM2 w l (some ⟨b1, off1, none⟩) c Bm (n2 + 1) (S2 ++ [x.r]) g3 off3 cap3 (W2 ++ [x]) (some ⟨bm, offm, none⟩) cm M h7 h8 w11) := Lib.hid (by
            have ha := C2.out.a
            have hs8 := Nat.le_trans ha.2.2 k9.size
            refine ⟨C3.push hg3 (by rw [← hle2]; exact hq3) hgg, (C2.out.m.grown k9 (fun _ _ => by simp)).grown hg3 (fun b hb e => by have := Option.some.inj e; omega), ⟨?_, ha.2.1, Nat.le_trans hs8 hg3.size⟩⟩
            rcases hgg with rfl | hgg
            · exact ha.1
            · exact .inr (Nat.le_trans hs8 hgg))
          have HRUN := Lib.hid hrun
          clear hrun hq3 hg3 hgg C3 C2 k9 hfl
          go_wp2_with (at_builtin; refine hold_on ?_)
          refine Lib.hid ?_
          refine wpList_append_run rfl _ _ 23 rfl (.slice (some ⟨g2, off2, none⟩) W2.length cap2) (.slice (some ⟨w9.heap.size, 0, none⟩) 1 1) _ (by rfl) (by rfl) (by exact HRUN.out) ?_
          clear HRUN
          simp only [Act.put, List.setIfInBounds_toArray, List.set_cons_zero, List.set_cons_succ]
          go_wp2_with fail
          exact ⟨⟨k + 1, S2 ++ [x.r], W2 ++ [x], n2 + 1, g3, off3, cap3, by rw [hle2], by omega, congrArg _ (by omega), by omega, HF2, C4⟩, by simp only [RowKit.intOf]; omega⟩
      · obtain rfl : k = M.length := by omega
        have hF9 := HF.out
        rw [List.take_length, ← HMM.out] at hF9
        obtain ⟨W3, rfl⟩ : ∃ W3, W2 = A :: W3 := by
          have h := hF9
          rw [add_cons] at h
          injection h with _ h2
          exact ⟨_, h2.symm⟩
        obtain ⟨hB2, hdec⟩ := B.out.next HP.out hF9
        have HB2 := Lib.hid hB2
        have hpop := C.out.s.pop
        rw [List.length_cons] at hsum
        rw [HMW.out] at hdec
        have hl1 : (1 : Int) ≤ ((A :: W3).length : Int) := by simp only [List.length_cons]; omega
        have hl2 : (A :: W3).length - 1 = W3.length := by simp
        obtain ⟨mz, hmz⟩ : ∃ mz, (A :: W3).length = mz := ⟨_, rfl⟩
        rw [hmz] at hl1 hl2 ⊢
        by_cases hcap : cap2 = 1
        · obtain ⟨K2, rfl⟩ := hpop.2 hcap
          have HK2 := Lib.hid K2
          subst hcap
          obtain rfl : mz = 1 := by rw [← hmz]; rfl
          clear hpop K2 hF9 hB2 hmz hl2
          go_wp2_with fail
          go_roundg (unv l S2 + 0)
          case measure => omega
          case rel => exact ⟨S2, [], n2, g2, off2, 0, rfl, rfl, by omega, hn2, HK2, HB2⟩
        · have K2 := hpop.1 hcap
          have HK2 := Lib.hid K2
          have hcapn : ¬ cap2 = 1 := hcap
          clear hpop K2 hF9 hB2 hmz hcap
          go_wp2_with fail
          go_roundg (unv l S2 + W3.length)
          case measure => omega
          case rel => exact ⟨S2, W3, n2, g2, off2 + 5, cap2 - 1, by first | rfl | rw [hl2], rfl, by omega, hn2, HK2, HB2⟩
end Go.Proofs.Ytnpkihioklpnmaa

/- database.between: the link between two linked routers. -/
namespace Go.Proofs.Ytnpkihioklpnmaa
open Go.RowKit Bs
set_option maxRecDepth 100000 in
theorem lk_size5 : (Try.prog.info? 71).map (·.size) = some 5 := by kernel_rfl
set_option maxRecDepth 100000 in
theorem res_lk5 {fn : Func} {p : Tmp} (h : fn.results = #[.cell p 71]) (tmps : Array Value) (w : World) (g : Nat) (x y z u v : Value) (hp : tmps.getD p undef = .pointer (some ⟨g, 0, none⟩)) (hg : w.heap[g]? = some (.cells #[x, y, z, u, v] 71 (0, 0))) :
    (results fn tmps).run Try.prog w = .ok (.agg #[x, y, z, u, v]) w :=
  results_cell_row h tmps w g _ _ _ _ hp hg Try.underlying71 rfl lk_size5
set_option maxRecDepth 100000 in
set_option maxHeartbeats 3200000 in
theorem dbtw_any (A B : Ad) (q q2 : Nat → Prop) (w : World) (hA : AdOk w q A) (hB : AdOk w q2 B) :
    Calls Try.prog 67 #[.agg #[.int .i64 A.r, .int .i64 A.q, .bool A.cp, .slice A.pL A.L.length A.cL, .slice A.pC A.C.length A.cC], .agg #[.int .i64 B.r, .int .i64 B.q, .bool B.cp, .slice B.pL B.L.length B.cL, .slice B.pC B.C.length B.cC]] w fun e w' => e = .returned (.agg #[.int .i64 (btw A B).a, .int .i64 (btw A B).b, .int .i64 (btw A B).ca, .int .i64 (btw A B).cb, .int .i64 (btw A B).cp]) ∧ w.grownBy w' none := by
  obtain ⟨k1, k2, k3, k4⟩ := two_boxes w #[.int .i64 A.r, .int .i64 A.q, .bool A.cp, .slice A.pL A.L.length A.cL, .slice A.pC A.C.length A.cC] #[.int .i64 B.r, .int .i64 B.q, .bool B.cp, .slice B.pL B.L.length B.cL, .slice B.pC B.C.length B.cC] 38 38
  obtain ⟨w2, hw2⟩ : ∃ w2, w2 = (w.alloc (.cells #[.int .i64 A.r, .int .i64 A.q, .bool A.cp, .slice A.pL A.L.length A.cL, .slice A.pC A.C.length A.cC] 38)).alloc (.cells #[.int .i64 B.r, .int .i64 B.q, .bool B.cp, .slice B.pL B.L.length B.cL, .slice B.pC B.C.length B.cC] 38) := ⟨_, rfl⟩
  rw [← hw2] at k1 k2 k3 k4
  have k5 := heap_alloc_new w2 (.cells #[.int .i64 0, .int .i64 0, .int .i64 0, .int .i64 0, .int .i64 0] 71)
  have k6 := World.grownBy_alloc w2 (.cells #[.int .i64 0, .int .i64 0, .int .i64 0, .int .i64 0, .int .i64 0] 71) none
  rw [k4] at k5
  have H0 := Lib.hid (And.intro (kept_row k1 k6 (by simp)) (And.intro (kept_row k2 k6 (by simp)) (And.intro k5 (And.intro (grown_trans k3 k6) (And.intro (hA.keep (grown_trans k3 k6)) (hB.keep (grown_trans k3 k6)))))))
  clear k1 k2 k3 k4 k5 k6 hA hB
  obtain ⟨x1, hx1⟩ : ∃ x, rcV A B.r = x := ⟨_, rfl⟩
  obtain ⟨x2, hx2⟩ : ∃ x, rcV B A.r = x := ⟨_, rfl⟩
  obtain ⟨z, hz⟩ : ∃ z, btw A B = z := ⟨_, rfl⟩
  have HZ : Hid (z = ⟨A.r, B.r, x1.b, x2.b, min x1.c x2.c⟩) := Lib.hid (by rw [← hz]; unfold btw; rw [hx1, hx2])
  rw [hz]
  have HX := Lib.hid (And.intro hx1 hx2)
  clear hx1 hx2 hz
  go_enter Try.func67, Try.ntmps67
  go_upto_region 1 with fail
  rw [← hw2]
  clear hw2
  generalize w2.alloc _ = wa at *
  obtain ⟨a0, a1, a2, a3, a4⟩ := row5 H0.out.1
  obtain ⟨b0, b1, b2, b3, b4⟩ := row5 H0.out.2.1
  go_wp2_with fail
  refine (dreach_any A B.r q _ H0.out.2.2.2.2.1).mono ?_
  rintro e w3 ⟨rfl, hg⟩
  rw [HX.out.1]
  have g4 := grown_trans hg (World.grownBy_alloc w3 (.cells #[.int .i64 x1.a, .int .i64 x1.b, .int .i64 x1.c] 73) none)
  have H1 := Lib.hid (And.intro (kept_row H0.out.1 g4 (by simp)) (And.intro (kept_row H0.out.2.1 g4 (by simp)) (And.intro (kept_row H0.out.2.2.1 g4 (by simp)) (And.intro (grown_trans H0.out.2.2.2.1 g4) (And.intro (heap_alloc_new w3 (.cells #[.int .i64 x1.a, .int .i64 x1.b, .int .i64 x1.c] 73)) (H0.out.2.2.2.2.2.keep g4))))))
  clear H0 hg g4 a0 a1 a2 a3 a4 b0 b1 b2 b3 b4
  go_upto_region 2 with fail
  generalize w3.alloc _ = w4 at *
  generalize w3.heap.size = E1 at *
  obtain ⟨a0, a1, a2, a3, a4⟩ := row5 H1.out.1
  obtain ⟨b0, b1, b2, b3, b4⟩ := row5 H1.out.2.1
  go_wp2_with fail
  refine (dreach_any B A.r q2 _ H1.out.2.2.2.2.2).mono ?_
  rintro e w5 ⟨rfl, hg⟩
  rw [HX.out.2]
  have g4 := grown_trans hg (World.grownBy_alloc w5 (.cells #[.int .i64 x2.a, .int .i64 x2.b, .int .i64 x2.c] 73) none)
  have H2 := Lib.hid (And.intro (kept_row H1.out.1 g4 (by simp)) (And.intro (kept_row H1.out.2.1 g4 (by simp)) (And.intro (kept_row H1.out.2.2.1 g4 (by simp)) (And.intro (grown_trans H1.out.2.2.2.1 g4) (And.intro (kept_row H1.out.2.2.2.2.1 g4 (by simp)) (heap_alloc_new w5 (.cells #[.int .i64 x2.a, .int .i64 x2.b, .int .i64 x2.c] 73)))))))
  clear H1 hg g4 a0 a1 a2 a3 a4 b0 b1 b2 b3 b4
  go_upto_region 3 with fail
  generalize w5.alloc _ = w6 at *
  generalize w5.heap.size = E2 at *
  obtain ⟨a0, a1, a2, a3, a4⟩ := row5 H2.out.1
  obtain ⟨b0, b1, b2, b3, b4⟩ := row5 H2.out.2.1
  obtain ⟨c0, c1, c2⟩ := row3 H2.out.2.2.2.2.1
  obtain ⟨d0, d1, d2⟩ := row3 H2.out.2.2.2.2.2
  obtain ⟨e0, e1, e2, e3, e4⟩ := row5 H2.out.2.2.1
  have f0 := frozen_of_row _ _ 0 _ _ H2.out.2.2.1
  have f1 := frozen_of_row _ _ 1 _ _ H2.out.2.2.1
  have f2 := frozen_of_row _ _ 2 _ _ H2.out.2.2.1
  have f3 := frozen_of_row _ _ 3 _ _ H2.out.2.2.1
  have f4 := frozen_of_row _ _ 4 _ _ H2.out.2.2.1
  obtain ⟨mc, hmc⟩ : ∃ mc, (if x2.c < x1.c then x2.c else x1.c) = mc := ⟨_, rfl⟩
  have HMC : Hid (min x1.c x2.c = mc) := Lib.hid (by rw [← hmc]; split <;> omega)
  obtain ⟨t1, t2⟩ := store5 (.int .i64 A.r) (.int .i64 B.r) (.int .i64 x1.b) (.int .i64 x2.b) (.int .i64 mc) H2.out.2.2.1
  have HT := Lib.hid (And.intro t1 (grown_new H2.out.2.2.2.1 t2 (by omega)))
  clear t1 t2 H2
  go_wp2_with fail
  refine bodyPost_ret (res_lk5 rfl _ _ (w.heap.size + 1 + 1) _ _ _ _ _ rfl HT.out.1) rfl ?_
  rw [HZ.out, HMC.out]
  exact ⟨rfl, HT.out.2⟩
end Go.Proofs.Ytnpkihioklpnmaa

/- database: IndexFunc and ContainsFunc of adverts, ascending, Check, valid. -/
namespace Go.Proofs.Ytnpkihioklpnmaa
open Go.RowKit Bs
set_option maxRecDepth 100000 in
set_option maxHeartbeats 1600000 in
theorem didx_any (g : Nat) (lb : Array Value) (P : Ad → Bool) (eg : EnterF g) (R : List Ad) (p : Option Addr) (c : Nat) (q : Nat → Prop) (w : World) (hR : RdA w q (.slice p R.length c) R) (hm : R.length ≤ 9223372036854775807)
    (hP : ∀ (r : Ad) (w' : World), r ∈ R → w.grownBy w' none → Calls Try.prog g (#[.agg #[.int .i64 r.r, .int .i64 r.q, .bool r.cp, .slice r.pL r.L.length r.cL, .slice r.pC r.C.length r.cC]] ++ lb) w' fun e w2 => e = .returned (.bool (P r)) ∧ w'.grownBy w2 none) :
    Calls Try.prog 78 #[.slice p R.length c, .func (.func g) #[] lb] w fun e w' => ∃ i : Int, e = .returned (.int .i64 i) ∧ decide (0 ≤ i) = R.any P ∧ w.grownBy w' none := by
  have HR := Lib.hid hR
  have HP := Lib.hid hP
  clear hR hP
  go_enter Try.func78, Try.ntmps78
  go_wp2_with fail
  go_loopw [8] (fun a wr => ∃ k : Nat, k ≤ R.length ∧ a = .int .i64 (k : Int) ∧ Hid (w.grownBy wr none) ∧ Hid ((R.take k).any P = false)) (fun a _ => R.length - (RowKit.intOf a).toNat)
  case atStart => exact ⟨0, Nat.zero_le _, rfl, Lib.hid (grown_refl _ _), Lib.hid rfl⟩
  case round =>
    obtain ⟨k, hk, rfl, G, HN⟩ := hrel
    by_cases hlt : k < R.length
    · obtain ⟨-, b, off, rfl, hq, hc⟩ := rda_cells (HR.out.keep G.out) (by omega)
      obtain ⟨x, hx⟩ : ∃ x, R[k]? = some x := ⟨_, List.getElem?_eq_getElem hlt⟩
      obtain ⟨a0, a1, a2, a3, a4⟩ := hc k x hx
      have HX := Lib.hid hx
      have hxm := List.mem_of_getElem? hx
      clear hc hx
      have hcall := HP.out x wr hxm G.out
      clear hxm
      cases hp : P x
      · rw [hp] at hcall
        have HY := Lib.hid hp
        clear hp
        go_wp2_with (go_at_fn g; refine hcall.mono ?_; rintro e w' ⟨rfl, hg⟩; have HG := Lib.hid (grown_trans G.out hg); clear hg)
        exact ⟨⟨k + 1, by omega, congrArg _ (by omega), HG, Lib.hid (any_take HN.out HX.out HY.out)⟩, by simp only [RowKit.intOf]; omega⟩
      · rw [hp] at hcall
        have HY := Lib.hid hp
        clear hp
        go_wp2_with (go_at_fn g; refine hcall.mono ?_; rintro e w' ⟨rfl, hg⟩; have HG := Lib.hid (grown_trans G.out hg); clear hg)
        go_ret
        refine ⟨_, rfl, ?_, HG.out⟩
        rw [any_at HX.out HY.out, decide_eq_true_eq]; omega
    · obtain rfl : k = R.length := by omega
      go_wp2_with fail
      go_ret
      refine ⟨_, rfl, ?_, G.out⟩
      rw [any_end HN.out (Nat.le_refl _)]; decide
set_option maxRecDepth 100000 in
set_option maxHeartbeats 1600000 in
theorem dcont_any (g : Nat) (lb : Array Value) (P : Ad → Bool) (eg : EnterF g) (R : List Ad) (p : Option Addr) (c : Nat) (q : Nat → Prop) (w : World) (hR : RdA w q (.slice p R.length c) R) (hm : R.length ≤ 9223372036854775807)
    (hP : ∀ (r : Ad) (w' : World), r ∈ R → w.grownBy w' none → Calls Try.prog g (#[.agg #[.int .i64 r.r, .int .i64 r.q, .bool r.cp, .slice r.pL r.L.length r.cL, .slice r.pC r.C.length r.cC]] ++ lb) w' fun e w2 => e = .returned (.bool (P r)) ∧ w'.grownBy w2 none) :
    Calls Try.prog 47 #[.slice p R.length c, .func (.func g) #[] lb] w fun e w' => e = .returned (.bool (R.any P)) ∧ w.grownBy w' none := by
  have HR := Lib.hid hR
  have HP := Lib.hid hP
  clear hR hP
  go_enter Try.func47, Try.ntmps47
  go_wp2_with (go_at_call 78; refine (didx_any g lb P eg R p c q w HR.out hm HP.out).mono ?_; rintro e w' ⟨i, rfl, hi, hg⟩; have HI := Lib.hid (And.intro hi hg); clear hi hg)
  go_ret
  rw [← HI.out.1]
  exact ⟨rfl, HI.out.2⟩
set_option maxRecDepth 100000 in
theorem dchk1_any (A : Ad) (q : Nat → Prop) (w : World) (hA : AdOk w q A) :
    Calls Try.prog 48 #[.agg #[.int .i64 A.r, .int .i64 A.q, .bool A.cp, .slice A.pL A.L.length A.cL, .slice A.pC A.C.length A.cC]] w fun e w' => e = .returned (.bool (notV A)) ∧ w.grownBy w' none := by
  obtain ⟨k1, k2⟩ := tone_box w #[.int .i64 A.r, .int .i64 A.q, .bool A.cp, .slice A.pL A.L.length A.cL, .slice A.pC A.C.length A.cC] 38
  have HB := Lib.hid (And.intro k1 (And.intro k2 (hA.keep k2)))
  clear k1 k2 hA
  go_enter Try.func48, Try.ntmps48
  go_upto_region 1 with fail
  generalize w.alloc _ = wa at *
  obtain ⟨c0, c1, c2, c3, c4⟩ := row5 HB.out.1
  go_wp2_with fail
  refine (avalid_any A q _ HB.out.2.2).mono ?_
  rintro e w1 ⟨rfl, hg⟩
  have HG := Lib.hid (grown_trans HB.out.2.1 hg)
  clear hg HB c0 c1 c2 c3 c4
  obtain ⟨v, hv⟩ : ∃ v, vAd A = v := ⟨_, rfl⟩
  have HV : Hid (notV A = !v) := Lib.hid (by unfold notV; rw [hv])
  rw [hv]
  clear hv
  go_wp2_with fail
  go_ret
  exact ⟨by rw [HV.out]; rfl, HG.out⟩
set_option maxRecDepth 100000 in
set_option maxHeartbeats 3200000 in
theorem dasc_any (l : List Ad) (p : Option Addr) (c : Nat) (q : Nat → Prop) (w : World) (hR : RdA w q (.slice p l.length c) l) (hm : l.length ≤ 9223372036854775807) :
    Calls Try.prog 50 #[.slice p l.length c] w fun e w' => e = .returned (.bool (ascD 0 l)) ∧ w.grownBy w' none := by
  have HR := Lib.hid hR
  clear hR
  obtain ⟨X, hX⟩ : ∃ X, ascD 0 l = X := ⟨_, rfl⟩
  rw [hX]
  have HX0 : Hid (ascD (lastD l 0) (l.drop 0) = X) := Lib.hid (by rw [lastD_zero]; exact hX)
  clear hX
  have hz0 : lastD l 0 = 0 := lastD_zero l
  go_enter Try.func50, Try.ntmps50
  go_wp2_with fail
  go_loopw [3, 8] (fun u a wr => ∃ k : Nat, k ≤ l.length ∧ a = .int .i64 (k : Int) ∧ u = .int .i64 (lastD l k) ∧ Hid (ascD (lastD l k) (l.drop k) = X) ∧ Hid (w.grownBy wr none)) (fun _ a _ => l.length - (RowKit.intOf a).toNat)
  case atStart => exact ⟨0, Nat.zero_le _, rfl, by rw [hz0], HX0, Lib.hid (grown_refl _ _)⟩
  case round =>
    obtain ⟨k, hk, rfl, rfl, HX, G⟩ := hrel
    clear HX0 hz0
    by_cases hlt : k < l.length
    · obtain ⟨-, b, off, rfl, hq, hc⟩ := rda_cells (HR.out.keep G.out) (by omega)
      obtain ⟨x, hx⟩ : ∃ x, l[k]? = some x := ⟨_, List.getElem?_eq_getElem hlt⟩
      obtain ⟨a0, a1, a2, a3, a4⟩ := hc k x hx
      have HS := Lib.hid (And.intro (ascD_step hx) (lastD_succ hx))
      have gal := World.grownBy_alloc wr (.cells #[.int .i64 x.r, .int .i64 x.q, .bool x.cp, .slice x.pL x.L.length x.cL, .slice x.pC x.C.length x.cC] 38) none
      have HB := Lib.hid (And.intro (heap_alloc_new wr (.cells #[.int .i64 x.r, .int .i64 x.q, .bool x.cp, .slice x.pL x.L.length x.cL, .slice x.pC x.C.length x.cC] 38)) (grown_trans G.out gal))
      obtain ⟨z, hz⟩ : ∃ z, lastD l k = z := ⟨_, rfl⟩
      rw [hz] at HX HS ⊢
      clear hc hx gal hz
      go_upto_region 5 with fail
      clear a0 a1 a2 a3 a4
      generalize wr.alloc _ = wy at *
      obtain ⟨d0, d1, d2, d3, d4⟩ := row5 HB.out.1
      by_cases h : z < x.r
      · have h1 : ¬ x.r ≤ z := by omega
        have hd : decide (x.r ≤ z) = false := decide_eq_false h1
        have HX2 : Hid (ascD (lastD l (k + 1)) (l.drop (k + 1)) = X) := Lib.hid (by rw [← HX.out, HS.out.1, decide_eq_true h, Bool.true_and])
        go_wp2_with fail
        exact ⟨⟨k + 1, by omega, congrArg _ (by omega), by rw [HS.out.2], HX2, Lib.hid HB.out.2⟩, by simp only [RowKit.intOf]; omega⟩
      · have h1 : x.r ≤ z := by omega
        have hd : decide (x.r ≤ z) = true := decide_eq_true h1
        obtain rfl : X = false := by rw [← HX.out, HS.out.1, decide_eq_false h, Bool.false_and]
        go_wp2_with fail
        go_ret
        exact ⟨rfl, HB.out.2⟩
    · obtain rfl : k = l.length := by omega
      obtain rfl : X = true := by rw [← HX.out, List.drop_length, ascD]
      go_wp2_with fail
      go_ret
      exact ⟨rfl, G.out⟩
set_option maxRecDepth 100000 in
set_option maxHeartbeats 3200000 in
theorem dcheck_any (l : List Ad) (p : Option Addr) (c : Nat) (q : Nat → Prop) (w : World) (hR : RdA w q (.slice p l.length c) l) (hm : l.length ≤ 9223372036854775807) :
    Calls Try.prog 14 #[.agg #[.slice p l.length c]] w fun e w' => e = .returned (.int .i64 (chkD l)) ∧ w.grownBy w' none := by
  have eg : EnterF 48 := enters_of Try.func48 (by kernel_rfl) rfl
  obtain ⟨k1, k2⟩ := tone_box w #[.slice p l.length c] 25
  have HB := Lib.hid (And.intro k1 (And.intro k2 (hR.keep k2)))
  clear k1 k2 hR
  obtain ⟨X, hX⟩ : ∃ X, chkD l = X := ⟨_, rfl⟩
  rw [hX]
  have HX := Lib.hid hX
  clear hX
  go_enter Try.func14, Try.ntmps14
  go_upto_region 1 with fail
  generalize w.alloc _ = wa at *
  have c0 : wa.cell? ⟨w.heap.size, 0, none⟩ = some (.slice p l.length c) := cell_of_row _ _ _ _ _ _ HB.out.1
  by_cases h99 : (99 : Int) < (l.length : Int)
  · have hb : decide ((99 : Int) < (l.length : Int)) = true := decide_eq_true h99
    obtain rfl : X = 3 := by rw [← HX.out]; unfold chkD; rw [if_pos (show 99 < l.length by omega)]
    go_wp2_with fail
    go_ret
    exact ⟨rfl, HB.out.2.1⟩
  · have hb : decide ((99 : Int) < (l.length : Int)) = false := decide_eq_false h99
    have HX1 : Hid ((if l.any notV = true then (1 : Int) else if ascD 0 l = false then 25 else 0) = X) := Lib.hid (by rw [← HX.out]; unfold chkD; rw [if_neg (show ¬ 99 < l.length by omega)])
    clear HX
    go_wp2_with fail
    refine (dcont_any 48 #[] notV eg l p c q wa HB.out.2.2 hm (fun r w' hr hg => dchk1_any r q w' ((HB.out.2.2.ok r hr).keep hg))).mono ?_
    rintro e w1 ⟨rfl, hg⟩
    have G1 := Lib.hid hg
    obtain ⟨v, hv⟩ : ∃ v, l.any notV = v := ⟨_, rfl⟩
    rw [hv] at HX1 ⊢
    clear hv c0
    have c0 : w1.cell? ⟨w.heap.size, 0, none⟩ = some (.slice p l.length c) := cell_of_row _ _ _ _ _ _ (kept_row HB.out.1 hg (by simp))
    clear hg
    cases v with
    | true =>
      obtain rfl : X = 1 := by rw [← HX1.out, if_pos rfl]
      go_wp2_with fail
      go_ret
      exact ⟨rfl, grown_trans HB.out.2.1 G1.out⟩
    | false =>
      go_wp2_with fail
      refine (dasc_any l p c q w1 (HB.out.2.2.keep G1.out) hm).mono ?_
      rintro e w2 ⟨rfl, hg⟩
      have G2 := Lib.hid (grown_trans HB.out.2.1 (grown_trans G1.out hg))
      clear hg c0
      obtain ⟨v, hv⟩ : ∃ v, ascD 0 l = v := ⟨_, rfl⟩
      rw [hv] at HX1 ⊢
      clear hv
      cases v with
      | false =>
        obtain rfl : X = 25 := by rw [← HX1.out, if_neg (by decide), if_pos rfl]
        go_wp2_with fail
        go_ret
        exact ⟨rfl, G2.out⟩
      | true =>
        obtain rfl : X = 0 := by rw [← HX1.out, if_neg (by decide), if_neg (by decide)]
        go_wp2_with fail
        go_ret
        exact ⟨rfl, G2.out⟩
set_option maxRecDepth 100000 in
theorem dvalid_any (l : List Ad) (p : Option Addr) (c : Nat) (q : Nat → Prop) (w : World) (hR : RdA w q (.slice p l.length c) l) (hm : l.length ≤ 9223372036854775807) :
    Calls Try.prog 60 #[.agg #[.slice p l.length c]] w fun e w' => e = .returned (.bool (okD l)) ∧ w.grownBy w' none := by
  obtain ⟨k1, k2⟩ := tone_box w #[.slice p l.length c] 25
  have HB := Lib.hid (And.intro k1 (And.intro k2 (hR.keep k2)))
  clear k1 k2 hR
  go_enter Try.func60, Try.ntmps60
  go_upto_region 1 with fail
  generalize w.alloc _ = wa at *
  have c0 : wa.cell? ⟨w.heap.size, 0, none⟩ = some (.slice p l.length c) := cell_of_row _ _ _ _ _ _ HB.out.1
  go_wp2_with fail
  refine (dcheck_any l p c q wa HB.out.2.2 hm).mono ?_
  rintro e w1 ⟨rfl, hg⟩
  have HG := Lib.hid (grown_trans HB.out.2.1 hg)
  clear hg c0
  obtain ⟨z, hz⟩ : ∃ z, chkD l = z := ⟨_, rfl⟩
  have HV : Hid (okD l = (z == 0)) := Lib.hid (by unfold okD; rw [hz])
  rw [hz]
  clear hz
  go_wp2_with fail
  go_ret
  exact ⟨by rw [HV.out]; rfl, HG.out⟩
end Go.Proofs.Ytnpkihioklpnmaa

/- Parts of the proof, packed: IoTake, IoAppend, IoAppendR, IoSlice, IoJoin, IoAlign, IoCheck, Spread, Full. -/
import Derived.Test.YtnpkihioklpnmaaCk6
import Derived.WalkMore
import Derived.Test.YtnpkihioklpnmaaCk1
import Derived.Deep.LoopGhost
/- Take, of the program and of the reference. -/
namespace Go.Proofs.Ytnpkihioklpnmaa
open Go.RowKit Bs
/-- What Take returns. -/
def takeV (l : List Nat) (n a k : Int) : Nat × Int :=
  if vs l n = false then (0, 1) else if vw k = false then (0, 2) else if a < 0 then (0, 2) else if n - k < a then (0, 20) else (num (bt l) a.toNat k.toNat, 0)
set_option maxRecDepth 100000 in
theorem takeV_inv {l : List Nat} {n a k : Int} (h : vs l n = false) : takeV l n a k = (0, 1) := by unfold takeV; rw [if_pos h]
set_option maxRecDepth 100000 in
theorem takeV_width {l : List Nat} {n a k : Int} (h : vs l n = true) (h2 : vw k = false) : takeV l n a k = (0, 2) := by unfold takeV; rw [if_neg (by simp [h]), if_pos h2]
set_option maxRecDepth 100000 in
theorem takeV_neg {l : List Nat} {n a k : Int} (h : vs l n = true) (h2 : vw k = true) (h3 : a < 0) : takeV l n a k = (0, 2) := by unfold takeV; rw [if_neg (by simp [h]), if_neg (by simp [h2]), if_pos h3]
set_option maxRecDepth 100000 in
theorem takeV_short {l : List Nat} {n a k : Int} (h : vs l n = true) (h2 : vw k = true) (h3 : ¬ a < 0) (h4 : n - k < a) : takeV l n a k = (0, 20) := by unfold takeV; rw [if_neg (by simp [h]), if_neg (by simp [h2]), if_neg h3, if_pos h4]
set_option maxRecDepth 100000 in
theorem takeV_ok {l : List Nat} {n a k : Int} (h : vs l n = true) (h2 : vw k = true) (h3 : ¬ a < 0) (h4 : ¬ n - k < a) : takeV l n a k = (num (bt l) a.toNat k.toNat, 0) := by unfold takeV; rw [if_neg (by simp [h]), if_neg (by simp [h2]), if_neg h3, if_neg h4]
def TakePost (l : List Nat) (n a k : Int) (w : World) (e : Ending) (w' : World) : Prop := e = .returned (.tuple #[.int .u64 (((takeV l n a k).1 : Nat) : Int), .int .i64 (takeV l n a k).2]) ∧ w.grownBy w' none
set_option maxRecDepth 100000 in
theorem take_end {l : List Nat} {n a k : Int} {x : Nat} {y : Int} {w w' : World} (h : takeV l n a k = (x, y)) (g : w.grownBy w' none) : TakePost l n a k w (.returned (.tuple #[.int .u64 (x : Int), .int .i64 y])) w' := ⟨by rw [h], g⟩
set_option maxRecDepth 100000 in
theorem vw_nat {k : Int} (h : vw k = true) : ∃ K : Nat, k = (K : Int) ∧ K ≤ 64 := by
  unfold vw at h
  simp at h
  exact ⟨k.toNat, by omega, by omega⟩
set_option maxRecDepth 100000 in
theorem vs_bits {l : List Nat} {N : Nat} (h : vs l (N : Int) = true) : N ≤ 8192 ∧ l.length = (N + 7) / 8 := ⟨(vs_iff.1 h).1, (vs_iff.1 h).2.1⟩
set_option maxRecDepth 100000 in
/-- One block laid. -/
theorem one_box (w : World) (A : Array Value) (t : TypeId) : (w.alloc (.cells A t)).heap[w.heap.size]? = some (.cells A t (0, 0)) ∧ w.grownBy (w.alloc (.cells A t)) none := ⟨heap_alloc_new w _, World.grownBy_alloc w _ _⟩
set_option maxRecDepth 100000 in
theorem tk_word (v b : Nat) (hb : b ≤ 1) (hv : v * 2 + 2 ≤ 18446744073709551616) : bits .or .u64 (IntKind.u64.wrap ((v : Int) * 2)) (b : Int) = ((2 * v + b : Nat) : Int) := by
  rw [show IntKind.u64.wrap ((v : Int) * 2) = ((v * 2 : Nat) : Int) by rw [IntKind.wrap_u64]; omega, orU _ _ (u64_mk (by omega)) (u64_mk (by omega))]
  rw [nat_join 1 (v * 2) b (by omega) (by omega)]
  congr 1; omega
set_option maxRecDepth 100000 in
theorem tk_step {l : List Nat} {a j : Nat} (hj : j < 64) : bits .or .u64 (IntKind.u64.wrap (((num (bt l) a j : Nat) : Int) * 2)) (((bt l (a + j)).toNat : Nat) : Int) = ((num (bt l) a (j + 1) : Nat) : Int) := by
  have h1 := num_lt (bt l) a j
  have h2 : 2 ^ (j + 1) ≤ 2 ^ 64 := Nat.pow_le_pow_right (by decide) hj
  rw [Nat.pow_succ] at h2
  rw [tk_word _ _ (Bool.toNat_le _) (by have h3 : (2 : Nat) ^ 64 = 18446744073709551616 := rfl; omega)]
  rfl
end Go.Proofs.Ytnpkihioklpnmaa

/- The program's Append. -/
namespace Go.Proofs.Ytnpkihioklpnmaa
open Go.RowKit Bs
/-- The bits of a stream, then the k lowest bits of v. -/
def apf (l : List Nat) (N v K : Nat) : Nat → Bool := fun i => if i < N then bt l i else v.testBit (K - 1 - (i - N))
/-- What Append returns: the bytes, the number of bits, the error. -/
def apV (l : List Nat) (n : Int) (v : Nat) (k : Int) : List Nat × Int × Int :=
  if vs l n = false then ([], 0, 1) else if vw k = false then ([], 0, 2) else if 2 ^ k.toNat ≤ v then ([], 0, 2) else if 8192 < n + k then ([], 0, 3) else
    (pz (apf l n.toNat v k.toNat) (n.toNat + k.toNat) ((n.toNat + k.toNat + 7) / 8), n + k, 0)
set_option maxRecDepth 100000 in
theorem apV_inv {l : List Nat} {n k : Int} {v : Nat} (h : vs l n = false) : apV l n v k = ([], 0, 1) := by unfold apV; rw [if_pos h]
set_option maxRecDepth 100000 in
theorem apV_width {l : List Nat} {n k : Int} {v : Nat} (h : vs l n = true) (h2 : vw k = false) : apV l n v k = ([], 0, 2) := by unfold apV; rw [if_neg (by simp [h]), if_pos h2]
set_option maxRecDepth 100000 in
theorem apV_value {l : List Nat} {n : Int} {K v : Nat} (h : vs l n = true) (h2 : vw (K : Int) = true) (h3 : 2 ^ K ≤ v) : apV l n v (K : Int) = ([], 0, 2) := by unfold apV; rw [if_neg (by simp [h]), if_neg (by simp [h2]), Int.toNat_natCast, if_pos h3]
set_option maxRecDepth 100000 in
theorem apV_limit {l : List Nat} {N K v : Nat} (h : vs l (N : Int) = true) (h2 : vw (K : Int) = true) (h3 : ¬ 2 ^ K ≤ v) (h4 : 8192 < N + K) : apV l (N : Int) v (K : Int) = ([], 0, 3) := by
  unfold apV; rw [if_neg (by simp [h]), if_neg (by simp [h2]), Int.toNat_natCast, if_neg h3, if_pos (by omega)]
set_option maxRecDepth 100000 in
theorem apV_ok {l : List Nat} {N K v : Nat} (h : vs l (N : Int) = true) (h2 : vw (K : Int) = true) (h3 : ¬ 2 ^ K ≤ v) (h4 : ¬ 8192 < N + K) : apV l (N : Int) v (K : Int) = (pz (apf l N v K) (N + K) ((N + K + 7) / 8), ((N + K : Nat) : Int), 0) := by
  unfold apV; rw [if_neg (by simp [h]), if_neg (by simp [h2]), Int.toNat_natCast, Int.toNat_natCast, if_neg h3, if_neg (by omega)]; rfl
/-- A stream and an error come back. -/
def SPost (r : List Nat × Int × Int) (w : World) (e : Ending) (w' : World) : Prop := StreamErr r.1 r.2.1 r.2.2 w e w'
set_option maxRecDepth 100000 in
theorem SPost.of {r : List Nat × Int × Int} {l : List Nat} {n x : Int} {w w' : World} {e : Ending} (h : r = (l, n, x)) (k : StreamErr l n x w e w') : SPost r w e w' := by subst h; exact k
set_option maxRecDepth 100000 in
theorem sr_nil (w : World) (q : Nat → Prop) (n : Int) : SR w q (.agg #[.slice none 0 0, .int .i64 n]) [] n := ⟨none, 0, rfl, Rd.nil_ _ _ _ _, fun _ => rfl, fun x hx => by cases hx⟩
set_option maxRecDepth 100000 in
theorem err_end {w w2 : World} {b : Nat} {x : Int} (h : w.grownBy w2 none) (hb : w.heap.size ≤ b) : StreamErr [] 0 x w (.returned (.tuple #[.agg #[.slice none 0 0, .int .i64 0], .int .i64 x])) ((w2.setCell ⟨b, 0, none⟩ (.slice none 0 0)).setCell ⟨b, 1, none⟩ (.int .i64 0)) :=
  ⟨_, rfl, sr_nil _ _ _, grown_new h (grown_store2 w2 b _ _) hb⟩
set_option maxRecDepth 100000 in
/-- copy into a block of the call's own. -/
theorem wpList_copy_into {w : World} {ops : Array Oper} {rest : List Oper} {o : Oper} {a : Act} {Q : Exit → Act → World → Prop} (hgd : o.guard = none) (d s : Operand)
    (ho : o.op = .call { callee := .builtin .copy, args := #[d, s], argTypes := #[99, 99] }) (g N c : Nat) (hd : a.eval d = .slice (some ⟨g, 0, none⟩) N c) (p : Option Addr) (k c' : Nat) (hs : a.eval s = .slice p k c')
    (L : List Nat) (hB : Blk w g L) (hL : L.length = N) (l : List Nat) (hk : k = l.length) (q : Nat → Prop) (hR : Rd w q (.slice p k c') (l.map nv)) (hle : l.length ≤ N)
    (h : ∀ w', Blk w' g (l ++ L.drop l.length) → w.grownBy w' (some g) → wpList Try.prog ops Q rest (a.put o.dst (goInt l.length)) w') : wpList Try.prog ops Q (o :: rest) a w := by
  subst hk
  have hsz : (Try.prog.info? 5).map (·.size) = some 1 := by
    obtain ⟨i0, hi, hz0, hz1, hz2⟩ := info_parts info_u8
    rw [hi]; simp [hz1]
  by_cases h0 : l = []
  · subst h0
    refine wpList_copy_nothing hgd d s 99 99 ho 5 Try.underlying99 hsz _ _ _ _ _ _ hd hs (by simp) ?_
    exact h w (by simpa using hB) (grown_refl _ _)
  · obtain ⟨p1, c1, e1, hx⟩ := id hR
    injection e1 with a1 a2 a3
    subst a1
    obtain ⟨b, off, rfl, _, _⟩ := hx (by simpa using h0)
    have hBl : w.heap[g]? = some (.cells (L.map nv).toArray 5 (0, 0)) := hB
    refine wpList_copy_own hgd d s 99 99 ho 5 Try.underlying99 hsz g 0 N c ⟨b, off, none⟩ l.length c' hd hs _ _ hBl (l.map nv) (by rw [List.length_map]; exact (Nat.min_eq_left hle).symm) hR.news (by simp; omega) nv_one ?_
    rw [List.length_map]
    refine h _ ?_ ⟨rfl, rfl, rfl, by simp [World.setRow], fun k _ hk => setRow_other _ _ _ _ (by intro e; exact hk (by rw [e]))⟩
    refine (setRow_heap w g _ _ _ _ hBl).trans ?_
    congr 2
    simp [List.map_drop]
set_option maxRecDepth 100000 in
theorem pz_copy {l : List Nat} {N M : Nat} {f : Nat → Bool} (hl : By l) (hv : vs l (N : Int) = true) (hM : l.length ≤ M) (hf : ∀ i, i < N → f i = bt l i) : l ++ (List.replicate M 0).drop l.length = pz f N M := by
  obtain ⟨h1, h2, h3⟩ := vs_iff.1 hv
  have e := pz_bt l N hl fun i hi hi2 => h3 i hi2 hi
  apply List.ext_getElem?
  intro j
  by_cases hj : j < M
  · rw [pz_at _ _ _ _ hj]
    by_cases hjl : j < l.length
    · rw [List.getElem?_append_left hjl]
      have e2 : l[j]? = (pz (bt l) N l.length)[j]? := congrArg (fun x : List Nat => x[j]?) e
      rw [e2, pz_at _ _ _ _ hjl]
      refine congrArg some (py_congr fun i _ _ => ?_)
      by_cases hi : i < N
      · rw [hf i hi]
      · simp [hi]
    · rw [List.getElem?_append_right (by omega), List.getElem?_drop, List.getElem?_replicate, if_pos (by omega), py_zero f (by omega)]
  · rw [List.getElem?_eq_none (by simp; omega), List.getElem?_eq_none (by rw [pz_len]; omega)]
set_option maxRecDepth 100000 in
theorem ok_end {w w6 : World} {b g M : Nat} {L : List Nat} {T : Int} (hB : Blk w6 g L) (hM : M = L.length) (hL : By L) (hg : w.heap.size ≤ g) (h : w.grownBy w6 none) (hb : w.heap.size ≤ b) (hne : b ≠ g) :
    StreamErr L T 0 w (.returned (.tuple #[.agg #[.slice (some ⟨g, 0, none⟩) M M, .int .i64 T], .int .i64 0])) ((w6.setCell ⟨b, 0, none⟩ (.slice (some ⟨g, 0, none⟩) M M)).setCell ⟨b, 1, none⟩ (.int .i64 T)) := by
  subst hM
  have gr := grown_store2 w6 b (.slice (some ⟨g, 0, none⟩) L.length L.length) (.int .i64 T)
  refine ⟨_, rfl, ⟨some ⟨g, 0, none⟩, L.length, rfl, ?_, (by intro e; cases e), hL⟩, grown_new h gr hb⟩
  exact (hB.grown gr (by intro e; exact hne (Option.some.inj e).symm)).rd _ hg _
/-- Zeros' struct has been laid into a block of its own. -/
structure Made (W : World) (g M : Nat) (T : Int) (L : List Nat) (t : Nat) (w' : World) : Prop where
  blk : Blk w' g L
  row : w'.heap[t]? = some (.cells #[.slice (some ⟨g, 0, none⟩) M M, .int .i64 T] 123 (0, 0))
  gr : W.grownBy w' none
  ne : t ≠ g
  lo : W.heap.size ≤ g
set_option maxRecDepth 100000 in
theorem made_of {W w3 : World} {g M : Nat} {T : Int} {L : List Nat} (hB : Blk w3 g L) (hg : W.heap.size ≤ g) (h : W.grownBy w3 none) :
    Made W g M T L w3.heap.size (w3.alloc (.cells #[.slice (some ⟨g, 0, none⟩) M M, .int .i64 T] 123)) := by
  have hlt := hB.lt
  exact ⟨hB.keep (World.grownBy_alloc w3 _ _), heap_alloc_new w3 _, grown_trans h (World.grownBy_alloc w3 _ _), by omega, hg⟩
set_option maxRecDepth 100000 in
theorem grown_at {W w1 w2 : World} {g : Nat} (h : W.grownBy w1 none) (k : w1.grownBy w2 (some g)) (hb : W.heap.size ≤ g) : W.grownBy w2 none := grown_new h k hb
set_option maxRecDepth 100000 in
theorem Made.next {W w1 w2 : World} {g M t : Nat} {T : Int} {L L' : List Nat} (h : Made W g M T L t w1) (k : w1.grownBy w2 (some g)) (hB : Blk w2 g L') : Made W g M T L' t w2 :=
  ⟨hB, kept_row h.row k (by intro e; exact h.ne (Option.some.inj e)), grown_at h.gr k h.lo, h.ne, h.lo⟩
set_option maxRecDepth 100000 in
theorem apf_low {l : List Nat} {N v K : Nat} : ∀ i, i < N → apf l N v K i = bt l i := fun i hi => by unfold apf; rw [if_pos hi]
set_option maxRecDepth 100000 in
theorem apf_high {l : List Nat} {N v K : Nat} : ∀ t, t < K → apf l N v K (N + t) = v.testBit (K - 1 - t) := fun t _ => by
  unfold apf; rw [if_neg (by omega), show N + t - N = t by omega]
end Go.Proofs.Ytnpkihioklpnmaa

/- The reference's Append. -/
namespace Go.Proofs.Ytnpkihioklpnmaa
open Go.RowKit Bs
/-- A stream and an error come back, the bytes wherever they lie. -/
def RPost (r : List Nat × Int × Int) (w : World) (e : Ending) (w' : World) : Prop := ∃ v, e = .returned (.tuple #[v, .int .i64 r.2.2]) ∧ SR w' (fun _ => True) v r.1 r.2.1 ∧ w.grownBy w' none
set_option maxRecDepth 100000 in
theorem RPost.of {r : List Nat × Int × Int} {l : List Nat} {n x : Int} {w w' : World} {v : Value} (h : r = (l, n, x)) (k : SR w' (fun _ => True) v l n) (g : w.grownBy w' none) : RPost r w (.returned (.tuple #[v, .int .i64 x])) w' := by subst h; exact ⟨v, rfl, k, g⟩
set_option maxRecDepth 100000 in
theorem RPost.err {r : List Nat × Int × Int} {x : Int} {w w2 : World} {b : Nat} (h : r = ([], 0, x)) (hg : w.grownBy w2 none) (hb : w.heap.size ≤ b) :
    RPost r w (.returned (.tuple #[.agg #[.slice none 0 0, .int .i64 0], .int .i64 x])) ((w2.setCell ⟨b, 0, none⟩ (.slice none 0 0)).setCell ⟨b, 1, none⟩ (.int .i64 0)) :=
  RPost.of h (sr_nil _ _ _) (grown_new hg (grown_store2 w2 b _ _) hb)
/-- The box at b holds a stream whose bytes lie outside the blocks b and r; block r awaits the result. -/
structure BoxAt (W : World) (b r : Nat) (p : Option Addr) (c : Nat) (l : List Nat) (n : Int) (w' : World) : Prop where
  row : w'.heap[b]? = some (.cells #[.slice p l.length c, .int .i64 n] 123 (0, 0))
  res : w'.heap[r]? = some (.cells #[.slice none 0 0, .int .i64 0] 123 (0, 0))
  rd : Rd w' (fun x => x ≠ b ∧ x ≠ r) (.slice p l.length c) (l.map nv)
  pc : p = none → c = 0
  by_ : By l
  gr : W.grownBy w' none
section
variable {W w' w2 : World} {b r : Nat} {p : Option Addr} {c : Nat} {l : List Nat} {n : Int}
set_option maxRecDepth 100000 in
theorem BoxAt.limbs (h : BoxAt W b r p c l n w') : w'.cell? ⟨b, 0, none⟩ = some (.slice p l.length c) ∧ w'.cell? ⟨b, 1, none⟩ = some (.int .i64 n) ∧ w'.frozen? ⟨b, 0, none⟩ = false ∧ w'.frozen? ⟨b, 1, none⟩ = false ∧
    w'.cell? ⟨r, 0, none⟩ = some (.slice none 0 0) ∧ w'.cell? ⟨r, 1, none⟩ = some (.int .i64 0) ∧ w'.frozen? ⟨r, 0, none⟩ = false ∧ w'.frozen? ⟨r, 1, none⟩ = false :=
  ⟨(row_cells h.row).1, (row_cells h.row).2, frozen_of_row _ _ _ _ _ h.row, frozen_of_row _ _ _ _ _ h.row, (row_cells h.res).1, (row_cells h.res).2, frozen_of_row _ _ _ _ _ h.res, frozen_of_row _ _ _ _ _ h.res⟩
set_option maxRecDepth 100000 in
theorem BoxAt.keep (h : BoxAt W b r p c l n w') (k : w'.grownBy w2 none) : BoxAt W b r p c l n w2 := ⟨kept_row h.row k (by simp), kept_row h.res k (by simp), h.rd.keep k, h.pc, h.by_, grown_trans h.gr k⟩
set_option maxRecDepth 100000 in
theorem BoxAt.store {p' : Option Addr} {c' : Nat} {l' : List Nat} {n' : Int} {base : Nat} (h : BoxAt W b r p c l n w') (o : Own w' base p' c' l') (hb : W.heap.size ≤ b) (hbr : b ≠ r) (hb2 : b < base) (hr2 : r < base) :
    BoxAt W b r p' c' l' n' ((w'.setCell ⟨b, 0, none⟩ (.slice p' l'.length c')).setCell ⟨b, 1, none⟩ (.int .i64 n')) := by
  have g := grown_store2 w' b (.slice p' l'.length c') (.int .i64 n')
  exact ⟨store2 h.row, kept_row h.res g (by intro e; exact hbr (Option.some.inj e).symm), (o.rd.mono fun x hx => ⟨by omega, by omega⟩).grown g (by rintro x ⟨hx, _⟩ e; exact hx (Option.some.inj e)), o.pc, o.by_, grown_new h.gr g hb⟩
set_option maxRecDepth 100000 in
theorem BoxAt.fin {V : List Nat × Int × Int} (h : BoxAt W b r p c l n w') (hV : V = (l, n, 0)) (hr : W.heap.size ≤ r) :
    ((w'.setCell ⟨r, 0, none⟩ (.slice p l.length c)).setCell ⟨r, 1, none⟩ (.int .i64 n)).heap[r]? = some (.cells #[.slice p l.length c, .int .i64 n] 123 (0, 0)) ∧
      RPost V W (.returned (.tuple #[.agg #[.slice p l.length c, .int .i64 n], .int .i64 0])) ((w'.setCell ⟨r, 0, none⟩ (.slice p l.length c)).setCell ⟨r, 1, none⟩ (.int .i64 n)) := by
  have g := grown_store2 w' r (.slice p l.length c) (.int .i64 n)
  refine ⟨store2 h.res, RPost.of hV ⟨p, c, rfl, ?_, h.pc, h.by_⟩ (grown_new h.gr g hr)⟩
  exact (h.rd.grown g (by rintro x ⟨_, hx⟩ e; exact hx (Option.some.inj e))).mono fun _ _ => trivial
end
set_option maxRecDepth 100000 in
theorem and_one (v i : Nat) (hv : U64 v) : bits .and .u64 ((v : Int) / 2 ^ i) 1 = (((v.testBit i).toNat : Nat) : Int) := by
  rw [bitW v i hv, Nat.toNat_testBit]
/-- Behind j puts. -/
def PutsRel (f : Nat → Bool) (W : World) (b r N j : Nat) (w' : World) : Prop := ∃ p c, BoxAt W b r p c (pz f (N + j) ((N + j + 7) / 8)) ((N + j : Nat) : Int) w'
set_option maxRecDepth 100000 in
theorem PutsRel.open_ {f : Nat → Bool} {W w' : World} {b r N j : Nat} (h : PutsRel f W b r N j w') : ∃ p c l, Hid (l = pz f (N + j) ((N + j + 7) / 8)) ∧ BoxAt W b r p c l ((N + j : Nat) : Int) w' := by
  obtain ⟨p, c, h⟩ := h
  exact ⟨p, c, _, Lib.hid rfl, h⟩
set_option maxRecDepth 100000 in
theorem puts_next {f : Nat → Bool} {W w2 : World} {b r N j m base : Nat} {p p' : Option Addr} {c c' : Nat} {l l' : List Nat} {n : Int} (h : Hid (BoxAt W b r p c l n w2)) (hm : N + j = m) (hl : l' = pz f (m + 1) ((m + 8) / 8)) (o : Own w2 base p' c' l')
    (hb : W.heap.size ≤ b) (hbr : b ≠ r) (hb2 : b < base) (hr2 : r < base) :
    Hid (PutsRel f W b r N (j + 1) ((w2.setCell ⟨b, 0, none⟩ (.slice p' l'.length c')).setCell ⟨b, 1, none⟩ (.int .i64 ((m : Int) + 1)))) := by
  subst hm
  subst hl
  refine Lib.hid ⟨p', c', ?_⟩
  exact h.out.store o hb hbr hb2 hr2
set_option maxRecDepth 100000 in
set_option maxHeartbeats 3200000 in
theorem appendr_any (l : List Nat) (n : Int) (v : Nat) (k : Int) (q : Nat → Prop) (p : Option Addr) (c : Nat) (hl : By l) (hv64 : U64 v) (hpc : p = none → c = 0) (w : World) (hq : ∀ b, q b → b < w.heap.size) (hR : Rd w q (.slice p l.length c) (l.map nv)) :
    Calls Try.prog 122 #[.agg #[.slice p l.length c, .int .i64 n], .int .u64 (v : Int), .int .i64 k] w fun e w' => RPost (apV l n v k) w e w' := by
  obtain ⟨k1, k2, k3, k4⟩ := two_boxes w #[.slice p l.length c, .int .i64 n] #[.slice none 0 0, .int .i64 0] 123 123
  have hR1 := hR.keep k3
  have H0 := Lib.hid (show BoxAt w w.heap.size (w.heap.size + 1) p c l n _ from ⟨k1, k2, hR1.mono fun x hx => by have := hq x hx; exact ⟨by omega, by omega⟩, hpc, hl, k3⟩)
  have hq1 : ∀ b, q b → b < ((w.alloc (.cells #[.slice p l.length c, .int .i64 n] 123)).alloc (.cells #[.slice none 0 0, .int .i64 0] 123)).heap.size := fun b hb => Nat.lt_of_lt_of_le (hq b hb) k3.size
  have HSZ : Hid (w.heap.size + 2 ≤ ((w.alloc (.cells #[.slice p l.length c, .int .i64 n] 123)).alloc (.cells #[.slice none 0 0, .int .i64 0] 123)).heap.size) := Lib.hid (Nat.le_of_eq k4.symm)
  clear k1 k2 k3 k4 hR
  go_enter Try.func122, Try.ntmps122
  go_wp2_with fail
  generalize (w.alloc (.cells #[.slice p l.length c, .int .i64 n] 123)).alloc (.cells #[.slice none 0 0, .int .i64 0] 123) = w1 at *
  refine (validr_any l n q p c hl _ hq1 hR1).mono ?_
  rintro e w2 ⟨rfl, hg⟩
  have HB := Lib.hid (H0.out.keep hg)
  have HSZ2 : Hid (w.heap.size + 2 ≤ w2.heap.size) := Lib.hid (Nat.le_trans HSZ.out hg.size)
  obtain ⟨c0, c1, f0, f1, r0, r1, g0, g1⟩ := HB.out.limbs
  clear hg hR1 H0 hq1 HSZ
  by_cases hv : vs l n = true
  · obtain ⟨N, rfl⟩ := vs_nat hv
    obtain ⟨hN, hlen⟩ := vs_bits hv
    rw [hv]
    by_cases hw : vw k = true
    · obtain ⟨K, rfl, hK⟩ := vw_nat hw
      by_cases h3 : 2 ^ K ≤ v
      · have V := Lib.hid (apV_value hv hw h3)
        have hK64 : (K : Int) < 64 := by
          rcases Nat.lt_or_ge K 64 with h | h
          · omega
          · obtain rfl : K = 64 := by omega
            unfold U64 at hv64
            omega
        have hne : ((v : Int) / 2 ^ K == 0) = false := by
          rw [shrW]
          have := Nat.div_pos h3 (Nat.pow_pos (by decide))
          generalize v / 2 ^ K = z at *
          simp; omega
        have hne2 : ((v : Int) / 2 ^ K != 0) = true := by simp [bne, hne]
        have dk1 : decide ((K : Int) < 0) = false := by simp
        have dk2 : decide (64 < (K : Int)) = false := by simp; omega
        clear hv hlen hw
        go_wp2_with fail
        refine bodyPost_ret (res_stream_err rfl _ _ (w.heap.size + 1) _ _ rfl (store2 HB.out.res)) rfl ?_
        exact RPost.err V.out HB.out.gr (by omega)
      · have hz : (v : Int) / 2 ^ K = 0 := by
          rw [shrW, Nat.div_eq_of_lt (by omega)]; rfl
        have HL : Hid (l = pz (apf l N v K) N ((N + 7) / 8)) := by
          have e := pz_copy (M := l.length) hl hv (Nat.le_refl _) (apf_low (v := v) (K := K))
          rw [hlen] at e
          refine Lib.hid ?_
          rw [← e]; simp [hlen]
        by_cases h4 : 8192 < N + K
        · have V := Lib.hid (apV_limit hv hw h3 h4)
          have h4' : (8192 : Int) < (N : Int) + (K : Int) := by omega
          clear hv hlen hw
          rcases Nat.lt_or_ge K 64 with h | h
          · go_wp2_with fail
            refine bodyPost_ret (res_stream_err rfl _ _ (w.heap.size + 1) _ _ rfl (store2 HB.out.res)) rfl ?_
            exact RPost.err V.out HB.out.gr (by omega)
          · have hge : ¬ ((K : Int) < 64) := by omega
            go_wp2_with fail
            refine bodyPost_ret (res_stream_err rfl _ _ (w.heap.size + 1) _ _ rfl (store2 HB.out.res)) rfl ?_
            exact RPost.err V.out HB.out.gr (by omega)
        · have V := Lib.hid (apV_ok hv hw h3 h4)
          have h4' : ¬ (8192 : Int) < (N : Int) + (K : Int) := by omega
          have P0 : Hid (PutsRel (apf l N v K) w w.heap.size (w.heap.size + 1) N 0 w2) := by
            refine Lib.hid ⟨p, c, ?_⟩
            show BoxAt w w.heap.size (w.heap.size + 1) p c (pz (apf l N v K) N ((N + 7) / 8)) (N : Int) w2
            rw [← HL.out]
            exact HB.out
          have dk1 : decide ((K : Int) < 0) = false := by simp
          have dk2 : decide (64 < (K : Int)) = false := by simp; omega
          rcases Nat.lt_or_ge K 64 with h | h
          · clear hv hlen hw HL
            go_wp2_with fail
            go_loopw [8] (fun i wr => ∃ j : Nat, j ≤ K ∧ i = .int .i64 ((K : Int) - 1 - (j : Int)) ∧ PutsRel (apf l N v K) w w.heap.size (w.heap.size + 1) N j wr ∧ w.heap.size + 2 ≤ wr.heap.size) (fun i _ => (RowKit.intOf i + 1).toNat)
            case atStart => exact ⟨0, Nat.zero_le _, by simp, P0.out, HSZ2.out⟩
            case round =>
              obtain ⟨j, hj, rfl, hP, hsz⟩ := hrel
              obtain ⟨p1, c1, l1, HL1, hB1⟩ := hP.open_
              have HB1 := Lib.hid hB1
              have HZ := Lib.hid hsz
              clear hP hB1 P0 hsz
              by_cases hlt : j < K
              · obtain ⟨i, hi⟩ : ∃ i : Nat, i = K - 1 - j := ⟨_, rfl⟩
                have hii : (K : Int) - 1 - (j : Int) = (i : Int) := by omega
                have hi64 : i < 64 := by omega
                obtain ⟨m, hm⟩ : ∃ m : Nat, N + j = m := ⟨_, rfl⟩
                have hbit : bits .and .u64 ((v : Int) / 2 ^ i) 1 = (((apf l N v K m).toNat : Nat) : Int) := by
                  rw [and_one v i hv64, ← hm, apf_high j hlt, hi]
                have hbl := Bool.toNat_le (apf l N v K m)
                have C : ∀ (l1 : List Nat) (p1 : Option Addr) (c1 : Nat), l1 = pz (apf l N v K) m ((m + 7) / 8) → (p1 = none → c1 = 0) → Rd wr (fun x => x ≠ w.heap.size ∧ x ≠ w.heap.size + 1) (.slice p1 l1.length c1) (l1.map nv) → Calls Try.prog 125 #[.agg #[.slice p1 l1.length c1, .int .i64 (m : Int)], .int .u64 (((apf l N v K m).toNat : Nat) : Int)] wr fun e w' => StreamPost (pz (apf l N v K) (m + 1) ((m + 8) / 8)) ((m + 1 : Nat) : Int) wr e w' :=
                  fun l1 p1 c1 h1 h2 h3 => put_any (apf l N v K) m l1 _ p1 c1 (by omega) h1 h2 wr h3
                rw [hm] at HL1 HB1
                have H1 := Lib.hid (C l1 p1 c1 HL1.out HB1.out.pc HB1.out.rd)
                obtain ⟨c0, c2, f0, f1, r0, r1, g0, g1⟩ := HB1.out.limbs
                have HI := Lib.hid hi
                have HM := Lib.hid hm
                have hm9 : m ≤ 8192 := by omega
                clear C hi hm
                generalize (apf l N v K m).toNat = bb at *
                rw [hii]
                have HII := Lib.hid hii
                clear hii
                go_wp2_with fail
                refine H1.out.mono ?_
                rintro e w3 ⟨p3, c3, rfl, hown3, hg3⟩
                have hm8 : m / 8 + 1 = (m + 8) / 8 := by omega
                obtain ⟨l3, hl3⟩ : ∃ l3, l3 = pz (apf l N v K) (m + 1) ((m + 8) / 8) := ⟨_, rfl⟩
                rw [← hl3] at hown3
                rw [← hl3]
                have HB3 := Lib.hid (HB1.out.keep hg3)
                have R := puts_next (f := apf l N v K) (N := N) (j := j) HB3 HM.out hl3 hown3 (by omega) (by omega) (by have := HZ.out; omega) (by have := HZ.out; omega)
                have R2 := Nat.le_trans HZ.out hg3.size
                have R3 := Lib.hid R2
                obtain ⟨c0, c2, f0, f1, r0, r1, g0, g1⟩ := HB3.out.limbs
                clear hown3 hg3 hm8 hl3 R2
                go_wp2_with fail
                go_roundw
                case rel => exact ⟨j + 1, by omega, by congr 1; have := HI.out; omega, R.out, by simpa using R3.out⟩
                case measure => have := HI.out; simp [RowKit.intOf] <;> omega
              · obtain rfl : j = K := by omega
                obtain ⟨c0, c2, f0, f1, r0, r1, g0, g1⟩ := HB1.out.limbs
                have F := Lib.hid (HB1.out.fin (V := apV l (N : Int) v (j : Int)) (by rw [V.out, HL1.out]) (by omega))
                clear HB1
                go_wp2_with fail
                refine bodyPost_ret (res_stream_err rfl _ _ (w.heap.size + 1) _ _ rfl F.out.1) rfl ?_
                exact F.out.2
          · have hge : ¬ ((K : Int) < 64) := by omega
            clear hv hlen hw HL
            go_wp2_with fail
            go_loopw [8] (fun i wr => ∃ j : Nat, j ≤ K ∧ i = .int .i64 ((K : Int) - 1 - (j : Int)) ∧ PutsRel (apf l N v K) w w.heap.size (w.heap.size + 1) N j wr ∧ w.heap.size + 2 ≤ wr.heap.size) (fun i _ => (RowKit.intOf i + 1).toNat)
            case atStart => exact ⟨0, Nat.zero_le _, by simp, P0.out, HSZ2.out⟩
            case round =>
              obtain ⟨j, hj, rfl, hP, hsz⟩ := hrel
              obtain ⟨p1, c1, l1, HL1, hB1⟩ := hP.open_
              have HB1 := Lib.hid hB1
              have HZ := Lib.hid hsz
              clear hP hB1 P0 hsz
              by_cases hlt : j < K
              · obtain ⟨i, hi⟩ : ∃ i : Nat, i = K - 1 - j := ⟨_, rfl⟩
                have hii : (K : Int) - 1 - (j : Int) = (i : Int) := by omega
                have hi64 : i < 64 := by omega
                obtain ⟨m, hm⟩ : ∃ m : Nat, N + j = m := ⟨_, rfl⟩
                have hbit : bits .and .u64 ((v : Int) / 2 ^ i) 1 = (((apf l N v K m).toNat : Nat) : Int) := by
                  rw [and_one v i hv64, ← hm, apf_high j hlt, hi]
                have hbl := Bool.toNat_le (apf l N v K m)
                have C : ∀ (l1 : List Nat) (p1 : Option Addr) (c1 : Nat), l1 = pz (apf l N v K) m ((m + 7) / 8) → (p1 = none → c1 = 0) → Rd wr (fun x => x ≠ w.heap.size ∧ x ≠ w.heap.size + 1) (.slice p1 l1.length c1) (l1.map nv) → Calls Try.prog 125 #[.agg #[.slice p1 l1.length c1, .int .i64 (m : Int)], .int .u64 (((apf l N v K m).toNat : Nat) : Int)] wr fun e w' => StreamPost (pz (apf l N v K) (m + 1) ((m + 8) / 8)) ((m + 1 : Nat) : Int) wr e w' :=
                  fun l1 p1 c1 h1 h2 h3 => put_any (apf l N v K) m l1 _ p1 c1 (by omega) h1 h2 wr h3
                rw [hm] at HL1 HB1
                have H1 := Lib.hid (C l1 p1 c1 HL1.out HB1.out.pc HB1.out.rd)
                obtain ⟨c0, c2, f0, f1, r0, r1, g0, g1⟩ := HB1.out.limbs
                have HI := Lib.hid hi
                have HM := Lib.hid hm
                have hm9 : m ≤ 8192 := by omega
                clear C hi hm
                generalize (apf l N v K m).toNat = bb at *
                rw [hii]
                have HII := Lib.hid hii
                clear hii
                go_wp2_with fail
                refine H1.out.mono ?_
                rintro e w3 ⟨p3, c3, rfl, hown3, hg3⟩
                have hm8 : m / 8 + 1 = (m + 8) / 8 := by omega
                obtain ⟨l3, hl3⟩ : ∃ l3, l3 = pz (apf l N v K) (m + 1) ((m + 8) / 8) := ⟨_, rfl⟩
                rw [← hl3] at hown3
                rw [← hl3]
                have HB3 := Lib.hid (HB1.out.keep hg3)
                have R := puts_next (f := apf l N v K) (N := N) (j := j) HB3 HM.out hl3 hown3 (by omega) (by omega) (by have := HZ.out; omega) (by have := HZ.out; omega)
                have R2 := Nat.le_trans HZ.out hg3.size
                have R3 := Lib.hid R2
                obtain ⟨c0, c2, f0, f1, r0, r1, g0, g1⟩ := HB3.out.limbs
                clear hown3 hg3 hm8 hl3 R2
                go_wp2_with fail
                go_roundw
                case rel => exact ⟨j + 1, by omega, by congr 1; have := HI.out; omega, R.out, by simpa using R3.out⟩
                case measure => have := HI.out; simp [RowKit.intOf] <;> omega
              · obtain rfl : j = K := by omega
                obtain ⟨c0, c2, f0, f1, r0, r1, g0, g1⟩ := HB1.out.limbs
                have F := Lib.hid (HB1.out.fin (V := apV l (N : Int) v (j : Int)) (by rw [V.out, HL1.out]) (by omega))
                clear HB1
                go_wp2_with fail
                refine bodyPost_ret (res_stream_err rfl _ _ (w.heap.size + 1) _ _ rfl F.out.1) rfl ?_
                exact F.out.2
    · have hw0 : vw k = false := by simpa using hw
      have V := Lib.hid (apV_width (v := v) hv hw0)
      have hk : k < 0 ∨ 64 < k := by unfold vw at hw0; simp at hw0; omega
      clear hv hlen hw hw0
      rcases hk with hk | hk
      · go_wp2_with fail
        refine bodyPost_ret (res_stream_err rfl _ _ (w.heap.size + 1) _ _ rfl (store2 HB.out.res)) rfl ?_
        exact RPost.err V.out HB.out.gr (by omega)
      · have hk0 : ¬ k < 0 := by omega
        go_wp2_with fail
        refine bodyPost_ret (res_stream_err rfl _ _ (w.heap.size + 1) _ _ rfl (store2 HB.out.res)) rfl ?_
        exact RPost.err V.out HB.out.gr (by omega)
  · have hv0 : vs l n = false := by simpa using hv
    have V := Lib.hid (apV_inv (v := v) (k := k) hv0)
    rw [hv0]
    go_wp2_with fail
    refine bodyPost_ret (res_stream_err rfl _ _ (w.heap.size + 1) _ _ rfl (store2 HB.out.res)) rfl ?_
    exact RPost.err V.out HB.out.gr (by omega)
end Go.Proofs.Ytnpkihioklpnmaa

/- Slice, of the program and of the reference. -/
namespace Go.Proofs.Ytnpkihioklpnmaa
open Go.RowKit Bs
/-- What Slice returns. -/
def slV (l : List Nat) (n a b : Int) : List Nat × Int × Int :=
  if vs l n = false then ([], 0, 1) else if a < 0 then ([], 0, 2) else if b < a then ([], 0, 2) else if n < b then ([], 0, 2) else
    (pz (fun i => bt l (a.toNat + i)) (b.toNat - a.toNat) ((b.toNat - a.toNat + 7) / 8), ((b.toNat - a.toNat : Nat) : Int), 0)
set_option maxRecDepth 100000 in
theorem slV_inv {l : List Nat} {n a b : Int} (h : vs l n = false) : slV l n a b = ([], 0, 1) := by unfold slV; rw [if_pos h]
set_option maxRecDepth 100000 in
theorem slV_range {l : List Nat} {n a b : Int} (h : vs l n = true) (h2 : a < 0 ∨ b < a ∨ n < b) : slV l n a b = ([], 0, 2) := by
  unfold slV; rw [if_neg (by simp [h])]
  by_cases x1 : a < 0
  · rw [if_pos x1]
  · rw [if_neg x1]
    by_cases x2 : b < a
    · rw [if_pos x2]
    · rw [if_neg x2, if_pos (by omega)]
set_option maxRecDepth 100000 in
theorem slV_ok {l : List Nat} {N A T B : Nat} (h : vs l (N : Int) = true) (hB : A + T = B) (h2 : B ≤ N) : slV l (N : Int) (A : Int) (B : Int) = (pz (fun i => bt l (A + i)) T ((T + 7) / 8), (T : Int), 0) := by
  subst hB
  unfold slV
  rw [if_neg (by simp [h]), if_neg (by omega), if_neg (by omega), if_neg (by omega), Int.toNat_natCast, Int.toNat_natCast, show A + T - A = T by omega]
set_option maxRecDepth 100000 in
theorem pz_none (f : Nat → Bool) (M : Nat) : List.replicate M 0 = pz f 0 M := (pz_zero f M).symm
end Go.Proofs.Ytnpkihioklpnmaa

/- Join and Align of the program. -/
namespace Go.Proofs.Ytnpkihioklpnmaa
open Go.RowKit Bs
/-- The bits of a, then those of b. -/
def jnf (l : List Nat) (N : Nat) (l' : List Nat) : Nat → Bool := fun i => if i < N then bt l i else bt l' (i - N)
/-- What Join returns. -/
def jnV (l : List Nat) (n : Int) (l' : List Nat) (n' : Int) : List Nat × Int × Int :=
  if vs l n = false then ([], 0, 1) else if vs l' n' = false then ([], 0, 1) else if 8192 < n + n' then ([], 0, 3) else
    (pz (jnf l n.toNat l') (n.toNat + n'.toNat) ((n.toNat + n'.toNat + 7) / 8), ((n.toNat + n'.toNat : Nat) : Int), 0)
set_option maxRecDepth 100000 in
theorem jnV_inv {l l' : List Nat} {n n' : Int} (h : vs l n = false) : jnV l n l' n' = ([], 0, 1) := by unfold jnV; rw [if_pos h]
set_option maxRecDepth 100000 in
theorem jnV_inv2 {l l' : List Nat} {n n' : Int} (h : vs l n = true) (h2 : vs l' n' = false) : jnV l n l' n' = ([], 0, 1) := by unfold jnV; rw [if_neg (by simp [h]), if_pos h2]
set_option maxRecDepth 100000 in
theorem jnV_limit {l l' : List Nat} {N N' : Nat} (h : vs l (N : Int) = true) (h2 : vs l' (N' : Int) = true) (h3 : 8192 < N + N') : jnV l (N : Int) l' (N' : Int) = ([], 0, 3) := by
  unfold jnV; rw [if_neg (by simp [h]), if_neg (by simp [h2]), if_pos (by omega)]
set_option maxRecDepth 100000 in
theorem jnV_ok {l l' : List Nat} {N N' T : Nat} (h : vs l (N : Int) = true) (h2 : vs l' (N' : Int) = true) (hT : N + N' = T) (h3 : ¬ 8192 < T) : jnV l (N : Int) l' (N' : Int) = (pz (jnf l N l') T ((T + 7) / 8), (T : Int), 0) := by
  subst hT
  unfold jnV; rw [if_neg (by simp [h]), if_neg (by simp [h2]), if_neg (by omega), Int.toNat_natCast, Int.toNat_natCast]
set_option maxRecDepth 100000 in
theorem jnf_low {l l' : List Nat} {N : Nat} : ∀ i, i < N → jnf l N l' i = bt l i := fun i hi => by unfold jnf; rw [if_pos hi]
set_option maxRecDepth 100000 in
theorem jnf_high {l l' : List Nat} {N K : Nat} : ∀ t, t < K → jnf l N l' (N + t) = bt l' (0 + t) := fun t _ => by
  unfold jnf; rw [if_neg (by omega), show N + t - N = t by omega, Nat.zero_add]
set_option maxRecDepth 100000 in
/-- Three blocks laid one behind the other. -/
theorem three_boxes (w : World) (A B Z : Array Value) (t : TypeId) :
    (((w.alloc (.cells A t)).alloc (.cells B t)).alloc (.cells Z t)).heap[w.heap.size]? = some (.cells A t (0, 0)) ∧ (((w.alloc (.cells A t)).alloc (.cells B t)).alloc (.cells Z t)).heap[w.heap.size + 1]? = some (.cells B t (0, 0)) ∧
      (((w.alloc (.cells A t)).alloc (.cells B t)).alloc (.cells Z t)).heap[w.heap.size + 2]? = some (.cells Z t (0, 0)) ∧ w.grownBy (((w.alloc (.cells A t)).alloc (.cells B t)).alloc (.cells Z t)) none ∧ (((w.alloc (.cells A t)).alloc (.cells B t)).alloc (.cells Z t)).heap.size = w.heap.size + 3 := by
  obtain ⟨k1, k2, k3, k4⟩ := two_boxes w A B t t
  have g := World.grownBy_alloc ((w.alloc (.cells A t)).alloc (.cells B t)) (.cells Z t) none
  refine ⟨kept_row k1 g (by simp), kept_row k2 g (by simp), ?_, grown_trans k3 g, by simp⟩
  rw [← k4]; exact heap_alloc_new _ _
end Go.Proofs.Ytnpkihioklpnmaa

/- Align of the program. -/
namespace Go.Proofs.Ytnpkihioklpnmaa
open Go.RowKit Bs
/-- What Align returns. -/
def alV (l : List Nat) (n : Int) : List Nat × Int × Int := if vs l n = false then ([], 0, 1) else (l, ((8 * l.length : Nat) : Int), 0)
set_option maxRecDepth 100000 in
theorem alV_inv {l : List Nat} {n : Int} (h : vs l n = false) : alV l n = ([], 0, 1) := by unfold alV; rw [if_pos h]
set_option maxRecDepth 100000 in
theorem alV_ok {l : List Nat} {n : Int} (h : vs l n = true) : alV l n = (l, ((8 * l.length : Nat) : Int), 0) := by unfold alV; rw [if_neg (by simp [h])]
end Go.Proofs.Ytnpkihioklpnmaa

/- The program's check number. -/
namespace Go.Proofs.Ytnpkihioklpnmaa
open Go.RowKit Bs
namespace Bs
/-- The register behind one bit. -/
def stp (r : Nat) (b : Bool) : Nat := if (r.testBit 15 != b) = true then (2 * r % 65536) ^^^ 4129 else 2 * r % 65536
/-- The register behind k bits. -/
def crcB (f : Nat → Bool) : Nat → Nat
  | 0 => 65535
  | k + 1 => stp (crcB f k) (f k)
set_option maxRecDepth 100000 in
theorem stp_lt (r : Nat) (b : Bool) : stp r b < 65536 := by
  have h : 2 * r % 65536 < 65536 := Nat.mod_lt _ (by decide)
  unfold stp
  split
  · exact Nat.xor_lt_two_pow (n := 16) h (by decide)
  · exact h
set_option maxRecDepth 100000 in
theorem chk_lt (f : Nat → Bool) : ∀ k, crcB f k < 65536
  | 0 => by simp [crcB]
  | k + 1 => stp_lt _ _
set_option maxRecDepth 100000 in
theorem stp_diff {r : Nat} {b : Bool} (h : (r.testBit 15 != b) = true) : stp r b = (2 * r % 65536) ^^^ 4129 := by unfold stp; rw [if_pos h]
set_option maxRecDepth 100000 in
theorem stp_same {r : Nat} {b : Bool} (h : (r.testBit 15 != b) = false) : stp r b = 2 * r % 65536 := by unfold stp; rw [if_neg (by simp [h])]
set_option maxRecDepth 100000 in
theorem bit15 {r : Nat} (h : r < 65536) : r / 32768 = (r.testBit 15).toNat := by
  rw [Nat.toNat_testBit, show (2 : Nat) ^ 15 = 32768 from rfl]; omega
end Bs
/-- What Check returns. -/
def chkV (l : List Nat) (n : Int) : Nat × Int := if vs l n = false then (0, 1) else (crcB (bt l) n.toNat, 0)
set_option maxRecDepth 100000 in
theorem chkV_inv {l : List Nat} {n : Int} (h : vs l n = false) : chkV l n = (0, 1) := by unfold chkV; rw [if_pos h]
set_option maxRecDepth 100000 in
theorem chkV_ok {l : List Nat} {N : Nat} (h : vs l (N : Int) = true) : chkV l (N : Int) = (crcB (bt l) N, 0) := by unfold chkV; rw [if_neg (by simp [h]), Int.toNat_natCast]
def CheckPost (l : List Nat) (n : Int) (w : World) (e : Ending) (w' : World) : Prop := e = .returned (.tuple #[.int .u64 (((chkV l n).1 : Nat) : Int), .int .i64 (chkV l n).2]) ∧ w.grownBy w' none
set_option maxRecDepth 100000 in
theorem check_end {l : List Nat} {n : Int} {x : Nat} {y : Int} {w w' : World} (h : chkV l n = (x, y)) (g : w.grownBy w' none) : CheckPost l n w (.returned (.tuple #[.int .u64 (x : Int), .int .i64 y])) w' := ⟨by rw [h], g⟩
set_option maxRecDepth 100000 in
theorem ne_bits (a b : Bool) : ((((a.toNat : Nat) : Int)) != ((b.toNat : Nat) : Int)) = (a != b) := by cases a <;> cases b <;> rfl
set_option maxRecDepth 100000 in
theorem diff_word {r x s : Nat} (hr : r < 65536) (hx : x < 256) : ((r : Int) / 32768 != bits .and .u8 ((x : Int) / 2 ^ s) 1) = (r.testBit 15 != x.testBit s) := by
  have e1 : ((r : Int) / 32768) = (((r.testBit 15).toNat : Nat) : Int) := by rw [← bit15 hr]; omega
  have h2 : x / 2 ^ s ≤ x := Nat.div_le_self _ _
  have e2 : bits .and .u8 ((x : Int) / 2 ^ s) 1 = (((x.testBit s).toNat : Nat) : Int) := by
    rw [shrW, show (1 : Int) = ((1 : Nat) : Int) from rfl, u8_and_nat _ 1 (by omega) (by omega), nat_mask1, Nat.toNat_testBit]
  rw [e1, e2, ne_bits]
set_option maxRecDepth 100000 in
theorem shift16 {r : Nat} (hr : r < 65536) : IntKind.u16.wrap ((r : Int) * 2) = ((2 * r % 65536 : Nat) : Int) := by rw [IntKind.wrap_u16]; omega
set_option maxRecDepth 100000 in
theorem xor16 {r : Nat} (hr : r < 65536) : bits .xor .u16 (IntKind.u16.wrap ((r : Int) * 2)) 4129 = (((2 * r % 65536) ^^^ 4129 : Nat) : Int) := by
  rw [shift16 hr, show (4129 : Int) = ((4129 : Nat) : Int) from rfl, u16_xor_nat _ _ (Nat.mod_lt _ (by decide)) (by decide)]
end Go.Proofs.Ytnpkihioklpnmaa

/- Spread, Gather, Nth, Rank as plain functions of numbers. No program is named here. -/
namespace Go.Proofs.Ytnpkihioklpnmaa
open Go.RowKit
namespace Bs
def cnt (b : Nat) : Nat := (bl b).length
set_option maxRecDepth 100000 in
theorem cnt_le (b : Nat) : cnt b ≤ 64 := bl_length_le b
def nth (b : Nat) (n : Int) : Int := if n < 0 then -1 else match (bl b)[n.toNat]? with | some k => (k : Int) | none => -1
set_option maxRecDepth 100000 in
theorem nth_neg {b : Nat} {n : Int} (h : n < 0) : nth b n = -1 := by unfold nth; rw [if_pos h]
set_option maxRecDepth 100000 in
theorem nth_far {b : Nat} {n : Int} (h : (cnt b : Int) ≤ n) : nth b n = -1 := by
  unfold nth
  rw [if_neg (by omega), List.getElem?_eq_none (by unfold cnt at h; omega)]
set_option maxRecDepth 100000 in
theorem nth_at {b k : Nat} {n : Nat} (h : (bl b)[n]? = some k) : nth b (n : Int) = (k : Int) := by
  unfold nth
  rw [if_neg (by omega), Int.toNat_natCast, h]
def rk (b : Nat) (k : Int) : Nat := (blN (min k.toNat 64) b).length
set_option maxRecDepth 100000 in
theorem rk_neg {b : Nat} {k : Int} (h : k < 0) : rk b k = 0 := by
  unfold rk
  rw [show min k.toNat 64 = 0 by omega]; rfl
set_option maxRecDepth 100000 in
theorem rk_far {b : Nat} {k : Int} (h : 63 < k) : rk b k = cnt b := by
  unfold rk
  rw [show min k.toNat 64 = 64 by omega]; rfl
set_option maxRecDepth 100000 in
theorem filter_lt (f : Nat → Bool) (k : Nat) : ∀ n, k ≤ n → ((List.range n).filter fun i => decide (i < k) && f i) = (List.range k).filter f := by
  intro n hn
  induction n with
  | zero => obtain rfl : k = 0 := by omega
            rfl
  | succ n ih =>
    by_cases h : k ≤ n
    · rw [List.range_succ, List.filter_append, ih h]
      have : ¬ n < k := by omega
      simp [this]
    · obtain rfl : k = n + 1 := by omega
      apply List.filter_congr
      intro x hx
      have : x < n + 1 := List.mem_range.1 hx
      simp [this]
set_option maxRecDepth 100000 in
theorem bl_lo (b k : Nat) (hk : k ≤ 64) : bl (b &&& lo k) = blN k b := by
  unfold bl blN lo
  rw [Nat.and_two_pow_sub_one_eq_mod]
  have : (fun i => (b % 2 ^ k).testBit i) = fun i => decide (i < k) && b.testBit i := by
    funext i; exact Nat.testBit_mod_two_pow b k i
  rw [this]
  exact filter_lt _ k 64 hk
set_option maxRecDepth 100000 in
theorem rk_mid {b : Nat} {k : Nat} (h : k ≤ 63) : rk b (k : Int) = cnt (b &&& lo k) := by
  unfold rk cnt
  rw [bl_lo b k (by omega), Int.toNat_natCast, show min k 64 = k by omega]

/-- A bit put to a place. -/
def put (t : Bool) (k : Nat) : Nat := if t then b2 k else 0
set_option maxRecDepth 100000 in
theorem put_u64 (t : Bool) {k : Nat} (h : k < 64) : U64 (put t k) := by
  unfold put
  cases t
  · show (0 : Nat) < 18446744073709551616; decide
  · exact b2_u64 h
set_option maxRecDepth 100000 in
theorem put_test (t : Bool) (k i : Nat) : (put t k).testBit i = (t && decide (k = i)) := by
  cases t
  · show (0 : Nat).testBit i = _
    simp
  · show (2 ^ k).testBit i = _
    rw [Nat.testBit_two_pow]; simp
def spr (x : Nat) (l : List Nat) : Nat → Nat
  | 0 => 0
  | j + 1 => spr x l j ||| put (x.testBit j) (l.getD j 0)
def gat (x : Nat) (l : List Nat) : Nat → Nat
  | 0 => 0
  | j + 1 => gat x l j ||| put (x.testBit (l.getD j 0)) j
def spread (x b : Nat) : Nat := spr x (bl b) (cnt b)
def gather (x b : Nat) : Nat := gat x (bl b) (cnt b)
set_option maxRecDepth 100000 in
theorem bl_getD_lt (b j : Nat) : (bl b).getD j 0 < 64 := by
  rw [List.getD_eq_getElem?_getD]
  cases h : (bl b)[j]? with
  | none => simp
  | some k => exact bl_lt (List.mem_of_getElem? h)
set_option maxRecDepth 100000 in
theorem spr_u64 (x b : Nat) : ∀ j, U64 (spr x (bl b) j)
  | 0 => by unfold U64 spr; decide
  | j + 1 => u64_or _ _ (spr_u64 x b j) (put_u64 _ (bl_getD_lt b j))
set_option maxRecDepth 100000 in
theorem gat_u64 (x : Nat) (l : List Nat) : ∀ j, j ≤ 64 → U64 (gat x l j)
  | 0, _ => by unfold U64 gat; decide
  | j + 1, h => u64_or _ _ (gat_u64 x l j (by omega)) (put_u64 _ (by omega))
set_option maxRecDepth 100000 in
theorem spread_u64 (x b : Nat) : U64 (spread x b) := spr_u64 x b _
set_option maxRecDepth 100000 in
theorem gather_u64 (x b : Nat) : U64 (gather x b) := gat_u64 x _ _ (cnt_le b)
set_option maxRecDepth 100000 in
theorem spr_test (x : Nat) (l : List Nat) (i : Nat) : ∀ j, j ≤ l.length → ((spr x l j).testBit i = true ↔ ∃ m, m < j ∧ l[m]? = some i ∧ x.testBit m = true)
  | 0, _ => by simp [spr]
  | j + 1, h => by
    have hj : l[j]? = some (l.getD j 0) := by rw [List.getD_eq_getElem?_getD, List.getElem?_eq_getElem (by omega)]; rfl
    rw [spr, Nat.testBit_or, put_test, Bool.or_eq_true, spr_test x l i j (by omega)]
    simp only [Bool.and_eq_true, decide_eq_true_eq]
    constructor
    · rintro (⟨m, hm, h1, h2⟩ | ⟨h1, h2⟩)
      · exact ⟨m, by omega, h1, h2⟩
      · exact ⟨j, by omega, by rw [hj, h2], h1⟩
    · rintro ⟨m, hm, h1, h2⟩
      by_cases e : m = j
      · subst e
        rw [hj] at h1
        exact .inr ⟨h2, Option.some.inj h1⟩
      · exact .inl ⟨m, by omega, h1, h2⟩
set_option maxRecDepth 100000 in
theorem gat_test (x : Nat) (l : List Nat) (i : Nat) : ∀ j, (gat x l j).testBit i = (decide (i < j) && x.testBit (l.getD i 0))
  | 0 => by simp [gat]
  | j + 1 => by
    rw [gat, Nat.testBit_or, put_test, gat_test x l i j]
    by_cases h : i < j
    · have h1 : i < j + 1 := by omega
      have h2 : ¬ j = i := by omega
      simp [h, h1, h2]
    · by_cases e : j = i
      · subst e; simp
      · have h1 : ¬ i < j + 1 := by omega
        simp [h, h1, e]
set_option maxRecDepth 100000 in
/-- Spread of Gather: the bits that both have. -/
theorem spread_gather (x b : Nat) (hx : U64 x) : spread (gather x b) b = x &&& b := by
  apply Nat.eq_of_testBit_eq
  intro i
  rw [Nat.testBit_and, Bool.eq_iff_iff]
  unfold spread
  rw [show cnt b = (bl b).length from rfl, spr_test _ _ _ _ (Nat.le_refl _)]
  unfold gather
  simp only [gat_test, Bool.and_eq_true, decide_eq_true_eq]
  constructor
  · rintro ⟨m, hm, h1, _, h2⟩
    rw [List.getD_eq_getElem?_getD, h1] at h2
    exact ⟨h2, (mem_blN.1 (List.mem_of_getElem? h1)).2⟩
  · rintro ⟨h1, h2⟩
    have hi : i < 64 := by
      rcases Nat.lt_or_ge i 64 with h | h
      · exact h
      · have := Nat.testBit_lt_two_pow (Nat.lt_of_lt_of_le hx.pow (Nat.pow_le_pow_right (by decide) h))
        rw [this] at h1; cases h1
    obtain ⟨m, hm, h3⟩ := List.mem_iff_getElem.1 (mem_blN.2 ⟨hi, h2⟩ : i ∈ bl b)
    have h4 : (bl b)[m]? = some i := by show (blN 64 b)[m]? = some i; rw [List.getElem?_eq_getElem hm, h3]
    exact ⟨m, hm, h4, hm, by rw [List.getD_eq_getElem?_getD, h4]; exact h1⟩
set_option maxRecDepth 100000 in
theorem bl_inj {b m n i : Nat} (hm : (bl b)[m]? = some i) (hn : (bl b)[n]? = some i) : m = n := by
  have hs := blN_sorted 64 b
  have h := List.pairwise_iff_getElem.1 hs
  obtain ⟨hm1, hm2⟩ := List.getElem?_eq_some_iff.1 hm
  obtain ⟨hn1, hn2⟩ := List.getElem?_eq_some_iff.1 hn
  rcases Nat.lt_trichotomy m n with hlt | he | hgt
  · have h1 : (bl b)[m] < (bl b)[n] := h m n hm1 hn1 hlt
    rw [hm2, hn2] at h1; omega
  · exact he
  · have h1 : (bl b)[n] < (bl b)[m] := h n m hn1 hm1 hgt
    rw [hm2, hn2] at h1; omega
set_option maxRecDepth 100000 in
/-- Gather of Spread: the lowest bits. -/
theorem gather_spread (x b : Nat) : gather (spread x b) b = x % 2 ^ cnt b := by
  apply Nat.eq_of_testBit_eq
  intro i
  unfold gather
  rw [gat_test, Nat.testBit_mod_two_pow]
  by_cases h : i < cnt b
  · have hi : (bl b)[i]? = some ((bl b).getD i 0) := by rw [List.getD_eq_getElem?_getD, List.getElem?_eq_getElem h]; rfl
    simp only [h, decide_true, Bool.true_and]
    rw [Bool.eq_iff_iff]
    unfold spread
    rw [show spr x (bl b) (cnt b) = spr x (bl b) (bl b).length from rfl, spr_test _ _ _ _ (Nat.le_refl _)]
    constructor
    · rintro ⟨m, _, h1, h2⟩
      rw [bl_inj hi h1]; exact h2
    · exact fun h2 => ⟨i, h, hi, h2⟩
  · simp [h]
/-- A shifted number. -/
def sh (x j : Nat) : Nat := x / 2 ^ j
set_option maxRecDepth 100000 in
theorem sh_zero (x : Nat) : sh x 0 = x := by unfold sh; simp
set_option maxRecDepth 100000 in
theorem sh_u64 {x : Nat} (h : U64 x) (j : Nat) : U64 (sh x j) := u64_div _ _ h
set_option maxRecDepth 100000 in
theorem sh_half (x j : Nat) : ((sh x j : Nat) : Int) / 2 = ((sh x (j + 1) : Nat) : Int) := by
  rw [show (2 : Int) = ((2 : Nat) : Int) from rfl, divU]
  unfold sh
  rw [Nat.div_div_eq_div_mul, Nat.pow_succ]
set_option maxRecDepth 100000 in
theorem put_word (z k : Nat) (hz : z ≤ 1) (hk : k < 64) : IntKind.u64.wrap ((z : Int) * 2 ^ k) = ((put (decide (z = 1)) k : Nat) : Int) := by
  have h := (b2_u64 hk).lt
  unfold b2 at h
  rw [powI, ← Int.natCast_mul]
  rcases (show z = 0 ∨ z = 1 by omega) with rfl | rfl
  · simp [put, IntKind.wrap_u64]
  · rw [Nat.one_mul]
    exact wrapU (2 ^ k) h
set_option maxRecDepth 100000 in
theorem bit_of (x j : Nat) : decide (x / 2 ^ j % 2 = 1) = x.testBit j := (Nat.testBit_eq_decide_div_mod_eq).symm
set_option maxRecDepth 100000 in
theorem spread_word (r x j k : Nat) (hr : U64 r) (hx : U64 x) (hk : k < 64) :
    bits .or .u64 (r : Int) (IntKind.u64.wrap (bits .and .u64 ((sh x j : Nat) : Int) 1 * 2 ^ k)) = ((r ||| put (x.testBit j) k : Nat) : Int) := by
  rw [show (1 : Int) = ((1 : Nat) : Int) from rfl, andU _ 1 (sh_u64 hx j) (by unfold U64; decide), nat_mask1, put_word _ k (by omega) hk]
  rw [show decide (sh x j % 2 = 1) = x.testBit j from bit_of x j]
  exact orU r _ hr (put_u64 _ hk)
set_option maxRecDepth 100000 in
theorem gather_word (r x j k : Nat) (hr : U64 r) (hx : U64 x) (hj : j < 64) :
    bits .or .u64 (r : Int) (IntKind.u64.wrap (bits .and .u64 ((x : Int) / 2 ^ k) 1 * 2 ^ j)) = ((r ||| put (x.testBit k) j : Nat) : Int) := by
  rw [bitW x k hx, put_word _ j (by omega) hj, bit_of]
  exact orU r _ hr (put_u64 _ hj)
set_option maxRecDepth 100000 in
theorem spr_next {x j k : Nat} {l : List Nat} (h : l[j]? = some k) : spr x l (j + 1) = spr x l j ||| put (x.testBit j) k := by
  rw [spr, List.getD_eq_getElem?_getD, h]; rfl
set_option maxRecDepth 100000 in
theorem gat_next {x j k : Nat} {l : List Nat} (h : l[j]? = some k) : gat x l (j + 1) = gat x l j ||| put (x.testBit k) j := by
  rw [gat, List.getD_eq_getElem?_getD, h]; rfl
/-- c is b without its j lowest bits. -/
def Strip (b c j : Nat) : Prop := U64 c ∧ bl c = (bl b).drop j ∧ j ≤ cnt b
set_option maxRecDepth 100000 in
theorem Strip.start {b : Nat} (h : U64 b) : Strip b b 0 := ⟨h, rfl, Nat.zero_le _⟩
set_option maxRecDepth 100000 in
theorem Strip.step {b c j : Nat} (h : Strip b c j) (h0 : c ≠ 0) : Strip b (wo c) (j + 1) ∧ (bl b)[j]? = some (Lib.ctz 64 c) := by
  have hc := bl_wo h0 h.1.lt
  rw [h.2.1] at hc
  have h1 : (bl b)[j]? = some (Lib.ctz 64 c) := by
    have := congrArg (fun l => l[0]?) hc
    simpa using this
  refine ⟨⟨u64_wo c h.1, ?_, (List.getElem?_eq_some_iff.1 h1).1⟩, h1⟩
  have := congrArg List.tail hc
  rw [List.tail_drop] at this
  simpa using this.symm
set_option maxRecDepth 100000 in
theorem Strip.end_ {b j : Nat} (h : Strip b 0 j) : j = cnt b := by
  have h1 := h.2.1
  rw [bl_zero] at h1
  have := congrArg List.length h1
  rw [List.length_drop] at this
  have h2 := h.2.2
  unfold cnt at h2 ⊢
  simp at this
  omega
set_option maxRecDepth 100000 in
theorem Strip.more {b c j : Nat} (h : Strip b c j) (hj : j < cnt b) : c ≠ 0 := by
  rintro rfl
  have := h.end_
  omega
set_option maxRecDepth 100000 in
theorem Strip.done {b j : Nat} (h : Strip b 0 j) : (bl b).take j = bl b := by
  rw [h.end_]; exact List.take_length
set_option maxRecDepth 100000 in
theorem take_next {l : List Nat} {j x : Nat} (h : l[j]? = some x) : l.take (j + 1) = l.take j ++ [x] := by
  rw [List.take_add_one, h]; rfl
set_option maxRecDepth 100000 in
theorem sorted_below {l : List Nat} (hs : l.Pairwise (· < ·)) : ∀ {i k : Nat}, l[i]? = some k → (l.filter fun x => decide (x < k)).length = i := by
  induction l with
  | nil => intro i k h; simp at h
  | cons a r ih =>
    intro i k h
    rw [List.pairwise_cons] at hs
    cases i with
    | zero =>
      simp at h; subst h
      rw [List.filter_cons, if_neg (by simp)]
      rw [List.filter_eq_nil_iff.2]
      · rfl
      · intro x hx
        have := hs.1 x hx
        simp; omega
    | succ i =>
      rw [List.getElem?_cons_succ] at h
      have hk : a < k := hs.1 k (List.mem_of_getElem? h)
      rw [List.filter_cons, if_pos (by simpa using hk), List.length_cons, ih hs.2 h]
set_option maxRecDepth 100000 in
theorem blN_filter (b k : Nat) (hk : k ≤ 64) : blN k b = (bl b).filter fun x => decide (x < k) := by
  unfold bl blN
  rw [List.filter_filter]
  exact (filter_lt _ k 64 hk).symm
set_option maxRecDepth 100000 in
theorem rk_nth {b i k : Nat} (h : (bl b)[i]? = some k) : rk b (k : Int) = i := by
  have hk : k < 64 := bl_lt (List.mem_of_getElem? h)
  unfold rk
  rw [Int.toNat_natCast, show min k 64 = k by omega, blN_filter b k (by omega)]
  exact sorted_below (blN_sorted 64 b) h
set_option maxRecDepth 100000 in
theorem bl_next_lt {b i j k : Nat} (h : (bl b)[i]? = some j) (h' : (bl b)[i + 1]? = some k) : j < k := by
  obtain ⟨h1, h2⟩ := List.getElem?_eq_some_iff.1 h
  obtain ⟨h3, h4⟩ := List.getElem?_eq_some_iff.1 h'
  have := List.pairwise_iff_getElem.1 (blN_sorted 64 b) i (i + 1) h1 h3 (by omega)
  rw [← h2, ← h4]
  exact this
set_option maxRecDepth 100000 in
theorem nth_mem {b i k : Nat} (h : (bl b)[i]? = some k) : b.testBit k = true := (mem_blN.1 (List.mem_of_getElem? h)).2
/-- The bit before the i-th one: -1 ahead of the first. -/
def prev (b i : Nat) : Int := if i = 0 then -1 else nth b ((i - 1 : Nat) : Int)
set_option maxRecDepth 100000 in
theorem prev_lt {b i k : Nat} (h : (bl b)[i]? = some k) : prev b i < (k : Int) := by
  unfold prev
  cases i with
  | zero => rw [if_pos rfl]; omega
  | succ i =>
    rw [if_neg (by omega), show i + 1 - 1 = i by omega]
    have hi : i < (bl b).length := by have := (List.getElem?_eq_some_iff.1 h).1; omega
    have h0 := List.getElem?_eq_getElem hi
    rw [nth_at h0]
    have := bl_next_lt h0 h
    omega
set_option maxRecDepth 100000 in
theorem prev_ge (b i : Nat) : -1 ≤ prev b i ∧ prev b i ≤ 63 := by
  unfold prev
  by_cases h : i = 0
  · rw [if_pos h]; omega
  · rw [if_neg h]
    unfold nth
    rw [if_neg (by omega)]
    cases hh : (bl b)[((i - 1 : Nat) : Int).toNat]? with
    | none => simp
    | some k => have := bl_lt (List.mem_of_getElem? hh); simp; omega
set_option maxRecDepth 100000 in
theorem prev_succ {b i k : Nat} (h : (bl b)[i]? = some k) : prev b (i + 1) = (k : Int) := by
  unfold prev
  rw [if_neg (by omega), show i + 1 - 1 = i by omega]
  exact nth_at h
set_option maxRecDepth 100000 in
theorem compl_test {f : Nat} (h : U64 f) (i : Nat) : (18446744073709551615 - f).testBit i = (decide (i < 64) && !f.testBit i) := by
  have := Nat.testBit_two_pow_sub_succ h.pow i
  rw [← this]
  congr 1
  have := h.lt
  omega
set_option maxRecDepth 100000 in
theorem and_compl (z : Nat) {f : Nat} (h : U64 f) : (z &&& f) &&& (18446744073709551615 - f) = 0 := by
  apply Nat.eq_of_testBit_eq
  intro i
  rw [Nat.testBit_and, Nat.testBit_and, compl_test h, Nat.zero_testBit]
  cases f.testBit i <;> simp
set_option maxRecDepth 100000 in
theorem lt_of_compl {x n : Nat} (hx : U64 x) (hn : n ≤ 64) (h : x &&& (18446744073709551615 - lo n) = 0) : x < 2 ^ n := by
  apply Nat.lt_pow_two_of_testBit
  intro i hi
  cases ht : x.testBit i with
  | false => rfl
  | true =>
    have h2 := congrArg (·.testBit i) h
    have hi64 : i < 64 := by
      rcases Nat.lt_or_ge i 64 with h1 | h1
      · exact h1
      · have := Nat.testBit_lt_two_pow (Nat.lt_of_lt_of_le hx.pow (Nat.pow_le_pow_right (by decide) h1))
        rw [this] at ht; cases ht
    have hlo : (lo n).testBit i = false := by
      unfold lo
      rw [Nat.testBit_two_pow_sub_one]
      simp; omega
    simp only [Nat.testBit_and, compl_test (lo_u64 hn), Nat.zero_testBit, ht, hlo, hi64, decide_true, Bool.not_false, Bool.and_self] at h2
    cases h2
end Bs
end Go.Proofs.Ytnpkihioklpnmaa

/- Full, Valid, Count, First, Rank of the program; Full, Valid of the reference. -/
namespace Go.Proofs.Ytnpkihioklpnmaa
open Go.RowKit Bs

/-- All bits below a valid length. -/
def full (n : Int) : Nat := if vl n then lo n.toNat else 0
set_option maxRecDepth 100000 in
theorem full_val : full 8 = 255 ∧ full 16 = 65535 ∧ full 32 = 4294967295 ∧ full 64 = 18446744073709551615 := by decide +kernel
set_option maxRecDepth 100000 in
theorem full_false {n : Int} (h : vl n = false) : full n = 0 := by unfold full; rw [h]; rfl
set_option maxRecDepth 100000 in
theorem full_true {n : Int} (h : vl n = true) : full n = lo n.toNat := by unfold full; rw [h]; rfl
set_option maxRecDepth 100000 in
theorem full_u64 (n : Int) : U64 (full n) := by
  by_cases h : vl n = true
  · rcases vl_cases h with rfl | rfl | rfl | rfl <;> (unfold U64; decide +kernel)
  · rw [full_false (by simpa using h)]; unfold U64; decide
/-- Is the bit string valid for the length? -/
def vb (b : Nat) (n : Int) : Bool := vl n && b &&& (18446744073709551615 - full n) == 0
/-- The lowest bit, -1 if there is none. -/
def fst (b : Nat) : Int := if b = 0 then -1 else ((Lib.ctz 64 b : Nat) : Int)
end Go.Proofs.Ytnpkihioklpnmaa

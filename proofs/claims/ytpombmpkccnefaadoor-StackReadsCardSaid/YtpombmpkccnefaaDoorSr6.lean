/- Parts of the proof, packed: PkBits, PkFields, Funs, PkHead, PkValid, PkWrite, PkCalls, PkAlign, PkEncode. -/
import Derived.Test.YtpombmpkccnefaaDoorSr5
import Derived.Test.YtpombmpkccnefaaDoorSr2
import Derived.OwnWalk
import Derived.Deep.CutRange
import Derived.Lib.ConvBytes
/- Streams as lists of bits; the encoding of a packet as a list of bits. -/
namespace Go.Proofs.YtpombmpkccnefaaDoor
open Go.RowKit Bs
/-- The k lowest bits of v, the highest first. -/
def nb (v k : Nat) : List Bool := (List.range k).map fun t => v.testBit (k - 1 - t)
def bf (B : List Bool) (i : Nat) : Bool := B.getD i false
/-- The bytes of these bits. -/
def pk (B : List Bool) : List Nat := pz (bf B) B.length ((B.length + 7) / 8)
set_option maxRecDepth 100000 in
theorem nb_len (v k : Nat) : (nb v k).length = k := by unfold nb; simp
set_option maxRecDepth 100000 in
theorem pk_len (B : List Bool) : (pk B).length = (B.length + 7) / 8 := pz_len _ _ _
set_option maxRecDepth 100000 in
theorem bf_nb (v k i : Nat) (h : i < k) : bf (nb v k) i = v.testBit (k - 1 - i) := by
  unfold bf nb
  rw [List.getD_eq_getElem?_getD, List.getElem?_map, List.getElem?_range h]; rfl
set_option maxRecDepth 100000 in
theorem bf_left (A B : List Bool) (i : Nat) (h : i < A.length) : bf (A ++ B) i = bf A i := by
  unfold bf
  rw [List.getD_eq_getElem?_getD, List.getD_eq_getElem?_getD, List.getElem?_append_left h]
set_option maxRecDepth 100000 in
theorem bf_right (A B : List Bool) (i : Nat) : bf (A ++ B) (A.length + i) = bf B i := by
  unfold bf
  rw [List.getD_eq_getElem?_getD, List.getD_eq_getElem?_getD, List.getElem?_append_right (by omega), Nat.add_sub_cancel_left]
set_option maxRecDepth 100000 in
theorem bf_out (B : List Bool) (i : Nat) (h : B.length ≤ i) : bf B i = false := by
  unfold bf
  rw [List.getD_eq_getElem?_getD, List.getElem?_eq_none h]; rfl
set_option maxRecDepth 100000 in
theorem bt_pk (B : List Bool) (i : Nat) (h : i < 8 * ((B.length + 7) / 8)) : bt (pk B) i = bf B i := by
  unfold pk
  rw [bt_pz _ _ _ _ h]
  by_cases hi : i < B.length
  · simp [hi]
  · simp [hi, bf_out B i (by omega)]
set_option maxRecDepth 100000 in
theorem pk_vs (B : List Bool) (h : B.length ≤ 8192) : vs (pk B) (B.length : Int) = true := by
  refine vs_iff.2 ⟨h, pk_len _, fun i hi hn => ?_⟩
  rw [pk_len] at hi
  rw [bt_pk _ _ hi]
  exact bf_out B i hn
set_option maxRecDepth 100000 in
theorem pk_by (B : List Bool) : By (pk B) := pz_lt _ _ _
set_option maxRecDepth 100000 in
theorem apV_pk (B : List Bool) (v k : Nat) (hk : k ≤ 64) (hv : v < 2 ^ k) (h : B.length + k ≤ 8192) : apV (pk B) (B.length : Int) v (k : Int) = (pk (B ++ nb v k), ((B ++ nb v k).length : Int), 0) := by
  have e : (B ++ nb v k).length = B.length + k := by rw [List.length_append, nb_len]
  rw [apV_ok (pk_vs B (by omega)) (by unfold vw; simp; omega) (Nat.not_le.2 hv) (by omega)]
  unfold pk
  rw [e]
  refine congrArg (fun x => (x, _)) (pz_congr fun i hi => ?_)
  by_cases hl : i < B.length + k
  · simp only [hl, decide_true, Bool.true_and]
    unfold apf
    by_cases hb : i < B.length
    · rw [if_pos hb, bf_left _ _ _ hb]
      have := bt_pk B i (by omega)
      unfold pk at this
      exact this
    · obtain ⟨t, rfl⟩ : ∃ t, i = B.length + t := ⟨i - B.length, by omega⟩
      rw [if_neg hb, bf_right, bf_nb _ _ _ (by omega), Nat.add_sub_cancel_left]
  · simp [hl]
set_option maxRecDepth 100000 in
theorem jnV_pk (A B : List Bool) (h : A.length + B.length ≤ 8192) : jnV (pk A) (A.length : Int) (pk B) (B.length : Int) = (pk (A ++ B), ((A ++ B).length : Int), 0) := by
  have e : (A ++ B).length = A.length + B.length := List.length_append
  rw [jnV_ok (pk_vs A (by omega)) (pk_vs B (by omega)) e.symm (by omega)]
  unfold pk
  rw [e]
  refine congrArg (fun x => (x, _)) (pz_congr fun i hi => ?_)
  by_cases hl : i < A.length + B.length
  · simp only [hl, decide_true, Bool.true_and]
    unfold jnf
    by_cases hb : i < A.length
    · rw [if_pos hb, bf_left _ _ _ hb]
      have := bt_pk A i (by omega)
      unfold pk at this
      exact this
    · obtain ⟨t, rfl⟩ : ∃ t, i = A.length + t := ⟨i - A.length, by omega⟩
      rw [if_neg hb, bf_right, Nat.add_sub_cancel_left]
      have := bt_pk B t (by omega)
      unfold pk at this
      exact this
  · simp [hl]
/-- The bits of bytes. -/
def pb (l : List Nat) : List Bool := (List.range (8 * l.length)).map (bt l)
set_option maxRecDepth 100000 in
theorem pb_len (l : List Nat) : (pb l).length = 8 * l.length := by unfold pb; simp
set_option maxRecDepth 100000 in
theorem bf_pb (l : List Nat) (i : Nat) (h : i < 8 * l.length) : bf (pb l) i = bt l i := by
  unfold bf pb
  rw [List.getD_eq_getElem?_getD, List.getElem?_map, List.getElem?_range h]; rfl
set_option maxRecDepth 100000 in
theorem pk_pb (l : List Nat) (h : By l) : pk (pb l) = l := by
  have e := pz_bt l (8 * l.length) h fun i h1 h2 => absurd h2 (by omega)
  refine Eq.trans ?_ e.symm
  unfold pk
  rw [pb_len, show (8 * l.length + 7) / 8 = l.length by omega]
  refine pz_congr fun i hi => ?_
  simp only [hi, decide_true, Bool.true_and]
  exact bf_pb l i hi
set_option maxRecDepth 100000 in
theorem alV_pk (B : List Bool) (h : B.length ≤ 8192) : alV (pk B) (B.length : Int) = (pk B, ((8 * (pk B).length : Nat) : Int), 0) := alV_ok (pk_vs B h)
/-- A packet's parts. -/
structure Pk where
  mode : Int
  sub : Int
  set : Int
  len : Int
  ttl : Int
  ent : Int
  ing : Int
  pro : Int
  bits : Nat
  pay : ByteArray
def Pk.val (P : Pk) : Value := .agg #[.int .i64 P.mode, .int .i64 P.sub, .int .i64 P.set, .int .i64 P.len, .int .i64 P.ttl, .int .i64 P.ent, .int .i64 P.ing, .int .i64 P.pro, .int .u64 (P.bits : Int), .string P.pay]
structure Pk.Wf (P : Pk) : Prop where
  mode : I64 P.mode
  sub : I64 P.sub
  set : I64 P.set
  len : I64 P.len
  ttl : I64 P.ttl
  ent : I64 P.ent
  ing : I64 P.ing
  pro : I64 P.pro
  bits : U64 P.bits
  pay : P.pay.size ≤ maxLen
/-- Is it valid? -/
def vpk (P : Pk) : Bool := decide ((1 ≤ P.mode ∧ P.mode ≤ 3) ∧ (0 ≤ P.sub ∧ P.sub ≤ 7) ∧ (0 ≤ P.set ∧ P.set ≤ 31) ∧ (0 ≤ P.ttl ∧ P.ttl ≤ 63) ∧ (0 ≤ P.ent ∧ P.ent ≤ 1023) ∧ (0 ≤ P.ing ∧ P.ing ≤ 256) ∧ (0 ≤ P.pro ∧ P.pro ≤ 7) ∧ P.pay.size ≤ 64 ∧ vb P.bits P.len = true)
/-- The code of the length. -/
def lcode (n : Int) : Nat := if n = 8 then 0 else if n = 16 then 1 else if n = 32 then 2 else 3
/-- The numbers of the header, with their widths. -/
def fl (P : Pk) : List (Nat × Nat) := [(2, 2), (P.mode.toNat, 2), (P.sub.toNat, 3), (P.set.toNat, 5), (lcode P.len, 2), (P.ttl.toNat, 6), (P.ent.toNat, 10), (P.ing.toNat, 9), (P.pro.toNat, 3), (P.pay.size, 7)]
def flb (f : List (Nat × Nat)) : List Bool := f.flatMap fun x => nb x.1 x.2
def byl (s : ByteArray) : List Nat := s.data.toList.map fun b => b.toNat
def body (P : Pk) : List Bool := flb (fl P) ++ nb P.bits P.len.toNat ++ pb (byl P.pay)
def ck (B : List Bool) : Nat := chk (bf B) B.length
def enc (P : Pk) : List Nat := pk (body P ++ nb (ck (body P)) 16)
set_option maxRecDepth 100000 in
theorem flb_len (f : List (Nat × Nat)) : (flb f).length = (f.map (·.2)).sum := by
  induction f with
  | nil => rfl
  | cons x r ih =>
    unfold flb at *
    rw [List.flatMap_cons, List.length_append, ih, nb_len]; rfl
set_option maxRecDepth 100000 in
theorem byl_len (s : ByteArray) : (byl s).length = s.size := by unfold byl; rw [List.length_map, Array.length_toList]; rfl
set_option maxRecDepth 100000 in
theorem byl_by (s : ByteArray) : By (byl s) := fun x hx => by
  unfold byl at hx
  obtain ⟨b, _, rfl⟩ := List.mem_map.1 hx
  exact b.toNat_lt
set_option maxRecDepth 100000 in
theorem hdr_len (P : Pk) : (flb (fl P)).length = 49 := by rw [flb_len]; rfl
set_option maxRecDepth 100000 in
theorem body_len (P : Pk) : (body P).length = 49 + P.len.toNat + 8 * P.pay.size := by
  unfold body
  rw [List.length_append, List.length_append, hdr_len, nb_len, pb_len, byl_len]
end Go.Proofs.YtpombmpkccnefaaDoor

/- packet: the table of the fields. -/
namespace Go.Proofs.YtpombmpkccnefaaDoor
open Go.RowKit Bs
def fcells (h : Nat) : Array Value := #[.pointer (some ⟨h, 0, none⟩), .int .i64 2, .pointer (some ⟨h, 1, none⟩), .int .i64 2, .pointer (some ⟨h, 2, none⟩), .int .i64 3, .pointer (some ⟨h, 3, none⟩), .int .i64 5, .pointer (some ⟨h, 11, none⟩), .int .i64 2,
  .pointer (some ⟨h, 5, none⟩), .int .i64 6, .pointer (some ⟨h, 6, none⟩), .int .i64 10, .pointer (some ⟨h, 7, none⟩), .int .i64 9, .pointer (some ⟨h, 8, none⟩), .int .i64 3, .pointer (some ⟨h, 12, none⟩), .int .i64 7]
def FieldsPost (h : Nat) (w : World) (e : Ending) (w' : World) : Prop :=
  ∃ g, e = .returned (.slice (some ⟨g, 0, none⟩) 10 10) ∧ w'.heap[g]? = some (.cells (fcells h) 116 (0, 0)) ∧ w.heap.size ≤ g ∧ w.grownBy w' none
set_option maxRecDepth 100000 in
set_option maxHeartbeats 3200000 in
theorem fields_any (h : Nat) (w : World) :
    Calls Tryd.prog 92 #[.pointer (some ⟨h, 0, none⟩)] w fun e w' => FieldsPost h w e w' := by
  go_enter Tryd.func92, Tryd.ntmps92
  go_wp2_with fail
  go_region
  all_goals
    go_wp2_with fail
    go_ret
    exact ⟨w.heap.size, rfl, heap_alloc_new w _, Nat.le_refl _, grown_drew (World.grownBy_alloc w _ none)⟩
def hcells (P : Pk) : Array Value := #[.int .i64 2, .int .i64 P.mode, .int .i64 P.sub, .int .i64 P.set, .int .i64 P.len, .int .i64 P.ttl, .int .i64 P.ent, .int .i64 P.ing, .int .i64 P.pro, .int .u64 (P.bits : Int), .string P.pay, .int .i64 (lcode P.len : Int), .int .i64 (P.pay.size : Int)]
set_option maxRecDepth 100000 in
theorem fst_code {n : Int} (h : vl n = true) : fst (n.toNat / 8) = (lcode n : Int) := by
  rcases vl_cases h with rfl | rfl | rfl | rfl <;> decide
set_option maxRecDepth 100000 in
theorem vpk_parts {P : Pk} (h : vpk P = true) : ((1 ≤ P.mode ∧ P.mode ≤ 3) ∧ (0 ≤ P.sub ∧ P.sub ≤ 7) ∧ (0 ≤ P.set ∧ P.set ≤ 31) ∧ (0 ≤ P.ttl ∧ P.ttl ≤ 63) ∧ (0 ≤ P.ent ∧ P.ent ≤ 1023) ∧ (0 ≤ P.ing ∧ P.ing ≤ 256) ∧ (0 ≤ P.pro ∧ P.pro ≤ 7) ∧ P.pay.size ≤ 64 ∧ vb P.bits P.len = true) := of_decide_eq_true h
set_option maxRecDepth 100000 in
theorem vb_vl {b : Nat} {n : Int} (h : vb b n = true) : vl n = true := by
  unfold vb at h
  exact (Bool.and_eq_true _ _ ▸ h).1
set_option maxRecDepth 100000 in
theorem lcode_lt (n : Int) : lcode n < 4 := by
  unfold lcode
  split
  · decide
  · split
    · decide
    · split <;> decide
set_option maxRecDepth 100000 in
/-- What stands in the table of the fields. -/
theorem field_at {P : Pk} (h : vpk P = true) (hb : Nat) (k : Nat) (hk : k < 10) : ∃ o wd x : Nat, (fcells hb)[k * 2]? = some (.pointer (some ⟨hb, o, none⟩)) ∧ (fcells hb)[k * 2 + 1]? = some (.int .i64 (wd : Int)) ∧ (hcells P)[o]? = some (.int .i64 (x : Int)) ∧ x < 2 ^ wd ∧ wd ≤ 10 ∧ (fl P)[k]? = some (x, wd) := by
  obtain ⟨⟨m1, m2⟩, ⟨s1, s2⟩, ⟨e1, e2⟩, ⟨t1, t2⟩, ⟨n1, n2⟩, ⟨i1, i2⟩, ⟨p1, p2⟩, y1, v1⟩ := vpk_parts h
  have hl := lcode_lt P.len
  rcases (show k = 0 ∨ k = 1 ∨ k = 2 ∨ k = 3 ∨ k = 4 ∨ k = 5 ∨ k = 6 ∨ k = 7 ∨ k = 8 ∨ k = 9 by omega) with rfl | rfl | rfl | rfl | rfl | rfl | rfl | rfl | rfl | rfl
  · exact ⟨0, 2, 2, rfl, rfl, rfl, by decide, by decide, rfl⟩
  · exact ⟨1, 2, P.mode.toNat, rfl, rfl, by rw [Int.toNat_of_nonneg (by omega)]; rfl, by omega, by decide, rfl⟩
  · exact ⟨2, 3, P.sub.toNat, rfl, rfl, by rw [Int.toNat_of_nonneg (by omega)]; rfl, by omega, by decide, rfl⟩
  · exact ⟨3, 5, P.set.toNat, rfl, rfl, by rw [Int.toNat_of_nonneg (by omega)]; rfl, by omega, by decide, rfl⟩
  · exact ⟨11, 2, lcode P.len, rfl, rfl, rfl, by omega, by decide, rfl⟩
  · exact ⟨5, 6, P.ttl.toNat, rfl, rfl, by rw [Int.toNat_of_nonneg (by omega)]; rfl, by omega, by decide, rfl⟩
  · exact ⟨6, 10, P.ent.toNat, rfl, rfl, by rw [Int.toNat_of_nonneg (by omega)]; rfl, by omega, by decide, rfl⟩
  · exact ⟨7, 9, P.ing.toNat, rfl, rfl, by rw [Int.toNat_of_nonneg (by omega)]; rfl, by omega, by decide, rfl⟩
  · exact ⟨8, 3, P.pro.toNat, rfl, rfl, by rw [Int.toNat_of_nonneg (by omega)]; rfl, by omega, by decide, rfl⟩
  · exact ⟨12, 7, P.pay.size, rfl, rfl, rfl, by omega, by decide, rfl⟩
set_option maxRecDepth 100000 in
theorem flb_snoc {f : List (Nat × Nat)} {k x wd : Nat} (h : f[k]? = some (x, wd)) : flb (f.take (k + 1)) = flb (f.take k) ++ nb x wd := by
  unfold flb
  rw [List.take_add_one, h, List.flatMap_append]
  simp
set_option maxRecDepth 100000 in
theorem flb_take_le (P : Pk) (k : Nat) : (flb ((fl P).take k)).length ≤ 49 := by
  have h := hdr_len P
  have e : fl P = (fl P).take k ++ (fl P).drop k := (List.take_append_drop _ _).symm
  have e2 : flb (fl P) = flb ((fl P).take k) ++ flb ((fl P).drop k) := by
    unfold flb
    rw [← List.flatMap_append, List.take_append_drop]
  rw [e2, List.length_append] at h
  omega
end Go.Proofs.YtpombmpkccnefaaDoor

/- The program's functions on bits: List, Nth, Rank, Spread, Gather. -/
namespace Go.Proofs.YtpombmpkccnefaaDoor
open Go.RowKit Bs

set_option maxRecDepth 100000 in
theorem Tb.grown {w w' : World} {r : Option Nat} (h : Tb w) (g : w.grownBy w' r) (hr : r ≠ some 0) : Tb w' := by
  intro j hj
  exact g.cell (h j hj) (fun e => hr e.symm)
set_option maxRecDepth 100000 in
theorem Tb.keep {w w' : World} (h : Tb w) (g : w.grownBy w' none) : Tb w' := h.grown g (by simp)

set_option maxRecDepth 100000 in
theorem fst_pos {c : Nat} (h : c ≠ 0) : fst c = ((Lib.ctz 64 c : Nat) : Int) := by unfold fst; rw [if_neg h]

/-- The j lowest bits. -/
def tk (b j : Nat) : List Nat := (bl b).take j
set_option maxRecDepth 100000 in
theorem tk_le (b j : Nat) : (tk b j).length ≤ 64 := by unfold tk; rw [List.length_take]; have := bl_length_le b; omega
def ListRel (b : Nat) (w : World) (v : Value) (c j : Nat) (wr : World) : Prop :=
  Strip b c j ∧ wr.ownsRow w.heap.size 3 1 v (tk b j).length ((tk b j).map ival) ∧ w.grownBy wr none
set_option maxRecDepth 100000 in
theorem list_hit {b c j : Nat} {w wr w1 : World} {v v' : Value} {o : Obj} (h : ListRel b w v c j wr) (h0 : c ≠ 0)
    (hown' : w1.ownsRow w.heap.size 3 1 v' ((tk b j).length + 1) ((tk b j).map ival ++ [.int .i64 (fst c)])) (hg : (wr.alloc o).grownBy w1 v.ownBlock) : ListRel b w v' (wo c) (j + 1) w1 := by
  obtain ⟨h1, h2⟩ := h.1.step h0
  refine ⟨h1, ?_, own_step h.2.2 h.2.1 hg⟩
  unfold tk at hown' ⊢
  rw [take_next h2, List.length_append, List.map_append]
  rw [fst_pos h0] at hown'
  exact hown'
set_option maxRecDepth 100000 in
set_option maxHeartbeats 400000 in
theorem firstp_pos (c : Nat) (hc : U64 c) (h0 : c ≠ 0) (w : World) (hT : Tb w) :
    Calls Tryd.prog 96 #[.int .u64 (c : Int)] w fun e w' => e = .returned (.int .i64 ((Lib.ctz 64 c : Nat) : Int)) ∧ w = w' := by
  have := firstp_any c hc w hT
  rwa [fst_pos h0] at this

set_option maxRecDepth 100000 in
theorem lo_word (k : Nat) (hk : k ≤ 63) : IntKind.u64.wrap (IntKind.u64.wrap (2 ^ k) - 1) = ((lo k : Nat) : Int) := by
  rw [pow_word k (by omega)]
  have h := (b2_u64 (k := k) (by omega)).lt
  have h0 : 0 < 2 ^ k := Nat.pow_pos (by decide)
  unfold b2 at h ⊢
  unfold lo
  rw [IntKind.wrap_u64]; omega
end Go.Proofs.YtpombmpkccnefaaDoor

/- packet: a header's block. -/
namespace Go.Proofs.YtpombmpkccnefaaDoor
open Go.RowKit Bs
/-- While the header is written. -/
structure WH (W : World) (P : Pk) (h g S : Nat) (B : List Bool) (w : World) : Prop where
  fb : w.heap[g]? = some (.cells (fcells h) 116 (0, 0))
  hb : w.heap[h]? = some (.cells (hcells P) 85 (0, 0))
  st : ∃ p c, w.heap[S]? = some (.cells #[.slice p (pk B).length c, .int .i64 (B.length : Int)] 75 (0, 0)) ∧ Rd w (S < ·) (.slice p (pk B).length c) ((pk B).map nv) ∧ (p = none → c = 0)
  rb : w.heap[W.heap.size + 1]? = some (.cells #[.slice none 0 0, .int .i64 0] 75 (0, 0))
  gr : W.grownBy w none
set_option maxRecDepth 100000 in
theorem World.lt_of_row' {w : World} {b : Nat} {o : Obj} (h : w.heap[b]? = some o) : b < w.heap.size := (Array.getElem?_eq_some_iff.1 h).1
def pcells (P : Pk) : Array Value := #[.int .i64 P.mode, .int .i64 P.sub, .int .i64 P.set, .int .i64 P.len, .int .i64 P.ttl, .int .i64 P.ent, .int .i64 P.ing, .int .i64 P.pro, .int .u64 (P.bits : Int), .string P.pay]
set_option maxRecDepth 100000 in
theorem p_facts {w : World} {b : Nat} {P : Pk} (h : w.heap[b]? = some (.cells (pcells P) 31 (0, 0))) :
    w.cell? ⟨b, 0, none⟩ = some (.int .i64 P.mode) ∧ w.cell? ⟨b, 1, none⟩ = some (.int .i64 P.sub) ∧ w.cell? ⟨b, 2, none⟩ = some (.int .i64 P.set) ∧ w.cell? ⟨b, 3, none⟩ = some (.int .i64 P.len) ∧ w.cell? ⟨b, 4, none⟩ = some (.int .i64 P.ttl) ∧ w.cell? ⟨b, 5, none⟩ = some (.int .i64 P.ent) ∧ w.cell? ⟨b, 6, none⟩ = some (.int .i64 P.ing) ∧ w.cell? ⟨b, 7, none⟩ = some (.int .i64 P.pro) ∧ w.cell? ⟨b, 8, none⟩ = some (.int .u64 (P.bits : Int)) ∧ w.cell? ⟨b, 9, none⟩ = some (.string P.pay) :=
  ⟨cell_of_row _ _ _ _ _ _ h, cell_of_row _ _ _ _ _ _ h, cell_of_row _ _ _ _ _ _ h, cell_of_row _ _ _ _ _ _ h, cell_of_row _ _ _ _ _ _ h, cell_of_row _ _ _ _ _ _ h, cell_of_row _ _ _ _ _ _ h, cell_of_row _ _ _ _ _ _ h, cell_of_row _ _ _ _ _ _ h, cell_of_row _ _ _ _ _ _ h⟩
def zcells : Array Value := #[.int .i64 0, .int .i64 0, .int .i64 0, .int .i64 0, .int .i64 0, .int .i64 0, .int .i64 0, .int .i64 0, .int .i64 0, .int .u64 0, .string ⟨#[]⟩, .int .i64 0, .int .i64 0]
set_option maxRecDepth 100000 in
theorem h_facts {w : World} {h : Nat} (hr : w.heap[h]? = some (.cells zcells 85 (0, 0))) :
    w.frozen? ⟨h, 0, none⟩ = false ∧ w.frozen? ⟨h, 1, none⟩ = false ∧ w.frozen? ⟨h, 2, none⟩ = false ∧ w.frozen? ⟨h, 3, none⟩ = false ∧ w.frozen? ⟨h, 4, none⟩ = false ∧ w.frozen? ⟨h, 5, none⟩ = false ∧ w.frozen? ⟨h, 6, none⟩ = false ∧ w.frozen? ⟨h, 7, none⟩ = false ∧ w.frozen? ⟨h, 8, none⟩ = false ∧ w.frozen? ⟨h, 9, none⟩ = false ∧ w.frozen? ⟨h, 10, none⟩ = false ∧ w.frozen? ⟨h, 11, none⟩ = false ∧ w.frozen? ⟨h, 12, none⟩ = false :=
  ⟨frozen_of_row _ _ 0 _ _ hr, frozen_of_row _ _ 1 _ _ hr, frozen_of_row _ _ 2 _ _ hr, frozen_of_row _ _ 3 _ _ hr, frozen_of_row _ _ 4 _ _ hr, frozen_of_row _ _ 5 _ _ hr, frozen_of_row _ _ 6 _ _ hr, frozen_of_row _ _ 7 _ _ hr, frozen_of_row _ _ 8 _ _ hr, frozen_of_row _ _ 9 _ _ hr, frozen_of_row _ _ 10 _ _ hr, frozen_of_row _ _ 11 _ _ hr, frozen_of_row _ _ 12 _ _ hr⟩
/-- A stream of these bits is returned. -/
def BP (B : List Bool) (w : World) (e : Ending) (w' : World) : Prop := ∃ p c, e = .returned (.agg #[.slice p (pk B).length c, .int .i64 (B.length : Int)]) ∧ Rd w' (w.heap.size ≤ ·) (.slice p (pk B).length c) ((pk B).map nv) ∧ (p = none → c = 0) ∧ w.grownBy w' none
section
variable {W w w1 : World} {P : Pk} {h g S : Nat} {B B2 : List Bool}
set_option maxRecDepth 100000 in
theorem WH.keep (H : WH W P h g S B w) (k : w.grownBy w1 none) : WH W P h g S B w1 := by
  obtain ⟨p, c, h1, h2, h3⟩ := H.st
  exact ⟨kept_row H.fb k (by simp), kept_row H.hb k (by simp), ⟨p, c, kept_row h1 k (by simp), h2.keep k, h3⟩, kept_row H.rb k (by simp), grown_trans H.gr k⟩
set_option maxRecDepth 100000 in
theorem WH.turn (H : WH W P h g S B w) (hN : S ≠ h ∧ S ≠ g ∧ W.heap.size + 2 ≤ S) {p2 : Option Addr} {c2 : Nat} (hR : Rd w (S < ·) (.slice p2 (pk B2).length c2) ((pk B2).map nv)) (hp : p2 = none → c2 = 0) :
    WH W P h g S B2 ((w.setCell ⟨S, 0, none⟩ (.slice p2 (pk B2).length c2)).setCell ⟨S, 1, none⟩ (.int .i64 (B2.length : Int))) := by
  have k := grown_store2 w S (.slice p2 (pk B2).length c2) (.int .i64 (B2.length : Int))
  obtain ⟨p, c, h1, _, _⟩ := H.st
  exact ⟨kept_row H.fb k (fun e => hN.2.1 (Option.some.inj e).symm), kept_row H.hb k (fun e => hN.1 (Option.some.inj e).symm), ⟨p2, c2, store2 h1, hR.grown k (fun b hb e => by have := Option.some.inj e; omega), hp⟩,
    kept_row H.rb k (fun e => by have := Option.some.inj e; omega), grown_new H.gr k (by omega)⟩
set_option maxRecDepth 100000 in
theorem Rd.weaken {q q' : Nat → Prop} {v : Value} {vs : List Value} (h : Rd w q v vs) (hq : ∀ b, q b → b < w.heap.size → q' b) : Rd w q' v vs := by
  obtain ⟨p, c, hv, hc⟩ := h
  refine ⟨p, c, hv, fun hne => ?_⟩
  obtain ⟨b, off, hp, hb, hx⟩ := hc hne
  refine ⟨b, off, hp, hq b hb ?_, hx⟩
  cases vs with
  | nil => exact absurd rfl hne
  | cons y r => exact World.block_lt_of_cell? w ⟨b, off + 0, none⟩ (hx 0 y rfl)
set_option maxRecDepth 100000 in
theorem Rd.bound {w : World} {q : Nat → Prop} {v : Value} {vs : List Value} (h : Rd w q v vs) : Rd w (· < w.heap.size) v vs := by
  obtain ⟨p, c, hv, hc⟩ := h
  refine ⟨p, c, hv, fun hne => ?_⟩
  obtain ⟨b, off, hp, _, hx⟩ := hc hne
  refine ⟨b, off, hp, ?_, hx⟩
  cases vs with
  | nil => exact absurd rfl hne
  | cons y r => exact World.block_lt_of_cell? w ⟨b, off + 0, none⟩ (hx 0 y rfl)
set_option maxRecDepth 100000 in
/-- What Append gives to a list of bits. -/
theorem append_bits {p : Option Addr} {c v k : Nat} {q : Nat → Prop} (hk : k ≤ 64) (hv : v < 2 ^ k) (hl : B.length + k ≤ 8192) (hR : Rd w q (.slice p (pk B).length c) ((pk B).map nv)) :
    Calls Tryd.prog 66 #[.agg #[.slice p (pk B).length c, .int .i64 (B.length : Int)], .int .u64 (v : Int), .int .i64 (k : Int)] w fun e w' =>
      ∃ p2 c2, e = .returned (.tuple #[.agg #[.slice p2 (pk (B ++ nb v k)).length c2, .int .i64 ((B ++ nb v k).length : Int)], .int .i64 0]) ∧ Rd w' (w.heap.size ≤ ·) (.slice p2 (pk (B ++ nb v k)).length c2) ((pk (B ++ nb v k)).map nv) ∧ (p2 = none → c2 = 0) ∧ w.grownBy w' none := by
  have hvU : U64 v := Nat.lt_of_lt_of_le hv (Nat.pow_le_pow_right (n := 2) (by decide) hk)
  refine (appendp_any (pk B) (B.length : Int) v (k : Int) _ p c (pk_by B) hvU w (fun _ h => h) hR.bound).mono fun e w' hp => ?_
  rw [apV_pk B v k hk hv hl] at hp
  obtain ⟨u, he, ⟨p2, c2, rfl, h1, h2, _⟩, hg⟩ := hp
  exact ⟨p2, c2, he, h1, h2, hg⟩
end
end Go.Proofs.YtpombmpkccnefaaDoor

/- packet: Valid. -/
namespace Go.Proofs.YtpombmpkccnefaaDoor
open Go.RowKit Bs
def vrows (P : Pk) : List (Int × Int × Int) := [(P.mode, 1, 3), (P.sub, 0, 7), (P.set, 0, 31), (P.ttl, 0, 63), (P.ent, 0, 1023), (P.ing, 0, 256), (P.pro, 0, 7), ((P.pay.size : Int), 0, 64)]
def vcells (P : Pk) : Array Value := #[.int .i64 P.mode, .int .i64 1, .int .i64 3, .int .i64 P.sub, .int .i64 0, .int .i64 7, .int .i64 P.set, .int .i64 0, .int .i64 31, .int .i64 P.ttl, .int .i64 0, .int .i64 63,
  .int .i64 P.ent, .int .i64 0, .int .i64 1023, .int .i64 P.ing, .int .i64 0, .int .i64 256, .int .i64 P.pro, .int .i64 0, .int .i64 7, .int .i64 (P.pay.size : Int), .int .i64 0, .int .i64 64]
set_option maxRecDepth 100000 in
theorem vrow_at (P : Pk) (k : Nat) (hk : k < 8) : ∃ x lo hi : Int, (vcells P)[k * 3]? = some (.int .i64 x) ∧ (vcells P)[k * 3 + 1]? = some (.int .i64 lo) ∧ (vcells P)[k * 3 + 2]? = some (.int .i64 hi) ∧ (vrows P)[k]? = some (x, lo, hi) := by
  rcases (show k = 0 ∨ k = 1 ∨ k = 2 ∨ k = 3 ∨ k = 4 ∨ k = 5 ∨ k = 6 ∨ k = 7 by omega) with rfl | rfl | rfl | rfl | rfl | rfl | rfl | rfl <;> exact ⟨_, _, _, rfl, rfl, rfl, rfl⟩
/-- The first k rows are kept. -/
def Kept (P : Pk) (k : Nat) : Prop := ∀ j x lo hi, j < k → (vrows P)[j]? = some (x, lo, hi) → lo ≤ x ∧ x ≤ hi
set_option maxRecDepth 100000 in
theorem vpk_kept {P : Pk} (h : Kept P 8) : vpk P = vb P.bits P.len := by
  have h0 := h 0 _ _ _ (by decide) rfl
  have h1 := h 1 _ _ _ (by decide) rfl
  have h2 := h 2 _ _ _ (by decide) rfl
  have h3 := h 3 _ _ _ (by decide) rfl
  have h4 := h 4 _ _ _ (by decide) rfl
  have h5 := h 5 _ _ _ (by decide) rfl
  have h6 := h 6 _ _ _ (by decide) rfl
  have h7 := h 7 _ _ _ (by decide) rfl
  unfold vpk
  by_cases hb : vb P.bits P.len = true
  · rw [hb]; exact decide_eq_true ⟨h0, h1, h2, h3, h4, h5, h6, by omega, rfl⟩
  · rw [Bool.not_eq_true] at hb
    rw [hb]; exact decide_eq_false fun h => by cases h.2.2.2.2.2.2.2.2
set_option maxRecDepth 100000 in
theorem vpk_row {P : Pk} (h : vpk P = true) {k : Nat} {x lo hi : Int} (hk : k < 8) (hr : (vrows P)[k]? = some (x, lo, hi)) : lo ≤ x ∧ x ≤ hi := by
  obtain ⟨h0, h1, h2, h3, h4, h5, h6, h7, _⟩ := vpk_parts h
  rcases (show k = 0 ∨ k = 1 ∨ k = 2 ∨ k = 3 ∨ k = 4 ∨ k = 5 ∨ k = 6 ∨ k = 7 by omega) with rfl | rfl | rfl | rfl | rfl | rfl | rfl | rfl <;> cases hr
  · exact h0
  · exact h1
  · exact h2
  · exact h3
  · exact h4
  · exact h5
  · exact h6
  · exact ⟨by omega, by omega⟩
set_option maxRecDepth 100000 in
theorem vpk_not {P : Pk} {k : Nat} {x lo hi : Int} (hk : k < 8) (hr : (vrows P)[k]? = some (x, lo, hi)) (hn : ¬ (lo ≤ x ∧ x ≤ hi)) : vpk P = false := by
  cases h : vpk P with
  | false => rfl
  | true => exact absurd (vpk_row h hk hr) hn
set_option maxRecDepth 100000 in
set_option maxHeartbeats 3200000 in
theorem pvalid_any (P : Pk) (hP : P.Wf) (w : World) :
    Calls Tryd.prog 64 #[P.val] w fun e w' => e = .returned (.bool (vpk P)) ∧ w.grownBy w' none := by
  unfold Pk.val
  go_enter Tryd.func64, Tryd.ntmps64
  go_wp2_with fail
  obtain ⟨k1, k2, k3, k4⟩ := two_boxes w (pcells P) (vcells P) 31 118
  have HA := Lib.hid (And.intro k1 (And.intro k2 k3))
  clear k1 k2 k3 k4
  unfold pcells vcells at HA
  generalize ((w.alloc (.cells #[.int .i64 P.mode, .int .i64 P.sub, .int .i64 P.set, .int .i64 P.len, .int .i64 P.ttl, .int .i64 P.ent, .int .i64 P.ing, .int .i64 P.pro, .int .u64 (P.bits : Int), .string P.pay] 31)).alloc _) = wa at *
  change Hid (wa.heap[w.heap.size]? = some (.cells (pcells P) 31 (0, 0)) ∧ wa.heap[w.heap.size + 1]? = some (.cells (vcells P) 118 (0, 0)) ∧ w.grownBy wa none) at HA
  have hK0 : Hid (Kept P 0) := Lib.hid fun j x lo hi hj => absurd hj (Nat.not_lt_zero j)
  go_loopw [32] (fun i wr => ∃ k : Nat, k ≤ 8 ∧ i = .int .i64 (k : Int) ∧ Hid (Kept P k) ∧ Hid (wa.grownBy wr none)) (fun i _ => (8 - (intOf i).toNat))
  case atStart => exact ⟨0, Nat.zero_le _, rfl, hK0, Lib.hid (grown_refl _ _)⟩
  case round =>
    obtain ⟨k, hk, rfl, hK, hG⟩ := hrel
    clear hK0
    have GE := Lib.hid (grown_trans HA.out.2.2 hG.out)
    by_cases hk2 : k < 8
    · obtain ⟨x, lo, hi, c0, c1, c2, hr⟩ := vrow_at P k hk2
      have hrow := kept_row HA.out.2.1 hG.out (by simp)
      have d0 := (cell_of_row _ _ _ _ _ _ hrow).trans c0
      have d1 := (cell_of_row _ _ _ _ _ _ hrow).trans c1
      have d2 := (cell_of_row _ _ _ _ _ _ hrow).trans c2
      have HR := Lib.hid hr
      clear c0 c1 c2 hr hrow
      by_cases h1 : x < lo
      · have hn := Lib.hid (vpk_not hk2 HR.out (by omega))
        go_wp2_with fail
        go_ret
        exact ⟨by rw [hn.out]; rfl, grown_trans GE.out (World.grownBy_alloc _ _ none)⟩
      · by_cases h2 : hi < x
        · have hn := Lib.hid (vpk_not hk2 HR.out (by omega))
          go_wp2_with fail
          go_ret
          exact ⟨by rw [hn.out]; rfl, grown_trans GE.out (World.grownBy_alloc _ _ none)⟩
        · go_wp2_with fail
          go_roundw
          case rel =>
            refine ⟨k + 1, by omega, by go_num, Lib.hid fun j y lo' hi' hj hr => ?_, Lib.hid (grown_trans hG.out (World.grownBy_alloc _ _ none))⟩
            by_cases hjk : j < k
            · exact hK.out j y lo' hi' hjk hr
            · obtain rfl : j = k := by omega
              rw [HR.out] at hr
              cases hr
              exact ⟨by omega, by omega⟩
          case measure => simp [intOf]; omega
    · obtain rfl : k = 8 := by omega
      obtain ⟨a0, a1, a2, a3, a4, a5, a6, a7, a8, a9⟩ := p_facts (kept_row HA.out.1 hG.out (by simp))
      have hv := Lib.hid (vpk_kept hK.out)
      go_wp2_with fail
      refine (bvalidp_any P.bits P.len hP.bits _).mono ?_
      rintro e w9 ⟨rfl, rfl⟩
      go_wp2_with fail
      go_ret
      exact ⟨by rw [hv.out]; rfl, GE.out⟩
end Go.Proofs.YtpombmpkccnefaaDoor

/- packet: the header of a packet is written. -/
namespace Go.Proofs.YtpombmpkccnefaaDoor
open Go.RowKit Bs
set_option maxRecDepth 100000 in
set_option maxHeartbeats 600000 in
theorem writeHeader_any (P : Pk) (hv : vpk P = true) (w : World) (hT : Tb w) :
    Calls Tryd.prog 65 #[P.val] w fun e w' => BP (flb (fl P)) w e w' := by
  unfold Pk.val
  go_enter Tryd.func65, Tryd.ntmps65
  go_wp2_with fail
  obtain ⟨k1, k2, k3, k4⟩ := two_boxes w (pcells P) #[.slice none 0 0, .int .i64 0] 31 75
  have RP := Lib.hid k1
  have RS := Lib.hid k2
  have G := Lib.hid k3
  have SZ := Lib.hid k4
  have HTB := Lib.hid (hT.keep k3)
  clear k1 k2 k3 k4
  unfold pcells at RP RS G SZ HTB
  generalize ((w.alloc (.cells #[.int .i64 P.mode, .int .i64 P.sub, .int .i64 P.set, .int .i64 P.len, .int .i64 P.ttl, .int .i64 P.ent, .int .i64 P.ing, .int .i64 P.pro, .int .u64 (P.bits : Int), .string P.pay] 31)).alloc (.cells #[.slice none 0 0, .int .i64 0] 75)) = w2 at *
  change Hid (w2.heap[w.heap.size]? = some (.cells (pcells P) 31 (0, 0))) at RP
  obtain ⟨a0, a1, a2, a3, a4, a5, a6, a7, a8, a9⟩ := p_facts RP.out
  have RPZ := Lib.hid (kept_row RP.out (World.grownBy_alloc w2 (.cells zcells 85) none) (by simp))
  have RHZ := Lib.hid (heap_alloc_new w2 (.cells zcells 85))
  have RPd : Hid (w2.drew.heap[w.heap.size]? = some (.cells (pcells P) 31 (0, 0))) := Lib.hid RP.out
  have RPZd : Hid ((w2.alloc (.cells zcells 85)).drew.heap[w.heap.size]? = some (.cells (pcells P) 31 (0, 0))) := Lib.hid RPZ.out
  have SZ2 : Hid (w.heap.size ≠ w2.heap.size) := Lib.hid (by rw [SZ.out]; omega)
  have RPH : Hid ((w2.alloc (.cells (hcells P) 85)).drew.heap[w.heap.size]? = some (.cells (pcells P) 31 (0, 0))) := Lib.hid (kept_row RP.out (grown_drew (World.grownBy_alloc w2 (.cells (hcells P) 85) none)) (by simp))
  have RH : Hid ((w2.alloc (.cells (hcells P) 85)).drew.heap[w2.heap.size]? = some (.cells (hcells P) 85 (0, 0))) := Lib.hid (heap_alloc_new w2 (.cells (hcells P) 85))
  have GH : Hid (w.grownBy (w2.alloc (.cells (hcells P) 85)).drew none) := Lib.hid (grown_trans G.out (grown_drew (World.grownBy_alloc w2 (.cells (hcells P) 85) none)))
  have RS3 : Hid ((w2.alloc (.cells (hcells P) 85)).drew.heap[w.heap.size + 1]? = some (.cells #[.slice none 0 0, .int .i64 0] 75 (0, 0))) := Lib.hid (kept_row RS.out (grown_drew (World.grownBy_alloc w2 (.cells (hcells P) 85) none)) (by simp))
  obtain ⟨w3, hw3⟩ : ∃ w3, w3 = (w2.alloc (.cells (hcells P) 85)).drew := ⟨_, rfl⟩
  rw [← hw3] at RH GH RS3
  unfold hcells at RPH hw3
  unfold zcells at RPZ RPZd
  obtain ⟨f0, f1, f2, f3, f4, f5, f6, f7, f8, f9, f10, f11, f12⟩ := h_facts RHZ.out
  unfold zcells at f0 f1 f2 f3 f4 f5 f6 f7 f8 f9 f10 f11 f12
  have hvl := vb_vl (vpk_parts hv).2.2.2.2.2.2.2.2
  have HL : Hid (IntKind.u64.wrap (IntKind.i64.wrap (P.len.tdiv 8)) = ((P.len.toNat / 8 : Nat) : Int)) := Lib.hid (by rcases vl_cases hvl with h | h | h | h <;> rw [h] <;> decide)
  have HF := Lib.hid (fst_code hvl)
  have HU : Hid (U64 (P.len.toNat / 8)) := Lib.hid (by rcases vl_cases hvl with h | h | h | h <;> rw [h] <;> (unfold U64; decide))
  clear hvl
  go_cut [3] from 7 to 16 (fun hh wx => hh = .pointer (some ⟨w2.heap.size, 0, none⟩) ∧ wx = w3)
  case first =>
    go_region_held3 (fun w' => w'.cell? ⟨w.heap.size, 0, none⟩ = some (.int .i64 P.mode) ∧ w'.cell? ⟨w.heap.size, 1, none⟩ = some (.int .i64 P.sub) ∧ w'.cell? ⟨w.heap.size, 2, none⟩ = some (.int .i64 P.set) ∧ w'.cell? ⟨w.heap.size, 3, none⟩ = some (.int .i64 P.len) ∧ w'.cell? ⟨w.heap.size, 4, none⟩ = some (.int .i64 P.ttl) ∧ w'.cell? ⟨w.heap.size, 5, none⟩ = some (.int .i64 P.ent) ∧ w'.cell? ⟨w.heap.size, 6, none⟩ = some (.int .i64 P.ing) ∧ w'.cell? ⟨w.heap.size, 7, none⟩ = some (.int .i64 P.pro) ∧ w'.cell? ⟨w.heap.size, 8, none⟩ = some (.int .u64 (P.bits : Int)) ∧ w'.cell? ⟨w.heap.size, 9, none⟩ = some (.string P.pay))
      (first | (with_reducible exact p_facts RP.out) | (with_reducible exact p_facts RPd.out) | (with_reducible exact p_facts RPZ.out) | (with_reducible exact p_facts RPZd.out) | (with_reducible exact p_facts RPH.out))
      ((go_at_call 96; go_split_ands; simp only [HL.out]; refine (firstp_any _ HU.out _ (HTB.out.keep ?_)).mono ?_; (focus (repeat (first | (with_reducible exact grown_refl _ _) | apply grown_drew | (with_reducible exact World.grownBy_alloc _ _ _)))); rintro e w' ⟨rfl, rfl⟩; rw [HF.out]))
    all_goals
      rw [← hw3]
      go_wp2_with fail
      go_meet
      exact ⟨rfl, rfl⟩
  case rest =>
    obtain ⟨rfl, rfl⟩ := hcut
    clear a0 a1 a2 a3 a4 a5 a6 a7 a8 a9 f0 f1 f2 f3 f4 f5 f6 f7 f8 f9 f10 f11 f12 RPH RPZ RPZd RPd RP RS HL HF HU hw3 HTB RHZ
    go_wp2_with fail
    refine (fields_any w2.heap.size _).mono ?_
    rintro e w5 ⟨g, rfl, hfb, hge, hg5⟩
    obtain ⟨q1, q2⟩ := one_box wc #[.slice none 0 0, .int .i64 0] 75
    have hSw : w2.heap.size < wc.heap.size := World.lt_of_row' RH.out
    have hge2 : wc.heap.size < g := by have : (wc.alloc (.cells #[.slice none 0 0, .int .i64 0] 75)).heap.size = wc.heap.size + 1 := by simp
                                       omega
    have hW : Hid (WH w P w2.heap.size g wc.heap.size (flb ((fl P).take 0)) w5) := by
      rw [show flb ((fl P).take 0) = [] from rfl]
      refine Lib.hid ⟨hfb, kept_row RH.out (grown_trans q2 hg5) (by simp), ⟨none, 0, ?_, ?_, fun _ => rfl⟩, kept_row RS3.out (grown_trans q2 hg5) (by simp), grown_trans GH.out (grown_trans q2 hg5)⟩
      · rw [show pk [] = [] from rfl]; exact kept_row q1 hg5 (by simp)
      · rw [show pk [] = [] from rfl]; exact Rd.nil_ _ _ _ _
    have HN : Hid (wc.heap.size ≠ w2.heap.size ∧ wc.heap.size ≠ g ∧ w.heap.size + 2 ≤ wc.heap.size) := Lib.hid ⟨by omega, by omega, by rw [SZ.out] at hSw; omega⟩
    clear RS3 GH RH q1 q2 hfb hge hg5 hSw hge2 SZ SZ2 G
    go_wp2_with fail
    go_loopw [19] (fun i wr => ∃ k : Nat, k ≤ 10 ∧ i = .int .i64 (k : Int) ∧ Hid (WH w P w2.heap.size g wc.heap.size (flb ((fl P).take k)) wr)) (fun i _ => (10 - (intOf i).toNat))
    case atStart => exact ⟨0, Nat.zero_le _, rfl, hW⟩
    case round =>
      obtain ⟨k, hk, rfl, hR⟩ := hrel
      clear hW
      by_cases hk2 : k < 10
      · obtain ⟨o, wd, x, hc0, hc1, hc2, hx, hwd, hfl⟩ := field_at hv w2.heap.size k hk2
        have d0 := (cell_of_row _ _ _ _ _ _ hR.out.fb).trans hc0
        have d1 := (cell_of_row _ _ _ _ _ _ hR.out.fb).trans hc1
        have d2 := (cell_of_row _ _ _ _ _ _ hR.out.hb).trans hc2
        have hle := flb_take_le P k
        have hsn := flb_snoc hfl
        generalize flb ((fl P).take k) = B at *
        obtain ⟨B2, hB2⟩ : ∃ B2, B2 = flb ((fl P).take (k + 1)) := ⟨_, rfl⟩
        rw [← hB2] at hsn
        have HB2 := Lib.hid hB2
        clear hB2
        have HSN := Lib.hid hsn
        have HR := hR
        clear hfl hc0 hc1 hc2 hsn hR
        go_wp2_with fail
        have HRf := Lib.hid (HR.out.keep (World.grownBy_alloc wr (.cells #[.pointer (some ⟨w2.heap.size, o, none⟩), .int .i64 (wd : Int)] 116) none))
        have RF := Lib.hid (heap_alloc_new wr (.cells #[.pointer (some ⟨w2.heap.size, o, none⟩), .int .i64 (wd : Int)] 116))
        have d2 := (World.grownBy_alloc wr (.cells #[.pointer (some ⟨w2.heap.size, o, none⟩), .int .i64 (wd : Int)] 116) none).cell d2 (by simp)
        clear d0 d1 HR
        generalize wr.alloc (.cells #[.pointer (some ⟨w2.heap.size, o, none⟩), .int .i64 (wd : Int)] 116) = wf at *
        obtain ⟨p, c, hs, hRd, hpc⟩ := HRf.out.st
        obtain ⟨s0, s1⟩ := row_cells hs
        have x0 : wf.cell? ⟨wr.heap.size, 0, none⟩ = some (.pointer (some ⟨w2.heap.size, o, none⟩)) := cell_of_row _ _ _ _ _ _ RF.out
        have x1 : wf.cell? ⟨wr.heap.size, 1, none⟩ = some (.int .i64 (wd : Int)) := cell_of_row _ _ _ _ _ _ RF.out
        have HX : Hid (IntKind.u64.wrap (x : Int) = (x : Int)) := Lib.hid (by have : x < 2 ^ 10 := Nat.lt_of_lt_of_le hx (Nat.pow_le_pow_right (by decide) hwd); rw [IntKind.wrap_u64]; omega)
        have HA := Lib.hid fun (w' : World) (hg : wf.grownBy w' none) => append_bits (B := B) (v := x) (k := wd) (Nat.le_trans hwd (by decide)) hx (by omega) (hRd.keep hg)
        rw [← HSN.out] at HA
        clear hs hRd hpc RF
        go_region_law (first
          | (go_simp; go_at_call 66; (try simp only [HX.out]); refine (HA.out _ (grown_drew (grown_refl _ _))).mono ?_; rintro e w7 ⟨p2, c2, rfl, hR2, hp2, hg7⟩; have H7 := Lib.hid ((HRf.out.keep (grown_drew (grown_refl _ none))).keep hg7); have R7 := Lib.hid (And.intro hR2 hp2); obtain ⟨p7, c7, hs7, _, _⟩ := H7.out.st; obtain ⟨t0, t1⟩ := row_cells hs7; have z0 := frozen_of_row _ _ 0 _ _ hs7; have z1 := frozen_of_row _ _ 1 _ _ hs7; clear hR2 hp2 hg7 hs7))
        all_goals
          have HK : Hid (WH w P w2.heap.size g wc.heap.size B2 ((w7.setCell ⟨wc.heap.size, 0, none⟩ (.slice p2 (pk B2).length c2)).setCell ⟨wc.heap.size, 1, none⟩ (.int .i64 (B2.length : Int)))) := Lib.hid (H7.out.turn HN.out (R7.out.1.weaken fun b hb _ => Nat.lt_of_lt_of_le (World.lt_of_row' HRf.out.st.choose_spec.choose_spec.1) hb) R7.out.2)
          clear t0 t1 z0 z1 s0 s1 x0 x1 HA d2 H7 R7
          generalize (w7.setCell ⟨wc.heap.size, 0, none⟩ (.slice p2 (pk B2).length c2)).setCell ⟨wc.heap.size, 1, none⟩ (.int .i64 (B2.length : Int)) = w8 at *
          go_wp2_with fail
          go_roundw
          case rel => exact ⟨k + 1, by omega, by go_num, by rw [← HB2.out]; exact HK⟩
          case measure => simp [intOf]; omega
      · obtain rfl : k = 10 := by omega
        rw [show (fl P).take 10 = fl P from rfl] at hR
        obtain ⟨p, c, hs, hRd, hpc⟩ := hR.out.st
        obtain ⟨s0, s1⟩ := row_cells hs
        obtain ⟨r0, r1⟩ := row_cells hR.out.rb
        have z0 := frozen_of_row _ _ 0 _ _ hR.out.rb
        have z1 := frozen_of_row _ _ 1 _ _ hR.out.rb
        have HQ := Lib.hid (And.intro hRd hpc)
        clear hs hRd hpc
        go_wp2_with fail
        have hS := HN.out.2.2
        have k2 := grown_store2 wr (w.heap.size + 1) (.slice p (pk (flb (fl P))).length c) (.int .i64 ((flb (fl P)).length : Int))
        refine bodyPost_ret (res_stream rfl _ _ (w.heap.size + 1) _ _ rfl (store2 hR.out.rb)) rfl ?_
        exact ⟨p, c, rfl, (HQ.out.1.weaken (q' := fun b => w.heap.size + 2 ≤ b) fun b hb _ => by omega).grown k2 (fun b hb e => by have := Option.some.inj e; omega) |>.weaken fun b hb _ => by omega, HQ.out.2, grown_new hR.out.gr k2 (by omega)⟩
end Go.Proofs.YtpombmpkccnefaaDoor

/- packet: the calls of bitio over lists of bits. -/
namespace Go.Proofs.YtpombmpkccnefaaDoor
open Go.RowKit Bs
section
variable {w : World} {B : List Bool} {p : Option Addr} {c : Nat} {q : Nat → Prop}
/-- A stream of these bits and no error are returned. -/
def BT (B : List Bool) (w : World) (e : Ending) (w' : World) : Prop :=
  ∃ p2 c2, e = .returned (.tuple #[.agg #[.slice p2 (pk B).length c2, .int .i64 (B.length : Int)], .int .i64 0]) ∧ Rd w' (w.heap.size ≤ ·) (.slice p2 (pk B).length c2) ((pk B).map nv) ∧ (p2 = none → c2 = 0) ∧ w.grownBy w' none
set_option maxRecDepth 100000 in
theorem join_bits {l : List Nat} {p' : Option Addr} {c' : Nat} {q' : Nat → Prop} (hl : By l) (h : B.length + 8 * l.length ≤ 8192) (hR : Rd w q (.slice p (pk B).length c) ((pk B).map nv)) (hR' : Rd w q' (.slice p' l.length c') (l.map nv)) :
    Calls Tryd.prog 67 #[.agg #[.slice p (pk B).length c, .int .i64 (B.length : Int)], .agg #[.slice p' l.length c', .int .i64 ((8 * l.length : Nat) : Int)]] w fun e w' => BT (B ++ pb l) w e w' := by
  refine (joinp_any (pk B) l (B.length : Int) ((8 * l.length : Nat) : Int) _ p p' c c' (pk_by B) hl w (fun _ h => h) hR.bound hR'.bound).mono fun e w' hp => ?_
  have e1 := jnV_pk B (pb l) (by rw [pb_len]; exact h)
  rw [pk_pb l hl, pb_len] at e1
  rw [e1] at hp
  obtain ⟨u, he, ⟨p2, c2, rfl, h1, h2, _⟩, hg⟩ := hp
  exact ⟨p2, c2, he, h1, h2, hg⟩
set_option maxRecDepth 100000 in
theorem chk_same {f g : Nat → Bool} : ∀ k, (∀ i, i < k → f i = g i) → chk f k = chk g k
  | 0, _ => rfl
  | k + 1, h => by
    unfold chk
    rw [chk_same k fun i hi => h i (by omega), h k (by omega)]
set_option maxRecDepth 100000 in
theorem check_bits (h : B.length ≤ 8192) (hR : Rd w q (.slice p (pk B).length c) ((pk B).map nv)) :
    Calls Tryd.prog 68 #[.agg #[.slice p (pk B).length c, .int .i64 (B.length : Int)]] w fun e w' => e = .returned (.tuple #[.int .u64 ((ck B : Nat) : Int), .int .i64 0]) ∧ w.grownBy w' none := by
  refine (checkp_any (pk B) (B.length : Int) _ p c (pk_by B) w hR.bound).mono fun e w' hp => ?_
  obtain ⟨he, hg⟩ := hp
  rw [chkV_ok (pk_vs B h)] at he
  rw [show ck B = chk (bt (pk B)) B.length from (chk_same _ fun i hi => bt_pk B i (by omega)).symm]
  exact ⟨he, hg⟩
set_option maxRecDepth 100000 in
theorem align_bits (h : B.length ≤ 8192) (hR : Rd w q (.slice p (pk B).length c) ((pk B).map nv)) :
    Calls Tryd.prog 69 #[.agg #[.slice p (pk B).length c, .int .i64 (B.length : Int)]] w fun e w' =>
      ∃ p2 c2, e = .returned (.tuple #[.agg #[.slice p2 (pk B).length c2, .int .i64 ((8 * (pk B).length : Nat) : Int)], .int .i64 0]) ∧ Rd w' (w.heap.size ≤ ·) (.slice p2 (pk B).length c2) ((pk B).map nv) ∧ (p2 = none → c2 = 0) ∧ w.grownBy w' none := by
  refine (alignp_any (pk B) (B.length : Int) _ p c (pk_by B) w hR.bound).mono fun e w' hp => ?_
  rw [alV_pk B h] at hp
  obtain ⟨u, he, ⟨p2, c2, rfl, h1, h2, _⟩, hg⟩ := hp
  exact ⟨p2, c2, he, h1, h2, hg⟩
set_option maxRecDepth 100000 in
theorem bw_grown (w : World) (e : TypeId) (s : ByteArray) : w.grownBy (Lib.bytesWorld w e s) none :=
  ⟨rfl, rfl, rfl, by rw [Lib.bytesWorld_size]; omega, fun j hj _ => Lib.bytesWorld_at_old w e s j hj⟩
set_option maxRecDepth 100000 in
theorem bw_rd (w : World) (e : TypeId) (s : ByteArray) (c : Nat) : Rd (Lib.bytesWorld w e s) (· = w.heap.size) (.slice (some ⟨w.heap.size, 0, none⟩) (byl s).length c) ((byl s).map nv) := by
  refine ⟨_, c, by rw [List.length_map], fun _ => ⟨w.heap.size, 0, rfl, rfl, fun j x hj => ?_⟩⟩
  have hl : j < s.size := by
    have := (List.getElem?_eq_some_iff.1 hj).1
    rw [List.length_map, byl_len] at this; exact this
  rw [Nat.zero_add, Lib.bytesWorld_cell w e s j hl]
  unfold byl at hj
  rw [List.map_map, List.getElem?_map] at hj
  have hd : j < s.data.toList.length := by rw [Array.length_toList]; exact hl
  rw [List.getElem?_eq_getElem hd] at hj
  rw [List.getD_eq_getElem?_getD, List.getElem?_eq_getElem hd]
  exact hj
end
end Go.Proofs.YtpombmpkccnefaaDoor

/- Align of the program: the result lies in a block of its own. -/
namespace Go.Proofs.YtpombmpkccnefaaDoor
open Go.RowKit Bs
set_option maxRecDepth 100000 in
set_option maxHeartbeats 3200000 in
theorem alignp_own (l : List Nat) (n : Int) (hv : vs l n = true) (q : Nat → Prop) (p : Option Addr) (c : Nat) (hl : By l) (w : World) (hR : Rd w q (.slice p l.length c) (l.map nv)) :
    Calls Tryd.prog 69 #[.agg #[.slice p l.length c, .int .i64 n]] w fun e w' =>
      ∃ g, e = .returned (.tuple #[.agg #[.slice (some ⟨g, 0, none⟩) l.length l.length, .int .i64 ((8 * l.length : Nat) : Int)], .int .i64 0]) ∧ Blk w' g l ∧ w.heap.size ≤ g ∧ w.grownBy w' none := by
  obtain ⟨k1, k2, k3, k4⟩ := two_boxes w #[.slice p l.length c, .int .i64 n] #[.slice none 0 0, .int .i64 0] 75 75
  have H0 := Lib.hid (And.intro k1 (And.intro k2 (And.intro k3 k4)))
  have hR1 := hR.keep k3
  clear k1 k2 k3 k4 hR
  go_enter Tryd.func69, Tryd.ntmps69
  go_wp2_with fail
  generalize (w.alloc (.cells #[.slice p l.length c, .int .i64 n] 75)).alloc (.cells #[.slice none 0 0, .int .i64 0] 75) = w1 at *
  refine (validp_any l n q p c hl _ hR1).mono ?_
  rintro e w2 ⟨rfl, hg⟩
  have hrow := kept_row H0.out.1 hg (by simp)
  have hres := kept_row H0.out.2.1 hg (by simp)
  obtain ⟨c0, c1⟩ := row_cells hrow
  obtain ⟨r0, r1⟩ := row_cells hres
  have g0 := frozen_of_row _ _ 0 _ _ hres
  have g1 := frozen_of_row _ _ 1 _ _ hres
  have HG := Lib.hid (grown_trans H0.out.2.2.1 hg)
  have HRES := Lib.hid hres
  have HROW := Lib.hid hrow
  have HSZ : Hid (w.heap.size + 2 ≤ w2.heap.size) := Lib.hid (by rw [← H0.out.2.2.2]; exact hg.size)
  have hR2 := hR1.keep hg
  clear hrow hres hg hR1 H0
  obtain ⟨N, rfl⟩ := vs_nat hv
  obtain ⟨hN, hlen⟩ := vs_bits hv
  rw [hv]
  have hB := bytesFor_any N (by omega) w2
  rw [← hlen] at hB
  have H2 := Lib.hid hB
  have hl2 : l.length ≤ 1024 := by omega
  have hTi : 8 * (l.length : Int) = ((8 * l.length : Nat) : Int) := by omega
  have C := zeros_any (8 * l.length) (by omega) w2
  unfold ZerosPost at C
  rw [show (8 * l.length + 7) / 8 = l.length by omega] at C
  obtain ⟨T, hT⟩ : ∃ T : Nat, T = 8 * l.length := ⟨_, rfl⟩
  rw [← hT] at hTi C
  have H1 := Lib.hid C
  have HT := Lib.hid hT
  have hT8 : T ≤ 8192 := by omega
  clear hv hlen C hB hT
  go_wp2_with (first | (go_at_call 102; refine H2.out.mono ?_; rintro e w' ⟨rfl, rfl⟩))
  refine H1.out.mono ?_
  rintro e w3 ⟨g, rfl, hgg, hB3, hg3⟩
  have hrow := kept_row HROW.out hg3 (by simp)
  have hres := kept_row HRES.out hg3 (by simp)
  clear c0 c1 r0 r1 g0 g1
  obtain ⟨c0, c1⟩ := row_cells hrow
  have M4 := Lib.hid (made_of (W := w) (M := l.length) (T := (T : Int)) hB3 (by have := HG.out.size; omega) (grown_trans HG.out hg3))
  have HR4 := Lib.hid ((hR2.keep hg3).keep (World.grownBy_alloc w3 (.cells #[.slice (some ⟨g, 0, none⟩) l.length l.length, .int .i64 (T : Int)] 75) none))
  have n1 : ¬ w.heap.size = w3.heap.size := by have := HSZ.out; have := hg3.size; omega
  have n2 : w.heap.size ≠ w3.heap.size := n1
  have n3 : w.heap.size < w3.heap.size := by have := HSZ.out; have := hg3.size; omega
  have hgw : w.heap.size + 2 ≤ g := by have := HSZ.out; omega
  have HRES3 := Lib.hid (kept_row hres (World.grownBy_alloc w3 (.cells #[.slice (some ⟨g, 0, none⟩) l.length l.length, .int .i64 (T : Int)] 75) none) (by simp))
  clear hB3 hrow hres H1 hR2
  go_wp2_with (refine wpList_copy_into rfl _ _ rfl g l.length l.length rfl p l.length c rfl (List.replicate l.length 0) M4.out.blk (by simp) l rfl q HR4.out (Nat.le_refl _) ?_; intro w5 hB5 hg5; rw [List.drop_of_length_le (by simp), List.append_nil] at hB5; have M5 := Lib.hid (M4.out.next hg5 hB5); have HR5 := Lib.hid (kept_row HRES3.out hg5 (by intro e; have := Option.some.inj e; omega)); obtain ⟨e0, e1⟩ := row_cells M5.out.row; obtain ⟨r0, r1⟩ := row_cells HR5.out; have g0 := frozen_of_row _ _ 0 _ _ HR5.out; have g1 := frozen_of_row _ _ 1 _ _ HR5.out; clear hB5 hg5)
  refine bodyPost_ret (res_stream_err rfl _ _ (w.heap.size + 1) _ _ rfl (store2 HR5.out)) rfl ?_
  have gr := grown_store2 w5 (w.heap.size + 1) (.slice (some ⟨g, 0, none⟩) l.length l.length) (.int .i64 (T : Int))
  exact ⟨g, by rw [← HT.out]; rfl, M5.out.blk.grown gr (by intro e; have := Option.some.inj e; omega), M5.out.lo, grown_new M5.out.gr gr (by omega)⟩
end Go.Proofs.YtpombmpkccnefaaDoor

/- packet: Encode. -/
namespace Go.Proofs.YtpombmpkccnefaaDoor
open Go.RowKit Bs
set_option maxRecDepth 100000 in
theorem mask_bit {b n i : Nat} (hb : b < 2 ^ 64) (hi : n ≤ i) (hbi : b.testBit i = true) (h : b &&& ((2 ^ (64 - n) - 1) * 2 ^ n) = 0) : False := by
  have hi2 : i < 64 := by
    refine Nat.lt_of_not_le fun h64 => ?_
    rw [Nat.testBit_lt_two_pow (Nat.lt_of_lt_of_le hb (Nat.pow_le_pow_right (by decide) h64))] at hbi
    cases hbi
  have e := congrArg (fun x : Nat => x.testBit i) h
  simp only [Nat.testBit_and, hbi, Nat.zero_testBit, Bool.true_and, Nat.testBit_mul_two_pow, Nat.testBit_two_pow_sub_one] at e
  simp at e
  omega
set_option maxRecDepth 100000 in
theorem vb_lt {b : Nat} {n : Int} (h : vb b n = true) (hb : U64 b) : b < 2 ^ n.toNat := by
  refine Nat.lt_of_not_le fun hge => ?_
  obtain ⟨i, hi, hbi⟩ := Nat.exists_ge_and_testBit_of_ge_two_pow hge
  have hl := vb_vl h
  unfold vb at h
  have hm := (Bool.and_eq_true _ _ ▸ h).2
  have hm := eq_of_beq hm
  rcases vl_cases hl with rfl | rfl | rfl | rfl
  · exact mask_bit hb hi hbi (by rw [full_val.1] at hm; exact hm)
  · exact mask_bit hb hi hbi (by rw [full_val.2.1] at hm; exact hm)
  · exact mask_bit hb hi hbi (by rw [full_val.2.2.1] at hm; exact hm)
  · exact mask_bit hb hi hbi (by rw [full_val.2.2.2] at hm; exact hm)
/-- While a packet is encoded. -/
structure EN (W : World) (P : Pk) (S : Nat) (B : List Bool) (p : Option Addr) (c : Nat) (w : World) : Prop where
  pb : w.heap[W.heap.size]? = some (.cells (pcells P) 31 (0, 0))
  sb : w.heap[S]? = some (.cells #[.slice p (pk B).length c, .int .i64 (B.length : Int)] 75 (0, 0))
  rd : Rd w (fun b => b ≠ S ∧ W.heap.size ≤ b) (.slice p (pk B).length c) ((pk B).map nv)
  pc : p = none → c = 0
  lo : W.heap.size < S
  gr : W.grownBy w none
section
variable {W w w1 : World} {P : Pk} {S n : Nat} {B B2 : List Bool} {p : Option Addr} {c : Nat}
set_option maxRecDepth 100000 in
theorem EN.keep (H : EN W P S B p c w) (k : w.grownBy w1 none) : EN W P S B p c w1 :=
  ⟨kept_row H.pb k (by simp), kept_row H.sb k (by simp), H.rd.keep k, H.pc, H.lo, grown_trans H.gr k⟩
set_option maxRecDepth 100000 in
theorem EN.lt (H : EN W P S B p c w) : S < w.heap.size := World.lt_of_row' H.sb
set_option maxRecDepth 100000 in
theorem EN.turn (H : EN W P S B p c w) {p2 : Option Addr} {c2 : Nat} (hn : S < n) (hR : Rd w (n ≤ ·) (.slice p2 (pk B2).length c2) ((pk B2).map nv)) (hp : p2 = none → c2 = 0) :
    EN W P S B2 p2 c2 ((w.setCell ⟨S, 0, none⟩ (.slice p2 (pk B2).length c2)).setCell ⟨S, 1, none⟩ (.int .i64 (B2.length : Int))) := by
  have k := grown_store2 w S (.slice p2 (pk B2).length c2) (.int .i64 (B2.length : Int))
  have hlo := H.lo
  exact ⟨kept_row H.pb k (fun e => by have := Option.some.inj e; omega), store2 H.sb, (hR.weaken (q' := fun b => b ≠ S ∧ W.heap.size ≤ b) fun b hb _ => ⟨by omega, by omega⟩).grown k (fun b hb e => hb.1 (Option.some.inj e)), hp, hlo, grown_new H.gr k (by omega)⟩
set_option maxRecDepth 100000 in
theorem EN.facts (H : EN W P S B p c w) : (w.cell? ⟨W.heap.size, 3, none⟩ = some (.int .i64 P.len) ∧ w.cell? ⟨W.heap.size, 8, none⟩ = some (.int .u64 (P.bits : Int)) ∧ w.cell? ⟨W.heap.size, 9, none⟩ = some (.string P.pay)) ∧ w.cell? ⟨S, 0, none⟩ = some (.slice p (pk B).length c) ∧ w.cell? ⟨S, 1, none⟩ = some (.int .i64 (B.length : Int)) ∧ w.frozen? ⟨S, 0, none⟩ = false ∧ w.frozen? ⟨S, 1, none⟩ = false :=
  ⟨⟨cell_of_row _ _ _ _ _ _ H.pb, cell_of_row _ _ _ _ _ _ H.pb, cell_of_row _ _ _ _ _ _ H.pb⟩, (row_cells H.sb).1, (row_cells H.sb).2, frozen_of_row _ _ _ _ _ H.sb, frozen_of_row _ _ _ _ _ H.sb⟩
end
/-- What Encode returns: the bytes of a valid packet lie in a block of their own. -/
def EncPost (P : Pk) (w : World) (e : Ending) (w' : World) : Prop :=
  (vpk P = true ∧ ∃ g, e = .returned (.tuple #[.slice (some ⟨g, 0, none⟩) (enc P).length (enc P).length, .int .i64 0]) ∧ Blk w' g (enc P) ∧ w.heap.size ≤ g ∧ w.grownBy w' none) ∨
  (vpk P = false ∧ e = .returned (.tuple #[.slice none 0 0, .int .i64 1]) ∧ w.grownBy w' none)
set_option maxRecDepth 100000 in
set_option maxHeartbeats 3200000 in
theorem pencode_any (P : Pk) (hP : P.Wf) (w : World) (hT : Tb w) :
    Calls Tryd.prog 16 #[P.val] w fun e w' => EncPost P w e w' := by
  have hval : P.val = .agg #[.int .i64 P.mode, .int .i64 P.sub, .int .i64 P.set, .int .i64 P.len, .int .i64 P.ttl, .int .i64 P.ent, .int .i64 P.ing, .int .i64 P.pro, .int .u64 (P.bits : Int), .string P.pay] := rfl
  rw [hval]
  go_enter Tryd.func16, Tryd.ntmps16
  go_wp2_with fail
  obtain ⟨k1, k2⟩ := one_box w (pcells P) 31
  have HP := Lib.hid (And.intro k1 k2)
  have hTa := hT.keep k2
  clear k1 k2
  unfold pcells at HP hTa
  generalize w.alloc (.cells #[.int .i64 P.mode, .int .i64 P.sub, .int .i64 P.set, .int .i64 P.len, .int .i64 P.ttl, .int .i64 P.ent, .int .i64 P.ing, .int .i64 P.pro, .int .u64 (P.bits : Int), .string P.pay] 31) = wa at *
  change Hid (wa.heap[w.heap.size]? = some (.cells (pcells P) 31 (0, 0)) ∧ w.grownBy wa none) at HP
  rw [← hval]
  refine (pvalid_any P hP _).mono ?_
  rintro e w1 ⟨rfl, hg⟩
  have HQ := Lib.hid (And.intro (kept_row HP.out.1 hg (by simp)) (grown_trans HP.out.2 hg))
  have HT1 := Lib.hid (hTa.keep hg)
  clear hg HP hTa hT
  by_cases hv : vpk P = true
  · rw [hv]
    have HV := Lib.hid hv
    clear hv
    obtain ⟨a0, a1, a2, a3, a4, a5, a6, a7, a8, a9⟩ := p_facts HQ.out.1
    go_wp2_with fail
    rw [← hval]
    refine (writeHeader_any P HV.out w1 HT1.out).mono ?_
    rintro e w3 ⟨p, c, rfl, hR, hpc, hg⟩
    obtain ⟨k1, k2⟩ := one_box w3 #[.slice p (pk (flb (fl P))).length c, .int .i64 ((flb (fl P)).length : Int)] 75
    have H3 : Hid (EN w P w3.heap.size (flb (fl P)) p c (w3.alloc (.cells #[.slice p (pk (flb (fl P))).length c, .int .i64 ((flb (fl P)).length : Int)] 75))) :=
      Lib.hid ⟨kept_row HQ.out.1 (grown_trans hg k2) (by simp), k1, (hR.weaken (q' := fun b => b ≠ w3.heap.size ∧ w.heap.size ≤ b) fun b hb hl => ⟨by omega, Nat.le_trans HQ.out.2.size hb⟩).keep k2, hpc, Nat.lt_of_lt_of_le (World.lt_of_row' HQ.out.1) hg.size, grown_trans HQ.out.2 (grown_trans hg k2)⟩
    have HL49 := Lib.hid (hdr_len P)
    have hvb := (vpk_parts HV.out).2.2.2.2.2.2.2.2
    have HLN : Hid (0 ≤ P.len ∧ P.len.toNat ≤ 64) := Lib.hid (by rcases vl_cases (vb_vl hvb) with h | h | h | h <;> rw [h] <;> decide)
    have HBL := Lib.hid (vb_lt hvb hP.bits)
    clear a0 a1 a2 a3 a4 a5 a6 a7 a8 a9 hR hpc hg k1 k2 HQ HT1 hvb
    obtain ⟨⟨a3, a8, a9⟩, _⟩ := H3.out.facts
    go_wp2_with fail
    obtain ⟨B0, hB0⟩ : ∃ B, B = flb (fl P) := ⟨_, rfl⟩
    rw [← hB0] at H3 HL49 ⊢
    obtain ⟨B1, hB1⟩ : ∃ B, B = B0 ++ nb P.bits P.len.toNat := ⟨_, rfl⟩
    have hA := append_bits (B := B0) (v := P.bits) (k := P.len.toNat) HLN.out.2 HBL.out (by have := HLN.out.2; have := HL49.out; omega) H3.out.rd
    rw [Int.toNat_of_nonneg HLN.out.1, ← hB1] at hA
    have HB0 := Lib.hid hB0
    have HB1 := Lib.hid hB1
    clear hB0 hB1 a3 a8 a9
    generalize w3.alloc (.cells #[.slice p (pk B0).length c, .int .i64 (B0.length : Int)] 75) = w4 at *
    refine hA.mono ?_
    rintro e w5 ⟨p2, c2, rfl, hR2, hp2, hg⟩
    have H5 := Lib.hid (H3.out.keep hg)
    have H6 := Lib.hid (H5.out.turn H3.out.lt hR2 hp2)
    obtain ⟨_, r0, r1, z0, z1⟩ := H5.out.facts
    clear hA hR2 hp2 hg H3 H5
    go_upto_region 5 with fail
    generalize (w5.setCell ⟨w3.heap.size, 0, none⟩ (.slice p2 (pk B1).length c2)).setCell ⟨w3.heap.size, 1, none⟩ (.int .i64 (B1.length : Int)) = w6 at *
    obtain ⟨⟨a3, a8, a9⟩, s0, s1, _⟩ := H6.out.facts
    have hcv := Lib.run_convert_string_bytes (P := Tryd.prog) w6 9 23 5 P.pay Tryd.underlying9 Tryd.underlying23 Tryd.underlying5
    have H7 := Lib.hid (H6.out.keep (bw_grown w6 5 P.pay))
    have HRB := Lib.hid (bw_rd w6 5 P.pay (grownCap w6 P.pay.size 0 5))
    have y9 := H7.out.facts.1.2.2
    have hps : P.pay.size ≤ 64 := (vpk_parts HV.out).2.2.2.2.2.2.2.1
    have HL1 : Hid (B1.length ≤ 113) := Lib.hid (by rw [HB1.out, List.length_append, nb_len]; have := HLN.out.2; have := HL49.out; omega)
    have hJ := join_bits (B := B1) (byl_by P.pay) (by rw [byl_len]; have := HL1.out; omega) H7.out.rd HRB.out
    rw [byl_len, Int.natCast_mul] at hJ
    obtain ⟨B3, hB3⟩ : ∃ B, B = B1 ++ pb (byl P.pay) := ⟨_, rfl⟩
    rw [← hB3] at hJ
    have HB3 := Lib.hid hB3
    have HJ := Lib.hid hJ
    clear r0 r1 z0 z1 hB3 hJ
    go_wp2_with fail
    clear s0 s1 hcv HRB H6 a3 a8 a9 y9
    generalize Lib.bytesWorld w6 5 P.pay = w7 at *
    refine HJ.out.mono ?_
    rintro e w8 ⟨p3, c3, rfl, hR3, hp3, hg⟩
    have H8 := Lib.hid (H7.out.keep hg)
    have H9 := Lib.hid (H8.out.turn H7.out.lt hR3 hp3)
    obtain ⟨_, r0, r1, z0, z1⟩ := H8.out.facts
    clear hR3 hp3 hg H7 H8 HJ
    go_upto_region 6 with fail
    generalize (w8.setCell ⟨w3.heap.size, 0, none⟩ (.slice p3 (pk B3).length c3)).setCell ⟨w3.heap.size, 1, none⟩ (.int .i64 (B3.length : Int)) = w9 at *
    obtain ⟨_, s0, s1, _⟩ := H9.out.facts
    have HL3 : Hid (B3.length ≤ 625) := Lib.hid (by rw [HB3.out, List.length_append, pb_len, byl_len]; have := HL1.out; omega)
    clear r0 r1 z0 z1
    go_wp2_with fail
    refine (check_bits (by have := HL3.out; omega) H9.out.rd).mono ?_
    rintro e wa2 ⟨rfl, hg⟩
    have H10 := Lib.hid (H9.out.keep hg)
    clear s0 s1 hg H9
    obtain ⟨_, s0, s1, z0, z1⟩ := H10.out.facts
    have hA2 := append_bits (B := B3) (v := ck B3) (k := 16) (by decide) (chk_lt _ _) (by have := HL3.out; omega) H10.out.rd
    obtain ⟨B4, hB4⟩ : ∃ B, B = B3 ++ nb (ck B3) 16 := ⟨_, rfl⟩
    rw [← hB4] at hA2
    have HB4 := Lib.hid hB4
    have HA2 := Lib.hid hA2
    have HL4 : Hid (B4.length ≤ 641) := Lib.hid (by rw [hB4, List.length_append, nb_len]; have := HL3.out; omega)
    clear hB4 hA2
    go_wp2_with fail
    refine HA2.out.mono ?_
    rintro e wb ⟨p4, c4, rfl, hR4, hp4, hg⟩
    have H11 := Lib.hid (H10.out.keep hg)
    have H12 := Lib.hid (H11.out.turn H10.out.lt hR4 hp4)
    clear s0 s1 z0 z1
    obtain ⟨_, r0, r1, z0, z1⟩ := H11.out.facts
    clear hR4 hp4 hg H10 H11 HA2
    go_upto_region 8 with fail
    generalize (wb.setCell ⟨w3.heap.size, 0, none⟩ (.slice p4 (pk B4).length c4)).setCell ⟨w3.heap.size, 1, none⟩ (.int .i64 (B4.length : Int)) = wd at *
    obtain ⟨_, s0, s1, _⟩ := H12.out.facts
    clear r0 r1 z0 z1
    go_wp2_with fail
    refine (alignp_own (pk B4) (B4.length : Int) (pk_vs B4 (by have := HL4.out; omega)) _ p4 c4 (pk_by B4) wd H12.out.rd).mono ?_
    rintro e we ⟨g, rfl, hB, hge, hg⟩
    have H13 := Lib.hid (H12.out.keep hg)
    have HLT : Hid (w3.heap.size < g ∧ w.heap.size ≤ g) := Lib.hid ⟨Nat.lt_of_lt_of_le H12.out.lt hge, Nat.le_trans H12.out.gr.size hge⟩
    clear s0 s1
    obtain ⟨_, r0, r1, z0, z1⟩ := H13.out.facts
    have HB5 := Lib.hid hB
    clear hB hge hg H12
    go_wp2_with fail
    have hE : enc P = pk B4 := by unfold enc body; rw [← HB0.out, ← HB1.out, ← HB3.out, ← HB4.out]
    go_ret2
    refine .inl ⟨HV.out, g, by rw [hE]; rfl, ?_, HLT.out.2, ?_⟩
    · rw [hE]; exact HB5.out.grown (grown_store2 we w3.heap.size _ _) (fun e => by have h1 := HLT.out.1; have := Option.some.inj e; omega)
    · exact grown_new H13.out.gr (grown_store2 we w3.heap.size _ _) (by have := H13.out.lo; omega)
  · have hf : vpk P = false := by simpa using hv
    have HF := Lib.hid hf
    rw [hf]
    clear hf hv
    go_wp2_with fail
    go_ret2
    exact .inr ⟨HF.out, rfl, HQ.out.2⟩
end Go.Proofs.YtpombmpkccnefaaDoor

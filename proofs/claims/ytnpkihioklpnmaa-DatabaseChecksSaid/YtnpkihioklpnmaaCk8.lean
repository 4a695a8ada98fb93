/- Parts of the proof, packed: PkBits, PkFields, Funs, PkHead, PkCalls, AdPut, PkRd, AdTake, PkValid, PkRes, PkRead, PkMis, PkSize, PkRefs, PkRefs2, PkWrite, PkAlign, PkEncode, IoCheckR, IoSliceR, IoJoinR, PkText, PkBox, Ref, Draw, PkTape, PkTapeN. -/
import Derived.Test.YtnpkihioklpnmaaCk7
import Derived.Test.YtnpkihioklpnmaaCk1
import Derived.OwnWalk
import Derived.Lib.ConvBytes
import Derived.Test.YtnpkihioklpnmaaCk6
import Derived.Deep.CutRange
import Derived.Deep.RegionHeld3
import Derived.Lib.BufferRead
import Derived.Test.YtnpkihioklpnmaaCk2
import Derived.Test.YtnpkihioklpnmaaCk3
/- Streams as lists of bits; the encoding of a packet as a list of bits. -/
namespace Go.Proofs.Ytnpkihioklpnmaa
open Go.RowKit Bs
/-- The k lowest bits of v, the highest first. -/
def nb (v k : Nat) : List Bool := (List.range k).map fun t => v.testBit (k - 1 - t)
def bf (B : List Bool) (i : Nat) : Bool := B.getD i false
/-- The bytes of these bits. -/
def pk (B : List Bool) : List Nat := pz (bf B) B.length ((B.length + 7) / 8)
set_option maxRecDepth 100000 in
theorem nb_len (v k : Nat) : (nb v k).length = k := by unfold nb; simp
set_option maxRecDepth 100000 in
theorem pk_len (B : List Bool) : (pk B).length = (B.length + 7) / 8 := pz_len _ _ _
set_option maxRecDepth 100000 in
theorem bf_nb (v k i : Nat) (h : i < k) : bf (nb v k) i = v.testBit (k - 1 - i) := by
  unfold bf nb
  rw [List.getD_eq_getElem?_getD, List.getElem?_map, List.getElem?_range h]; rfl
set_option maxRecDepth 100000 in
theorem bf_left (A B : List Bool) (i : Nat) (h : i < A.length) : bf (A ++ B) i = bf A i := by
  unfold bf
  rw [List.getD_eq_getElem?_getD, List.getD_eq_getElem?_getD, List.getElem?_append_left h]
set_option maxRecDepth 100000 in
theorem bf_right (A B : List Bool) (i : Nat) : bf (A ++ B) (A.length + i) = bf B i := by
  unfold bf
  rw [List.getD_eq_getElem?_getD, List.getD_eq_getElem?_getD, List.getElem?_append_right (by omega), Nat.add_sub_cancel_left]
set_option maxRecDepth 100000 in
theorem bf_out (B : List Bool) (i : Nat) (h : B.length ≤ i) : bf B i = false := by
  unfold bf
  rw [List.getD_eq_getElem?_getD, List.getElem?_eq_none h]; rfl
set_option maxRecDepth 100000 in
theorem bt_pk (B : List Bool) (i : Nat) (h : i < 8 * ((B.length + 7) / 8)) : bt (pk B) i = bf B i := by
  unfold pk
  rw [bt_pz _ _ _ _ h]
  by_cases hi : i < B.length
  · simp [hi]
  · simp [hi, bf_out B i (by omega)]
set_option maxRecDepth 100000 in
theorem pk_vs (B : List Bool) (h : B.length ≤ 8192) : vs (pk B) (B.length : Int) = true := by
  refine vs_iff.2 ⟨h, pk_len _, fun i hi hn => ?_⟩
  rw [pk_len] at hi
  rw [bt_pk _ _ hi]
  exact bf_out B i hn
set_option maxRecDepth 100000 in
theorem pk_by (B : List Bool) : By (pk B) := pz_lt _ _ _
set_option maxRecDepth 100000 in
theorem apV_pk (B : List Bool) (v k : Nat) (hk : k ≤ 64) (hv : v < 2 ^ k) (h : B.length + k ≤ 8192) : apV (pk B) (B.length : Int) v (k : Int) = (pk (B ++ nb v k), ((B ++ nb v k).length : Int), 0) := by
  have e : (B ++ nb v k).length = B.length + k := by rw [List.length_append, nb_len]
  rw [apV_ok (pk_vs B (by omega)) (by unfold vw; simp; omega) (Nat.not_le.2 hv) (by omega)]
  unfold pk
  rw [e]
  refine congrArg (fun x => (x, _)) (pz_congr fun i hi => ?_)
  by_cases hl : i < B.length + k
  · simp only [hl, decide_true, Bool.true_and]
    unfold apf
    by_cases hb : i < B.length
    · rw [if_pos hb, bf_left _ _ _ hb]
      have := bt_pk B i (by omega)
      unfold pk at this
      exact this
    · obtain ⟨t, rfl⟩ : ∃ t, i = B.length + t := ⟨i - B.length, by omega⟩
      rw [if_neg hb, bf_right, bf_nb _ _ _ (by omega), Nat.add_sub_cancel_left]
  · simp [hl]
set_option maxRecDepth 100000 in
theorem jnV_pk (A B : List Bool) (h : A.length + B.length ≤ 8192) : jnV (pk A) (A.length : Int) (pk B) (B.length : Int) = (pk (A ++ B), ((A ++ B).length : Int), 0) := by
  have e : (A ++ B).length = A.length + B.length := List.length_append
  rw [jnV_ok (pk_vs A (by omega)) (pk_vs B (by omega)) e.symm (by omega)]
  unfold pk
  rw [e]
  refine congrArg (fun x => (x, _)) (pz_congr fun i hi => ?_)
  by_cases hl : i < A.length + B.length
  · simp only [hl, decide_true, Bool.true_and]
    unfold jnf
    by_cases hb : i < A.length
    · rw [if_pos hb, bf_left _ _ _ hb]
      have := bt_pk A i (by omega)
      unfold pk at this
      exact this
    · obtain ⟨t, rfl⟩ : ∃ t, i = A.length + t := ⟨i - A.length, by omega⟩
      rw [if_neg hb, bf_right, Nat.add_sub_cancel_left]
      have := bt_pk B t (by omega)
      unfold pk at this
      exact this
  · simp [hl]
/-- The bits of bytes. -/
def pb (l : List Nat) : List Bool := (List.range (8 * l.length)).map (bt l)
set_option maxRecDepth 100000 in
theorem pb_len (l : List Nat) : (pb l).length = 8 * l.length := by unfold pb; simp
set_option maxRecDepth 100000 in
theorem bf_pb (l : List Nat) (i : Nat) (h : i < 8 * l.length) : bf (pb l) i = bt l i := by
  unfold bf pb
  rw [List.getD_eq_getElem?_getD, List.getElem?_map, List.getElem?_range h]; rfl
set_option maxRecDepth 100000 in
theorem pk_pb (l : List Nat) (h : By l) : pk (pb l) = l := by
  have e := pz_bt l (8 * l.length) h fun i h1 h2 => absurd h2 (by omega)
  refine Eq.trans ?_ e.symm
  unfold pk
  rw [pb_len, show (8 * l.length + 7) / 8 = l.length by omega]
  refine pz_congr fun i hi => ?_
  simp only [hi, decide_true, Bool.true_and]
  exact bf_pb l i hi
set_option maxRecDepth 100000 in
theorem alV_pk (B : List Bool) (h : B.length ≤ 8192) : alV (pk B) (B.length : Int) = (pk B, ((8 * (pk B).length : Nat) : Int), 0) := alV_ok (pk_vs B h)
/-- A packet's parts. -/
structure Pk where
  mode : Int
  sub : Int
  set : Int
  len : Int
  ttl : Int
  ent : Int
  ing : Int
  pro : Int
  bits : Nat
  pay : ByteArray
def Pk.val (P : Pk) : Value := .agg #[.int .i64 P.mode, .int .i64 P.sub, .int .i64 P.set, .int .i64 P.len, .int .i64 P.ttl, .int .i64 P.ent, .int .i64 P.ing, .int .i64 P.pro, .int .u64 (P.bits : Int), .string P.pay]
structure Pk.Wf (P : Pk) : Prop where
  mode : I64 P.mode
  sub : I64 P.sub
  set : I64 P.set
  len : I64 P.len
  ttl : I64 P.ttl
  ent : I64 P.ent
  ing : I64 P.ing
  pro : I64 P.pro
  bits : U64 P.bits
  pay : P.pay.size ≤ maxLen
/-- Is it valid? -/
def vpk (P : Pk) : Bool := decide ((1 ≤ P.mode ∧ P.mode ≤ 3) ∧ (0 ≤ P.sub ∧ P.sub ≤ 7) ∧ (0 ≤ P.set ∧ P.set ≤ 31) ∧ (0 ≤ P.ttl ∧ P.ttl ≤ 63) ∧ (0 ≤ P.ent ∧ P.ent ≤ 1023) ∧ (0 ≤ P.ing ∧ P.ing ≤ 256) ∧ (0 ≤ P.pro ∧ P.pro ≤ 7) ∧ P.pay.size ≤ 64 ∧ vb P.bits P.len = true)
/-- The code of the length. -/
def lcode (n : Int) : Nat := if n = 8 then 0 else if n = 16 then 1 else if n = 32 then 2 else 3
/-- The numbers of the header, with their widths. -/
def fl (P : Pk) : List (Nat × Nat) := [(2, 2), (P.mode.toNat, 2), (P.sub.toNat, 3), (P.set.toNat, 5), (lcode P.len, 2), (P.ttl.toNat, 6), (P.ent.toNat, 10), (P.ing.toNat, 9), (P.pro.toNat, 3), (P.pay.size, 7)]
def flb (f : List (Nat × Nat)) : List Bool := f.flatMap fun x => nb x.1 x.2
def byl (s : ByteArray) : List Nat := s.data.toList.map fun b => b.toNat
def body (P : Pk) : List Bool := flb (fl P) ++ nb P.bits P.len.toNat ++ pb (byl P.pay)
def ck (B : List Bool) : Nat := crcB (bf B) B.length
def enc (P : Pk) : List Nat := pk (body P ++ nb (ck (body P)) 16)
set_option maxRecDepth 100000 in
theorem flb_len (f : List (Nat × Nat)) : (flb f).length = (f.map (·.2)).sum := by
  induction f with
  | nil => rfl
  | cons x r ih =>
    unfold flb at *
    rw [List.flatMap_cons, List.length_append, ih, nb_len]; rfl
set_option maxRecDepth 100000 in
theorem byl_len (s : ByteArray) : (byl s).length = s.size := by unfold byl; rw [List.length_map, Array.length_toList]; rfl
set_option maxRecDepth 100000 in
theorem byl_by (s : ByteArray) : By (byl s) := fun x hx => by
  unfold byl at hx
  obtain ⟨b, _, rfl⟩ := List.mem_map.1 hx
  exact b.toNat_lt
set_option maxRecDepth 100000 in
theorem hdr_len (P : Pk) : (flb (fl P)).length = 49 := by rw [flb_len]; rfl
set_option maxRecDepth 100000 in
theorem body_len (P : Pk) : (body P).length = 49 + P.len.toNat + 8 * P.pay.size := by
  unfold body
  rw [List.length_append, List.length_append, hdr_len, nb_len, pb_len, byl_len]
end Go.Proofs.Ytnpkihioklpnmaa

/- packet: the table of the fields. -/
namespace Go.Proofs.Ytnpkihioklpnmaa
open Go.RowKit Bs
def fcells (h : Nat) : Array Value := #[.pointer (some ⟨h, 0, none⟩), .int .i64 2, .pointer (some ⟨h, 1, none⟩), .int .i64 2, .pointer (some ⟨h, 2, none⟩), .int .i64 3, .pointer (some ⟨h, 3, none⟩), .int .i64 5, .pointer (some ⟨h, 11, none⟩), .int .i64 2,
  .pointer (some ⟨h, 5, none⟩), .int .i64 6, .pointer (some ⟨h, 6, none⟩), .int .i64 10, .pointer (some ⟨h, 7, none⟩), .int .i64 9, .pointer (some ⟨h, 8, none⟩), .int .i64 3, .pointer (some ⟨h, 12, none⟩), .int .i64 7]
def hcells (P : Pk) : Array Value := #[.int .i64 2, .int .i64 P.mode, .int .i64 P.sub, .int .i64 P.set, .int .i64 P.len, .int .i64 P.ttl, .int .i64 P.ent, .int .i64 P.ing, .int .i64 P.pro, .int .u64 (P.bits : Int), .string P.pay, .int .i64 (lcode P.len : Int), .int .i64 (P.pay.size : Int)]
set_option maxRecDepth 100000 in
theorem fst_code {n : Int} (h : vl n = true) : fst (n.toNat / 8) = (lcode n : Int) := by
  rcases vl_cases h with rfl | rfl | rfl | rfl <;> decide
set_option maxRecDepth 100000 in
theorem vpk_parts {P : Pk} (h : vpk P = true) : ((1 ≤ P.mode ∧ P.mode ≤ 3) ∧ (0 ≤ P.sub ∧ P.sub ≤ 7) ∧ (0 ≤ P.set ∧ P.set ≤ 31) ∧ (0 ≤ P.ttl ∧ P.ttl ≤ 63) ∧ (0 ≤ P.ent ∧ P.ent ≤ 1023) ∧ (0 ≤ P.ing ∧ P.ing ≤ 256) ∧ (0 ≤ P.pro ∧ P.pro ≤ 7) ∧ P.pay.size ≤ 64 ∧ vb P.bits P.len = true) := of_decide_eq_true h
set_option maxRecDepth 100000 in
theorem vb_vl {b : Nat} {n : Int} (h : vb b n = true) : vl n = true := by
  unfold vb at h
  exact (Bool.and_eq_true _ _ ▸ h).1
set_option maxRecDepth 100000 in
theorem lcode_lt (n : Int) : lcode n < 4 := by
  unfold lcode
  split
  · decide
  · split
    · decide
    · split <;> decide
set_option maxRecDepth 100000 in
/-- What stands in the table of the fields. -/
theorem field_at {P : Pk} (h : vpk P = true) (hb : Nat) (k : Nat) (hk : k < 10) : ∃ o wd x : Nat, (fcells hb)[k * 2]? = some (.pointer (some ⟨hb, o, none⟩)) ∧ (fcells hb)[k * 2 + 1]? = some (.int .i64 (wd : Int)) ∧ (hcells P)[o]? = some (.int .i64 (x : Int)) ∧ x < 2 ^ wd ∧ wd ≤ 10 ∧ (fl P)[k]? = some (x, wd) := by
  obtain ⟨⟨m1, m2⟩, ⟨s1, s2⟩, ⟨e1, e2⟩, ⟨t1, t2⟩, ⟨n1, n2⟩, ⟨i1, i2⟩, ⟨p1, p2⟩, y1, v1⟩ := vpk_parts h
  have hl := lcode_lt P.len
  rcases (show k = 0 ∨ k = 1 ∨ k = 2 ∨ k = 3 ∨ k = 4 ∨ k = 5 ∨ k = 6 ∨ k = 7 ∨ k = 8 ∨ k = 9 by omega) with rfl | rfl | rfl | rfl | rfl | rfl | rfl | rfl | rfl | rfl
  · exact ⟨0, 2, 2, rfl, rfl, rfl, by decide, by decide, rfl⟩
  · exact ⟨1, 2, P.mode.toNat, rfl, rfl, by rw [Int.toNat_of_nonneg (by omega)]; rfl, by omega, by decide, rfl⟩
  · exact ⟨2, 3, P.sub.toNat, rfl, rfl, by rw [Int.toNat_of_nonneg (by omega)]; rfl, by omega, by decide, rfl⟩
  · exact ⟨3, 5, P.set.toNat, rfl, rfl, by rw [Int.toNat_of_nonneg (by omega)]; rfl, by omega, by decide, rfl⟩
  · exact ⟨11, 2, lcode P.len, rfl, rfl, rfl, by omega, by decide, rfl⟩
  · exact ⟨5, 6, P.ttl.toNat, rfl, rfl, by rw [Int.toNat_of_nonneg (by omega)]; rfl, by omega, by decide, rfl⟩
  · exact ⟨6, 10, P.ent.toNat, rfl, rfl, by rw [Int.toNat_of_nonneg (by omega)]; rfl, by omega, by decide, rfl⟩
  · exact ⟨7, 9, P.ing.toNat, rfl, rfl, by rw [Int.toNat_of_nonneg (by omega)]; rfl, by omega, by decide, rfl⟩
  · exact ⟨8, 3, P.pro.toNat, rfl, rfl, by rw [Int.toNat_of_nonneg (by omega)]; rfl, by omega, by decide, rfl⟩
  · exact ⟨12, 7, P.pay.size, rfl, rfl, rfl, by omega, by decide, rfl⟩
set_option maxRecDepth 100000 in
theorem flb_snoc {f : List (Nat × Nat)} {k x wd : Nat} (h : f[k]? = some (x, wd)) : flb (f.take (k + 1)) = flb (f.take k) ++ nb x wd := by
  unfold flb
  rw [List.take_add_one, h, List.flatMap_append]
  simp
set_option maxRecDepth 100000 in
theorem flb_take_le (P : Pk) (k : Nat) : (flb ((fl P).take k)).length ≤ 49 := by
  have h := hdr_len P
  have e : fl P = (fl P).take k ++ (fl P).drop k := (List.take_append_drop _ _).symm
  have e2 : flb (fl P) = flb ((fl P).take k) ++ flb ((fl P).drop k) := by
    unfold flb
    rw [← List.flatMap_append, List.take_append_drop]
  rw [e2, List.length_append] at h
  omega
end Go.Proofs.Ytnpkihioklpnmaa

/- The program's functions on bits: List, Nth, Rank, Spread, Gather. -/
namespace Go.Proofs.Ytnpkihioklpnmaa
open Go.RowKit Bs

set_option maxRecDepth 100000 in
theorem fst_pos {c : Nat} (h : c ≠ 0) : fst c = ((Lib.ctz 64 c : Nat) : Int) := by unfold fst; rw [if_neg h]

/-- The j lowest bits. -/
def tk (b j : Nat) : List Nat := (bl b).take j
set_option maxRecDepth 100000 in
theorem tk_le (b j : Nat) : (tk b j).length ≤ 64 := by unfold tk; rw [List.length_take]; have := bl_length_le b; omega
def ListRel (b : Nat) (w : World) (v : Value) (c j : Nat) (wr : World) : Prop :=
  Strip b c j ∧ wr.ownsRow w.heap.size 3 1 v (tk b j).length ((tk b j).map ival) ∧ w.grownBy wr none
set_option maxRecDepth 100000 in
theorem list_hit {b c j : Nat} {w wr w1 : World} {v v' : Value} {o : Obj} (h : ListRel b w v c j wr) (h0 : c ≠ 0)
    (hown' : w1.ownsRow w.heap.size 3 1 v' ((tk b j).length + 1) ((tk b j).map ival ++ [.int .i64 (fst c)])) (hg : (wr.alloc o).grownBy w1 v.ownBlock) : ListRel b w v' (wo c) (j + 1) w1 := by
  obtain ⟨h1, h2⟩ := h.1.step h0
  refine ⟨h1, ?_, own_step h.2.2 h.2.1 hg⟩
  unfold tk at hown' ⊢
  rw [take_next h2, List.length_append, List.map_append]
  rw [fst_pos h0] at hown'
  exact hown'
set_option maxRecDepth 100000 in
theorem lo_word (k : Nat) (hk : k ≤ 63) : IntKind.u64.wrap (IntKind.u64.wrap (2 ^ k) - 1) = ((lo k : Nat) : Int) := by
  rw [pow_word k (by omega)]
  have h := (b2_u64 (k := k) (by omega)).lt
  have h0 : 0 < 2 ^ k := Nat.pow_pos (by decide)
  unfold b2 at h ⊢
  unfold lo
  rw [IntKind.wrap_u64]; omega
end Go.Proofs.Ytnpkihioklpnmaa

/- packet: a header's block. -/
namespace Go.Proofs.Ytnpkihioklpnmaa
open Go.RowKit Bs
set_option maxRecDepth 100000 in
theorem World.lt_of_row' {w : World} {b : Nat} {o : Obj} (h : w.heap[b]? = some o) : b < w.heap.size := (Array.getElem?_eq_some_iff.1 h).1
def pcells (P : Pk) : Array Value := #[.int .i64 P.mode, .int .i64 P.sub, .int .i64 P.set, .int .i64 P.len, .int .i64 P.ttl, .int .i64 P.ent, .int .i64 P.ing, .int .i64 P.pro, .int .u64 (P.bits : Int), .string P.pay]
def zcells : Array Value := #[.int .i64 0, .int .i64 0, .int .i64 0, .int .i64 0, .int .i64 0, .int .i64 0, .int .i64 0, .int .i64 0, .int .i64 0, .int .u64 0, .string ⟨#[]⟩, .int .i64 0, .int .i64 0]
/-- A stream of these bits is returned. -/
def BP (B : List Bool) (w : World) (e : Ending) (w' : World) : Prop := ∃ p c, e = .returned (.agg #[.slice p (pk B).length c, .int .i64 (B.length : Int)]) ∧ Rd w' (w.heap.size ≤ ·) (.slice p (pk B).length c) ((pk B).map nv) ∧ (p = none → c = 0) ∧ w.grownBy w' none
section
variable {W w w1 : World} {P : Pk} {h g S : Nat} {B B2 : List Bool}
set_option maxRecDepth 100000 in
theorem Rd.weaken {q q' : Nat → Prop} {v : Value} {vs : List Value} (h : Rd w q v vs) (hq : ∀ b, q b → b < w.heap.size → q' b) : Rd w q' v vs := by
  obtain ⟨p, c, hv, hc⟩ := h
  refine ⟨p, c, hv, fun hne => ?_⟩
  obtain ⟨b, off, hp, hb, hx⟩ := hc hne
  refine ⟨b, off, hp, hq b hb ?_, hx⟩
  cases vs with
  | nil => exact absurd rfl hne
  | cons y r => exact World.block_lt_of_cell? w ⟨b, off + 0, none⟩ (hx 0 y rfl)
set_option maxRecDepth 100000 in
theorem Rd.bound {w : World} {q : Nat → Prop} {v : Value} {vs : List Value} (h : Rd w q v vs) : Rd w (· < w.heap.size) v vs := by
  obtain ⟨p, c, hv, hc⟩ := h
  refine ⟨p, c, hv, fun hne => ?_⟩
  obtain ⟨b, off, hp, _, hx⟩ := hc hne
  refine ⟨b, off, hp, ?_, hx⟩
  cases vs with
  | nil => exact absurd rfl hne
  | cons y r => exact World.block_lt_of_cell? w ⟨b, off + 0, none⟩ (hx 0 y rfl)
end
end Go.Proofs.Ytnpkihioklpnmaa

/- packet: the calls of bitio over lists of bits. -/
namespace Go.Proofs.Ytnpkihioklpnmaa
open Go.RowKit Bs
section
variable {w : World} {B : List Bool} {p : Option Addr} {c : Nat} {q : Nat → Prop}
/-- A stream of these bits and no error are returned. -/
def BT (B : List Bool) (w : World) (e : Ending) (w' : World) : Prop :=
  ∃ p2 c2, e = .returned (.tuple #[.agg #[.slice p2 (pk B).length c2, .int .i64 (B.length : Int)], .int .i64 0]) ∧ Rd w' (w.heap.size ≤ ·) (.slice p2 (pk B).length c2) ((pk B).map nv) ∧ (p2 = none → c2 = 0) ∧ w.grownBy w' none
set_option maxRecDepth 100000 in
theorem chk_same {f g : Nat → Bool} : ∀ k, (∀ i, i < k → f i = g i) → crcB f k = crcB g k
  | 0, _ => rfl
  | k + 1, h => by
    unfold crcB
    rw [chk_same k fun i hi => h i (by omega), h k (by omega)]
set_option maxRecDepth 100000 in
theorem bw_grown (w : World) (e : TypeId) (s : ByteArray) : w.grownBy (Lib.bytesWorld w e s) none :=
  ⟨rfl, rfl, rfl, by rw [Lib.bytesWorld_size]; omega, fun j hj _ => Lib.bytesWorld_at_old w e s j hj⟩
set_option maxRecDepth 100000 in
theorem bw_rd (w : World) (e : TypeId) (s : ByteArray) (c : Nat) : Rd (Lib.bytesWorld w e s) (· = w.heap.size) (.slice (some ⟨w.heap.size, 0, none⟩) (byl s).length c) ((byl s).map nv) := by
  refine ⟨_, c, by rw [List.length_map], fun _ => ⟨w.heap.size, 0, rfl, rfl, fun j x hj => ?_⟩⟩
  have hl : j < s.size := by
    have := (List.getElem?_eq_some_iff.1 hj).1
    rw [List.length_map, byl_len] at this; exact this
  rw [Nat.zero_add, Lib.bytesWorld_cell w e s j hl]
  unfold byl at hj
  rw [List.map_map, List.getElem?_map] at hj
  have hd : j < s.data.toList.length := by rw [Array.length_toList]; exact hl
  rw [List.getElem?_eq_getElem hd] at hj
  rw [List.getD_eq_getElem?_getD, List.getElem?_eq_getElem hd]
  exact hj
end
end Go.Proofs.Ytnpkihioklpnmaa

/- advert.write: what its closure does to the stream. -/
namespace Go.Proofs.Ytnpkihioklpnmaa
open Go.RowKit Bs
/-- The stream in the box S has the bits B. -/
structure SB (w : World) (S : Nat) (B : List Bool) (p : Option Addr) (c : Nat) : Prop where
  bx : w.heap[S]? = some (.cells #[.slice p (pk B).length c, .int .i64 (B.length : Int)] 123 (0, 0))
  rd : Rd w (· ≠ S) (.slice p (pk B).length c) ((pk B).map nv)
set_option maxRecDepth 100000 in
theorem SB.keep {w w' : World} {S : Nat} {B : List Bool} {p : Option Addr} {c : Nat} (h : SB w S B p c) (g : w.grownBy w' none) : SB w' S B p c := ⟨kept_row h.bx g (by simp), h.rd.grown g (fun _ _ => by simp)⟩
set_option maxRecDepth 100000 in
theorem store2c {w : World} {b : Nat} {t : TypeId} {z0 z1 : Value} (u0 u1 : Value) (h : w.heap[b]? = some (.cells #[z0, z1] t (0, 0))) :
    ((w.setCell ⟨b, 0, none⟩ u0).setCell ⟨b, 1, none⟩ u1).heap[b]? = some (.cells #[u0, u1] t (0, 0)) ∧ w.grownBy ((w.setCell ⟨b, 0, none⟩ u0).setCell ⟨b, 1, none⟩ u1) (some b) := ⟨store2 h, grown_store2 w b u0 u1⟩
end Go.Proofs.Ytnpkihioklpnmaa

/- packet: the header of a packet is read. -/
namespace Go.Proofs.Ytnpkihioklpnmaa
open Go.RowKit Bs
/-- A header's cells behind k fields. -/
def hdc (V : Nat → Nat) (k : Nat) (n : Int) : Array Value := #[.int .i64 ((if 0 < k then V 0 else 0 : Nat) : Int), .int .i64 ((if 1 < k then V 1 else 0 : Nat) : Int), .int .i64 ((if 2 < k then V 2 else 0 : Nat) : Int), .int .i64 ((if 3 < k then V 3 else 0 : Nat) : Int), .int .i64 n, .int .i64 ((if 5 < k then V 5 else 0 : Nat) : Int), .int .i64 ((if 6 < k then V 6 else 0 : Nat) : Int), .int .i64 ((if 7 < k then V 7 else 0 : Nat) : Int), .int .i64 ((if 8 < k then V 8 else 0 : Nat) : Int), .int .u64 0, .string ⟨#[]⟩, .int .i64 ((if 4 < k then V 4 else 0 : Nat) : Int), .int .i64 ((if 9 < k then V 9 else 0 : Nat) : Int)]
def wids : List Nat := [2, 2, 3, 5, 2, 6, 10, 9, 3, 7]
def offs : List Nat := [0, 2, 4, 7, 12, 14, 20, 30, 39, 42, 49]
/-- The number in field k of these bytes. -/
def fv (l : List Nat) (k : Nat) : Nat := num (bt l) (offs.getD k 0) (wids.getD k 0)
set_option maxRecDepth 100000 in
theorem read_at (V : Nat → Nat) (h k : Nat) (hk : k < 10) : ∃ o : Nat, (fcells h)[k * 2]? = some (.pointer (some ⟨h, o, none⟩)) ∧ (fcells h)[k * 2 + 1]? = some (.int .i64 ((wids.getD k 0 : Nat) : Int)) ∧ (hdc V k 0)[o]? = some (.int .i64 0) ∧ (hdc V k 0).setIfInBounds o (.int .i64 ((V k : Nat) : Int)) = hdc V (k + 1) 0 ∧
    offs.getD (k + 1) 0 = offs.getD k 0 + wids.getD k 0 ∧ wids.getD k 0 ≤ 10 ∧ offs.getD k 0 + wids.getD k 0 ≤ 49 := by
  rcases (show k = 0 ∨ k = 1 ∨ k = 2 ∨ k = 3 ∨ k = 4 ∨ k = 5 ∨ k = 6 ∨ k = 7 ∨ k = 8 ∨ k = 9 by omega) with rfl | rfl | rfl | rfl | rfl | rfl | rfl | rfl | rfl | rfl
  · exact ⟨0, rfl, rfl, rfl, rfl, rfl, by decide, by decide⟩
  · exact ⟨1, rfl, rfl, rfl, rfl, rfl, by decide, by decide⟩
  · exact ⟨2, rfl, rfl, rfl, rfl, rfl, by decide, by decide⟩
  · exact ⟨3, rfl, rfl, rfl, rfl, rfl, by decide, by decide⟩
  · exact ⟨11, rfl, rfl, rfl, rfl, rfl, by decide, by decide⟩
  · exact ⟨5, rfl, rfl, rfl, rfl, rfl, by decide, by decide⟩
  · exact ⟨6, rfl, rfl, rfl, rfl, rfl, by decide, by decide⟩
  · exact ⟨7, rfl, rfl, rfl, rfl, rfl, by decide, by decide⟩
  · exact ⟨8, rfl, rfl, rfl, rfl, rfl, by decide, by decide⟩
  · exact ⟨12, rfl, rfl, rfl, rfl, rfl, by decide, by decide⟩
set_option maxRecDepth 100000 in
theorem vs_whole {l : List Nat} (h : 8 * l.length ≤ 8192) : vs l ((8 * l.length : Nat) : Int) = true := vs_iff.2 ⟨h, by omega, fun i h1 h2 => absurd h2 (by omega)⟩
section
variable {W w w1 : World} {l : List Nat} {p : Option Addr} {c : Nat} {V : Nat → Nat} {g k : Nat}
end
end Go.Proofs.Ytnpkihioklpnmaa

/- advert: the reader takes a field. -/
namespace Go.Proofs.Ytnpkihioklpnmaa
open Go.RowKit Bs
/-- No field lies there. -/
def tkS (l : List Nat) (a : Nat) (sh : Bool) (k : Nat) : Bool := sh || decide (8 * l.length < a + k)
def tkA (l : List Nat) (a : Nat) (sh : Bool) (k : Nat) : Nat := if tkS l a sh k = true then a else a + k
def tkV (l : List Nat) (a : Nat) (sh : Bool) (k : Nat) : Nat := if tkS l a sh k = true then 0 else num (bt l) a k
set_option maxRecDepth 100000 in
theorem store_at2 {w : World} {b : Nat} {t : TypeId} {x0 x1 x2 x3 : Value} (u : Value) (h : w.heap[b]? = some (.cells #[x0, x1, x2, x3] t (0, 0))) :
    (w.setCell ⟨b, 2, none⟩ u).heap[b]? = some (.cells #[x0, x1, u, x3] t (0, 0)) ∧ w.grownBy (w.setCell ⟨b, 2, none⟩ u) (some b) := by
  refine ⟨?_, grown_setCell w ⟨b, 2, none⟩ u⟩
  have h1 := heap_setCell_same w b 2 _ _ u h
  rw [h1]; rfl
set_option maxRecDepth 100000 in
theorem store_at3 {w : World} {b : Nat} {t : TypeId} {x0 x1 x2 x3 : Value} (u : Value) (h : w.heap[b]? = some (.cells #[x0, x1, x2, x3] t (0, 0))) :
    (w.setCell ⟨b, 3, none⟩ u).heap[b]? = some (.cells #[x0, x1, x2, u] t (0, 0)) ∧ w.grownBy (w.setCell ⟨b, 3, none⟩ u) (some b) := by
  refine ⟨?_, grown_setCell w ⟨b, 3, none⟩ u⟩
  have h1 := heap_setCell_same w b 3 _ _ u h
  rw [h1]; rfl
set_option maxRecDepth 100000 in
theorem row4 {w : World} {b : Nat} {t : TypeId} {x0 x1 x2 x3 : Value} (h : w.heap[b]? = some (.cells #[x0, x1, x2, x3] t (0, 0))) :
    (w.cell? ⟨b, 0, none⟩ = some x0 ∧ w.cell? ⟨b, 1, none⟩ = some x1 ∧ w.cell? ⟨b, 2, none⟩ = some x2 ∧ w.cell? ⟨b, 3, none⟩ = some x3) ∧ w.frozen? ⟨b, 2, none⟩ = false ∧ w.frozen? ⟨b, 3, none⟩ = false := by
  refine ⟨⟨?_, ?_, ?_, ?_⟩, frozen_of_row _ _ _ _ _ h, frozen_of_row _ _ _ _ _ h⟩ <;> (rw [cell_of_row _ _ _ _ _ _ h]; rfl)
set_option maxRecDepth 100000 in
theorem keep3A {w0 w1 w2 : World} {a1 a2 a3 : Addr} {v1 v2 v3 : Value} (h : Hid (w0.grownBy w1 none)) (k : w1.grownBy w2 none) (c1 : w0.cell? a1 = some v1) (c2 : w0.cell? a2 = some v2) (c3 : w0.cell? a3 = some v3) :
    w2.cell? a1 = some v1 ∧ w2.cell? a2 = some v2 ∧ w2.cell? a3 = some v3 ∧ Hid (w0.grownBy w2 none) :=
  have g := grown_trans h.out k
  ⟨g.cell c1 (by simp), g.cell c2 (by simp), g.cell c3 (by simp), Lib.hid g⟩
set_option maxRecDepth 100000 in
theorem hid_drewA (w : World) : Hid (w.grownBy w.drew none) := Lib.hid (grown_drew (grown_refl _ _))
end Go.Proofs.Ytnpkihioklpnmaa

/- packet: Valid. -/
namespace Go.Proofs.Ytnpkihioklpnmaa
open Go.RowKit Bs
def vrows (P : Pk) : List (Int × Int × Int) := [(P.mode, 1, 3), (P.sub, 0, 7), (P.set, 0, 31), (P.ttl, 0, 63), (P.ent, 0, 1023), (P.ing, 0, 256), (P.pro, 0, 7), ((P.pay.size : Int), 0, 64)]
def vcells (P : Pk) : Array Value := #[.int .i64 P.mode, .int .i64 1, .int .i64 3, .int .i64 P.sub, .int .i64 0, .int .i64 7, .int .i64 P.set, .int .i64 0, .int .i64 31, .int .i64 P.ttl, .int .i64 0, .int .i64 63,
  .int .i64 P.ent, .int .i64 0, .int .i64 1023, .int .i64 P.ing, .int .i64 0, .int .i64 256, .int .i64 P.pro, .int .i64 0, .int .i64 7, .int .i64 (P.pay.size : Int), .int .i64 0, .int .i64 64]
set_option maxRecDepth 100000 in
theorem vrow_at (P : Pk) (k : Nat) (hk : k < 8) : ∃ x lo hi : Int, (vcells P)[k * 3]? = some (.int .i64 x) ∧ (vcells P)[k * 3 + 1]? = some (.int .i64 lo) ∧ (vcells P)[k * 3 + 2]? = some (.int .i64 hi) ∧ (vrows P)[k]? = some (x, lo, hi) := by
  rcases (show k = 0 ∨ k = 1 ∨ k = 2 ∨ k = 3 ∨ k = 4 ∨ k = 5 ∨ k = 6 ∨ k = 7 by omega) with rfl | rfl | rfl | rfl | rfl | rfl | rfl | rfl <;> exact ⟨_, _, _, rfl, rfl, rfl, rfl⟩
/-- The first k rows are kept. -/
def Kept (P : Pk) (k : Nat) : Prop := ∀ j x lo hi, j < k → (vrows P)[j]? = some (x, lo, hi) → lo ≤ x ∧ x ≤ hi
set_option maxRecDepth 100000 in
theorem vpk_kept {P : Pk} (h : Kept P 8) : vpk P = vb P.bits P.len := by
  have h0 := h 0 _ _ _ (by decide) rfl
  have h1 := h 1 _ _ _ (by decide) rfl
  have h2 := h 2 _ _ _ (by decide) rfl
  have h3 := h 3 _ _ _ (by decide) rfl
  have h4 := h 4 _ _ _ (by decide) rfl
  have h5 := h 5 _ _ _ (by decide) rfl
  have h6 := h 6 _ _ _ (by decide) rfl
  have h7 := h 7 _ _ _ (by decide) rfl
  unfold vpk
  by_cases hb : vb P.bits P.len = true
  · rw [hb]; exact decide_eq_true ⟨h0, h1, h2, h3, h4, h5, h6, by omega, rfl⟩
  · rw [Bool.not_eq_true] at hb
    rw [hb]; exact decide_eq_false fun h => by cases h.2.2.2.2.2.2.2.2
set_option maxRecDepth 100000 in
theorem vpk_row {P : Pk} (h : vpk P = true) {k : Nat} {x lo hi : Int} (hk : k < 8) (hr : (vrows P)[k]? = some (x, lo, hi)) : lo ≤ x ∧ x ≤ hi := by
  obtain ⟨h0, h1, h2, h3, h4, h5, h6, h7, _⟩ := vpk_parts h
  rcases (show k = 0 ∨ k = 1 ∨ k = 2 ∨ k = 3 ∨ k = 4 ∨ k = 5 ∨ k = 6 ∨ k = 7 by omega) with rfl | rfl | rfl | rfl | rfl | rfl | rfl | rfl <;> cases hr
  · exact h0
  · exact h1
  · exact h2
  · exact h3
  · exact h4
  · exact h5
  · exact h6
  · exact ⟨by omega, by omega⟩
set_option maxRecDepth 100000 in
theorem vpk_not {P : Pk} {k : Nat} {x lo hi : Int} (hk : k < 8) (hr : (vrows P)[k]? = some (x, lo, hi)) (hn : ¬ (lo ≤ x ∧ x ≤ hi)) : vpk P = false := by
  cases h : vpk P with
  | false => rfl
  | true => exact absurd (vpk_row h hk hr) hn
end Go.Proofs.Ytnpkihioklpnmaa

/- packet: a header's value comes back. -/
namespace Go.Proofs.Ytnpkihioklpnmaa
open Go.RowKit Bs
set_option maxRecDepth 100000 in
theorem three_new (w : World) (A B C : Obj) : (((w.alloc A).alloc B).alloc C).heap[w.heap.size]? = some A ∧ (((w.alloc A).alloc B).alloc C).heap[w.heap.size + 1]? = some B ∧ (((w.alloc A).alloc B).alloc C).heap[w.heap.size + 2]? = some C ∧ w.grownBy (((w.alloc A).alloc B).alloc C) none ∧ (((w.alloc A).alloc B).alloc C).heap.size = w.heap.size + 3 := by
  have g1 := World.grownBy_alloc w A none
  have g2 := World.grownBy_alloc (w.alloc A) B none
  have g3 := World.grownBy_alloc ((w.alloc A).alloc B) C none
  have s1 : (w.alloc A).heap.size = w.heap.size + 1 := by simp
  have s2 : ((w.alloc A).alloc B).heap.size = w.heap.size + 2 := by simp
  have h1 := heap_alloc_new w A
  have h2 := heap_alloc_new (w.alloc A) B
  have h3 := heap_alloc_new ((w.alloc A).alloc B) C
  rw [s1] at h2
  rw [s2] at h3
  exact ⟨kept_row (kept_row h1 g2 (by simp)) g3 (by simp), kept_row h2 g3 (by simp), h3, grown_trans g1 (grown_trans g2 g3), by simp⟩
set_option maxRecDepth 100000 in
theorem hput_grown (w : World) (h : Nat) (v0 v1 v2 v3 v4 v5 v6 v7 v8 v9 v10 v11 v12 : Value) : w.grownBy (((((((((((((w.setCell ⟨h, 0, none⟩ v0).setCell ⟨h, 1, none⟩ v1).setCell ⟨h, 2, none⟩ v2).setCell ⟨h, 3, none⟩ v3).setCell ⟨h, 4, none⟩ v4).setCell ⟨h, 5, none⟩ v5).setCell ⟨h, 6, none⟩ v6).setCell ⟨h, 7, none⟩ v7).setCell ⟨h, 8, none⟩ v8).setCell ⟨h, 9, none⟩ v9).setCell ⟨h, 10, none⟩ v10).setCell ⟨h, 11, none⟩ v11).setCell ⟨h, 12, none⟩ v12) (some h) := by
  exact grown_trans (grown_trans (grown_trans (grown_trans (grown_trans (grown_trans (grown_trans (grown_trans (grown_trans (grown_trans (grown_trans (grown_trans (grown_setCell _ ⟨h, 0, none⟩ _) (grown_setCell _ ⟨h, 1, none⟩ _)) (grown_setCell _ ⟨h, 2, none⟩ _)) (grown_setCell _ ⟨h, 3, none⟩ _)) (grown_setCell _ ⟨h, 4, none⟩ _)) (grown_setCell _ ⟨h, 5, none⟩ _)) (grown_setCell _ ⟨h, 6, none⟩ _)) (grown_setCell _ ⟨h, 7, none⟩ _)) (grown_setCell _ ⟨h, 8, none⟩ _)) (grown_setCell _ ⟨h, 9, none⟩ _)) (grown_setCell _ ⟨h, 10, none⟩ _)) (grown_setCell _ ⟨h, 11, none⟩ _)) (grown_setCell _ ⟨h, 12, none⟩ _)
/-- A header's value. -/
def hval (V : Nat → Nat) (n : Int) : Value := .agg (hdc V 10 n)
end Go.Proofs.Ytnpkihioklpnmaa

/- packet: the header of a packet is read. -/
namespace Go.Proofs.Ytnpkihioklpnmaa
open Go.RowKit Bs
end Go.Proofs.Ytnpkihioklpnmaa

/- packet: sizes; the mistakes of a header. -/
namespace Go.Proofs.Ytnpkihioklpnmaa
open Go.RowKit Bs
/-- The first mistake of a header. -/
def misV (V : Nat → Nat) : Int := if V 0 ≠ 2 then 22 else if V 1 = 0 then 1 else if 256 < V 7 ∨ 64 < V 9 then 2 else 0
end Go.Proofs.Ytnpkihioklpnmaa

/- packet: Size and Plane. -/
namespace Go.Proofs.Ytnpkihioklpnmaa
open Go.RowKit Bs
def sizeV (P : Pk) : Nat := if vpk P = true then (49 + P.len.toNat + 8 * P.pay.size + 16 + 7) / 8 else 0
def planeV (P : Pk) : Int := if vpk P = true then P.ent % 8 else 0
set_option maxRecDepth 100000 in
theorem vpk_len {P : Pk} (h : vpk P = true) : P.len = ((P.len.toNat : Nat) : Int) ∧ P.len.toNat ≤ 64 := by
  rcases vl_cases (vb_vl (vpk_parts h).2.2.2.2.2.2.2.2) with h | h | h | h <;> rw [h] <;> decide
end Go.Proofs.Ytnpkihioklpnmaa

/- packet: the reference's Valid, Size, Plane. -/
namespace Go.Proofs.Ytnpkihioklpnmaa
open Go.RowKit Bs
def ins (n m : Int) : Bool := decide (0 ≤ n ∧ n ≤ m)
set_option maxRecDepth 100000 in
theorem vpk_iff (P : Pk) : vpk P = (decide (1 ≤ P.mode) && (decide (P.mode ≤ 3) && (ins P.sub 7 && (ins P.set 31 && (vb P.bits P.len && (ins P.ttl 63 && (ins P.ent 1023 && (ins P.ing 256 && (ins P.pro 7 && decide (P.pay.size ≤ 64)))))))))) := by
  unfold vpk ins
  rw [Bool.eq_iff_iff]
  simp only [decide_eq_true_eq, Bool.and_eq_true]
  constructor
  · rintro ⟨⟨h1, h2⟩, h3, h4, h5, h6, h7, h8, h9, h10⟩
    exact ⟨h1, h2, h3, h4, h10, h5, h6, h7, h8, h9⟩
  · rintro ⟨h1, h2, h3, h4, h10, h5, h6, h7, h8, h9⟩
    exact ⟨⟨h1, h2⟩, h3, h4, h5, h6, h7, h8, h9, h10⟩
end Go.Proofs.Ytnpkihioklpnmaa

/- packet: the reference's Size and Plane. -/
namespace Go.Proofs.Ytnpkihioklpnmaa
open Go.RowKit Bs
end Go.Proofs.Ytnpkihioklpnmaa

/- packet: the header of a packet is written. -/
namespace Go.Proofs.Ytnpkihioklpnmaa
open Go.RowKit Bs
end Go.Proofs.Ytnpkihioklpnmaa

/- Align of the program: the result lies in a block of its own. -/
namespace Go.Proofs.Ytnpkihioklpnmaa
open Go.RowKit Bs
end Go.Proofs.Ytnpkihioklpnmaa

/- packet: Encode. -/
namespace Go.Proofs.Ytnpkihioklpnmaa
open Go.RowKit Bs
set_option maxRecDepth 100000 in
theorem mask_bit {b n i : Nat} (hb : b < 2 ^ 64) (hi : n ≤ i) (hbi : b.testBit i = true) (h : b &&& ((2 ^ (64 - n) - 1) * 2 ^ n) = 0) : False := by
  have hi2 : i < 64 := by
    refine Nat.lt_of_not_le fun h64 => ?_
    rw [Nat.testBit_lt_two_pow (Nat.lt_of_lt_of_le hb (Nat.pow_le_pow_right (by decide) h64))] at hbi
    cases hbi
  have e := congrArg (fun x : Nat => x.testBit i) h
  simp only [Nat.testBit_and, hbi, Nat.zero_testBit, Bool.true_and, Nat.testBit_mul_two_pow, Nat.testBit_two_pow_sub_one] at e
  simp at e
  omega
set_option maxRecDepth 100000 in
theorem vb_lt {b : Nat} {n : Int} (h : vb b n = true) (hb : U64 b) : b < 2 ^ n.toNat := by
  refine Nat.lt_of_not_le fun hge => ?_
  obtain ⟨i, hi, hbi⟩ := Nat.exists_ge_and_testBit_of_ge_two_pow hge
  have hl := vb_vl h
  unfold vb at h
  have hm := (Bool.and_eq_true _ _ ▸ h).2
  have hm := eq_of_beq hm
  rcases vl_cases hl with rfl | rfl | rfl | rfl
  · exact mask_bit hb hi hbi (by rw [full_val.1] at hm; exact hm)
  · exact mask_bit hb hi hbi (by rw [full_val.2.1] at hm; exact hm)
  · exact mask_bit hb hi hbi (by rw [full_val.2.2.1] at hm; exact hm)
  · exact mask_bit hb hi hbi (by rw [full_val.2.2.2] at hm; exact hm)
section
variable {W w w1 : World} {P : Pk} {S n : Nat} {B B2 : List Bool} {p : Option Addr} {c : Nat}
end
/-- What Encode returns: the bytes of a valid packet lie in a block of their own. -/
def EncPost (P : Pk) (w : World) (e : Ending) (w' : World) : Prop :=
  (vpk P = true ∧ ∃ g, e = .returned (.tuple #[.slice (some ⟨g, 0, none⟩) (enc P).length (enc P).length, .int .i64 0]) ∧ Blk w' g (enc P) ∧ w.heap.size ≤ g ∧ w.grownBy w' none) ∨
  (vpk P = false ∧ e = .returned (.tuple #[.slice none 0 0, .int .i64 1]) ∧ w.grownBy w' none)
end Go.Proofs.Ytnpkihioklpnmaa

/- The reference's check number; Same. -/
namespace Go.Proofs.Ytnpkihioklpnmaa
open Go.RowKit Bs
set_option maxRecDepth 100000 in
theorem diff64 {r : Nat} {b : Bool} (hr : r < 65536) : ((r : Int) / 32768 != ((b.toNat : Nat) : Int)) = (r.testBit 15 != b) := by
  have e1 : ((r : Int) / 32768) = (((r.testBit 15).toNat : Nat) : Int) := by rw [← bit15 hr]; omega
  rw [e1, ne_bits]
set_option maxRecDepth 100000 in
theorem shift64 {r : Nat} (hr : r < 65536) : bits .and .u64 ((r : Int) * 2) 65535 = ((2 * r % 65536 : Nat) : Int) := by
  rw [show ((r : Int) * 2) = ((2 * r : Nat) : Int) by omega, show (65535 : Int) = ((2 ^ 16 - 1 : Nat) : Int) from rfl, andU _ _ (u64_mk (by omega)) (u64_mk (by decide)), Nat.and_two_pow_sub_one_eq_mod]
set_option maxRecDepth 100000 in
theorem xor64 {r : Nat} (hr : r < 65536) : bits .xor .u64 (bits .and .u64 ((r : Int) * 2) 65535) 4129 = (((2 * r % 65536) ^^^ 4129 : Nat) : Int) := by
  rw [shift64 hr, show (4129 : Int) = ((4129 : Nat) : Int) from rfl, u64_xor_nat _ _ (by omega) (by decide)]
set_option maxRecDepth 100000 in
set_option maxHeartbeats 3200000 in
theorem checkr_any (l : List Nat) (n : Int) (q : Nat → Prop) (p : Option Addr) (c : Nat) (hl : By l) (w : World) (hq : ∀ b, q b → b < w.heap.size) (hR : Rd w q (.slice p l.length c) (l.map nv)) :
    Calls Try.prog 93 #[.agg #[.slice p l.length c, .int .i64 n]] w fun e w' => CheckPost l n w e w' := by
  obtain ⟨k1, k2⟩ := one_box w #[.slice p l.length c, .int .i64 n] 123
  have H0 := Lib.hid (And.intro k1 k2)
  have hR1 := hR.keep k2
  have hq1 : ∀ b, q b → b < (w.alloc (.cells #[.slice p l.length c, .int .i64 n] 123)).heap.size := fun b hb => Nat.lt_of_lt_of_le (hq b hb) k2.size
  clear k1 k2 hR
  go_enter Try.func93, Try.ntmps93
  go_wp2_with fail
  generalize w.alloc (.cells #[.slice p l.length c, .int .i64 n] 123) = w1 at *
  refine (validr_any l n q p c hl _ hq1 hR1).mono ?_
  rintro e w2 ⟨rfl, hg⟩
  have hrow := kept_row H0.out.1 hg (by simp)
  obtain ⟨c0, c1⟩ := row_cells hrow
  have HG := Lib.hid (grown_trans H0.out.2 hg)
  have hR2 := hR1.keep hg
  clear hrow hg hR1 H0 hq1
  by_cases hv : vs l n = true
  · obtain ⟨N, rfl⟩ := vs_nat hv
    obtain ⟨hN, hlen⟩ := vs_bits hv
    rw [hv]
    have V := Lib.hid (chkV_ok hv)
    have HLEN := Lib.hid hlen
    clear hv hlen
    go_wp2_with fail
    go_loop [4, 5] (fun r i => ∃ j : Nat, j ≤ N ∧ i = .int .i64 (j : Int) ∧ r = .int .u64 ((crcB (bt l) j : Nat) : Int)) (fun _ i => (N - (RowKit.intOf i).toNat))
    case atStart => exact ⟨0, Nat.zero_le _, rfl, rfl⟩
    case round =>
      obtain ⟨j, hj, rfl, rfl⟩ := hrel
      have hrlt := chk_lt (bt l) j
      generalize hrr : crcB (bt l) j = r at *
      have HRR := Lib.hid hrr
      clear hrr
      by_cases hlt : j < N
      · have C := bitr_any l j q p c hl (by have := HLEN.out; omega) (by omega) w2 hR2
        unfold bw at C
        have D := diff64 (b := bt l j) hrlt
        have HC : Hid (crcB (bt l) (j + 1) = stp r (bt l j)) := by
          show crcB (bt l) (j + 1) = _
          rw [crcB, HRR.out]
        have H1 := Lib.hid C
        clear C
        generalize hbb : bt l j = b at *
        clear hbb
        by_cases hd : (r.testBit 15 != b) = true
        · rw [hd] at D
          have S : Hid (bits .xor .u64 (bits .and .u64 ((r : Int) * 2) 65535) 4129 = ((crcB (bt l) (j + 1) : Nat) : Int)) := by
            show _ = _
            rw [HC.out, stp_diff hd, xor64 hrlt]
          generalize b.toNat = bn at *
          go_wp2_with (go_at_call 124; refine H1.out.mono ?_; rintro e w' ⟨rfl, rfl⟩)
          go_round
          case rel => exact ⟨j + 1, by omega, by go_num, by rw [S.out]⟩
          case measure => simp [RowKit.intOf]; omega
        · have hd0 : (r.testBit 15 != b) = false := by simpa using hd
          rw [hd0] at D
          have S : Hid (bits .and .u64 ((r : Int) * 2) 65535 = ((crcB (bt l) (j + 1) : Nat) : Int)) := by
            show _ = _
            rw [HC.out, stp_same hd0, shift64 hrlt]
          clear hd
          generalize b.toNat = bn at *
          go_wp2_with (go_at_call 124; refine H1.out.mono ?_; rintro e w' ⟨rfl, rfl⟩)
          go_round
          case rel => exact ⟨j + 1, by omega, by go_num, by rw [S.out]⟩
          case measure => simp [RowKit.intOf]; omega
      · obtain rfl : j = N := by omega
        go_wp2_with fail
        go_ret2
        exact check_end (by rw [V.out, HRR.out]) HG.out
  · have hv0 : vs l n = false := by simpa using hv
    have V := Lib.hid (chkV_inv hv0)
    rw [hv0]
    go_wp2_with fail
    go_ret2
    exact check_end V.out HG.out
/-- Bytes as a string of the model. -/
def bs (l : List Nat) : ByteArray := ⟨(l.map fun x => UInt8.ofNat x).toArray⟩
set_option maxRecDepth 100000 in
theorem conv_nv {w : World} {q : Nat → Prop} {p : Option Addr} {k c : Nat} {l : List Nat} (hl : By l) (hk : k = l.length) (hR : Rd w q (.slice p k c) (l.map nv)) (hpc : p = none → c = 0) :
    (convert 99 9 (.slice p k c)).run Try.prog w = .ok (.string (bs l)) w := by
  subst hk
  have hmap : ∀ x ∈ l, nv x = .int .u8 (((UInt8.ofNat x).toNat : Nat) : Int) := by
    intro x hx
    have := hl x hx
    unfold nv
    rw [UInt8.toNat_ofNat', Nat.mod_eq_of_lt this]
  cases p with
  | none =>
    obtain rfl := hpc rfl
    obtain rfl : l = [] := by
      obtain ⟨p1, c1, e1, hx⟩ := hR
      injection e1 with a1 a2 a3
      subst a1
      cases l with
      | nil => rfl
      | cons y r => obtain ⟨b, off, hp, _⟩ := hx (by simp); cases hp
    exact Lib.run_convert_nil_bytes (P := Try.prog) w 99 9 5 0 Try.underlying99 Try.underlying5 Try.underlying9
  | some ad =>
    have e : l.length = (l.map fun x => UInt8.ofNat x).length := by simp
    rw [e]
    refine run_convert_bytes_back (P := Try.prog) w 99 9 5 ad c (l.map fun x => UInt8.ofNat x) Try.underlying99 Try.underlying5 Try.underlying9 (fun j hj => ?_)
    have hj' : j < l.length := by simpa using hj
    have := hR.news j (nv (l[j])) (by rw [List.getElem?_map, List.getElem?_eq_getElem hj']; rfl)
    rw [this, hmap _ (List.getElem_mem hj')]
    simp
/-- Whether two streams are one. -/
def same (l : List Nat) (n : Int) (l' : List Nat) (n' : Int) : Bool := n == n' && (bs l).toList == (bs l').toList
set_option maxRecDepth 100000 in
theorem same_self (l : List Nat) (n : Int) : same l n l n = true := by unfold same; simp
end Go.Proofs.Ytnpkihioklpnmaa

/- The reference's Slice. -/
namespace Go.Proofs.Ytnpkihioklpnmaa
open Go.RowKit Bs
set_option maxRecDepth 100000 in
theorem put_val {f : Nat → Bool} {m : Nat} {x : Value} (hx : bw (f m) = x) (l : List Nat) (q : Nat → Prop) (p : Option Addr) (c : Nat) (hm : m ≤ 9000) (hl : l = pz f m ((m + 7) / 8)) (hpc : p = none → c = 0) (w : World) (hR : Rd w q (.slice p l.length c) (l.map nv)) :
    Calls Try.prog 125 #[.agg #[.slice p l.length c, .int .i64 (m : Int)], x] w fun e w' => StreamPost (pz f (m + 1) ((m + 8) / 8)) ((m + 1 : Nat) : Int) w e w' := by
  subst hx
  exact put_any f m l q p c hm hl hpc w hR
set_option maxRecDepth 100000 in
theorem BoxAt.drew {W w' : World} {b r : Nat} {p : Option Addr} {c : Nat} {l : List Nat} {n : Int} (h : BoxAt W b r p c l n w') : BoxAt W b r p c l n w'.drew := h.keep (grown_drew (grown_refl _ _))
end Go.Proofs.Ytnpkihioklpnmaa

/- The reference's Join and Align. -/
namespace Go.Proofs.Ytnpkihioklpnmaa
open Go.RowKit Bs
set_option maxRecDepth 100000 in
theorem pz_valid {l : List Nat} {N : Nat} {f : Nat → Bool} (hl : By l) (hv : vs l (N : Int) = true) (hf : ∀ i, i < N → f i = bt l i) : l = pz f N ((N + 7) / 8) := by
  have e := pz_copy (M := l.length) hl hv (Nat.le_refl _) hf
  rw [List.drop_of_length_le (by simp), List.append_nil, (vs_bits hv).2] at e
  exact e
set_option maxRecDepth 100000 in
set_option maxHeartbeats 3200000 in
theorem alignr_any (l : List Nat) (n : Int) (q : Nat → Prop) (p : Option Addr) (c : Nat) (hl : By l) (hpc : p = none → c = 0) (w : World) (hq : ∀ b, q b → b < w.heap.size) (hR : Rd w q (.slice p l.length c) (l.map nv)) :
    Calls Try.prog 94 #[.agg #[.slice p l.length c, .int .i64 n]] w fun e w' => RPost (alV l n) w e w' := by
  obtain ⟨k1, k2, k3, k4⟩ := two_boxes w #[.slice p l.length c, .int .i64 n] #[.slice none 0 0, .int .i64 0] 123 123
  have hR1 := hR.keep k3
  have H0 := Lib.hid (show BoxAt w w.heap.size (w.heap.size + 1) p c l n _ from ⟨k1, k2, hR1.mono fun x hx => by have := hq x hx; exact ⟨by omega, by omega⟩, hpc, hl, k3⟩)
  have HZ0 := Lib.hid k4
  have hq1 : ∀ b, q b → b < ((w.alloc (.cells #[.slice p l.length c, .int .i64 n] 123)).alloc (.cells #[.slice none 0 0, .int .i64 0] 123)).heap.size := fun b hb => Nat.lt_of_lt_of_le (hq b hb) k3.size
  clear k1 k2 k3 k4 hR
  go_enter Try.func94, Try.ntmps94
  go_wp2_with fail
  generalize (w.alloc (.cells #[.slice p l.length c, .int .i64 n] 123)).alloc (.cells #[.slice none 0 0, .int .i64 0] 123) = w1 at *
  refine (validr_any l n q p c hl _ hq1 hR1).mono ?_
  rintro e w2 ⟨rfl, hg⟩
  have HB := Lib.hid (H0.out.keep hg)
  have HSZ2 : Hid (w.heap.size + 2 ≤ w2.heap.size) := Lib.hid (by rw [← HZ0.out]; exact hg.size)
  clear hg hR1 H0 hq1 HZ0
  obtain ⟨c0, c1, f0, f1, r0, r1, g0, g1⟩ := HB.out.limbs
  by_cases hv : vs l n = true
  · have V := Lib.hid (alV_ok hv)
    obtain ⟨N, rfl⟩ := vs_nat hv
    obtain ⟨hN, hlen⟩ := vs_bits hv
    rw [hv]
    have P0 : Hid (PutsRel (bt l) w w.heap.size (w.heap.size + 1) N 0 w2) := by
      refine Lib.hid ⟨p, c, ?_⟩
      show BoxAt w w.heap.size (w.heap.size + 1) p c (pz (bt l) N ((N + 7) / 8)) (N : Int) w2
      rw [← pz_valid hl hv fun _ _ => rfl]
      exact HB.out
    have HV := Lib.hid hv
    have HL := Lib.hid hlen
    clear hv hlen HB f0 f1 r0 r1 g0 g1 c0 c1
    go_wp2_with fail
    go_loopg [] (8 * l.length - N) (fun g wr => ∃ j : Nat, N + j + g = 8 * l.length ∧ PutsRel (bt l) w w.heap.size (w.heap.size + 1) N j wr ∧ w.heap.size + 2 ≤ wr.heap.size)
    case atStart => exact ⟨0, by have := HL.out; omega, P0.out, HSZ2.out⟩
    case round =>
      obtain ⟨j, hjg, hP, hsz⟩ := hrel
      obtain ⟨p1, c1, l1, HL1, hB1⟩ := hP.open_
      have HZ := Lib.hid hsz
      have HJG := Lib.hid hjg
      obtain ⟨m, hm⟩ : ∃ m : Nat, N + j = m := ⟨_, rfl⟩
      rw [hm] at HL1 hB1
      have HB1 := Lib.hid hB1
      have hm8 : m ≤ 8 * l.length := by omega
      have hll : l.length ≤ 1025 := by have := HL.out; omega
      obtain ⟨b0, b1, f0, f1, r0, r1, g0, g1⟩ := HB1.out.limbs
      clear hP hB1 P0 hsz
      cases gk with
      | zero =>
        have hz8 : (m : Int) % 8 = 0 := by omega
        have hml : m = 8 * l.length := by omega
        have hl1 : l1 = l := by
          rw [HL1.out, hml, show (8 * l.length + 7) / 8 = l.length by omega]
          exact (pz_bt l (8 * l.length) hl fun i h1 h2 => by omega).symm
        have F := Lib.hid (HB1.out.fin (V := alV l (N : Int)) (by rw [V.out, hl1, hml]) (by omega))
        clear HB1 hm hml hl1 hjg
        go_wp2_with fail
        refine bodyPost_ret (res_stream_err rfl _ _ (w.heap.size + 1) _ _ rfl F.out.1) rfl ?_
        exact F.out.2
      | succ g =>
        have hz8 : ¬ ((m : Int) % 8 = 0) := by have := HL.out; omega
        have hfm : bt l m = false := (vs_iff.1 HV.out).2.2 m (by omega) (by omega)
        have C2 := put_val (f := bt l) (m := m) (x := .int .u64 0) (by rw [bw_false hfm]) l1 _ p1 c1 (by omega) HL1.out HB1.out.pc wr HB1.out.rd
        obtain ⟨l3, hl3⟩ : ∃ l3, l3 = pz (bt l) (m + 1) ((m + 8) / 8) := ⟨_, rfl⟩
        rw [← hl3] at C2
        have H2 := Lib.hid C2
        have HL3 := Lib.hid hl3
        have HM := Lib.hid hm
        have hm9 : m ≤ 9000 := by omega
        clear C2 hl3 hm hfm hjg
        go_wp2_with fail
        refine H2.out.mono ?_
        rintro e w3 ⟨p3, c3, rfl, hown3, hg3⟩
        have HB3 := Lib.hid (HB1.out.keep hg3)
        have R := puts_next (f := bt l) (N := N) (j := j) HB3 HM.out HL3.out hown3 (by omega) (by omega) (by have := HZ.out; omega) (by have := HZ.out; omega)
        have R2 : Hid (w.heap.size + 2 ≤ w3.heap.size) := Lib.hid (Nat.le_trans HZ.out hg3.size)
        clear b0 b1 f0 f1 r0 r1 g0 g1
        obtain ⟨b0, b1, f0, f1, r0, r1, g0, g1⟩ := HB3.out.limbs
        clear hown3 hg3 HB1
        go_wp2_with fail
        go_roundg g
        case measure => omega
        case rel => exact ⟨j + 1, by have := HJG.out; omega, R.out, by simpa using R2.out⟩
  · have hv0 : vs l n = false := by simpa using hv
    have V := Lib.hid (alV_inv hv0)
    rw [hv0]
    clear hv
    go_wp2_with fail
    refine bodyPost_ret (res_stream_err rfl _ _ (w.heap.size + 1) _ _ rfl (store2 HB.out.res)) rfl ?_
    exact RPost.err V.out HB.out.gr (by omega)
end Go.Proofs.Ytnpkihioklpnmaa

/- The tape's texts. -/
namespace Go.Proofs.Ytnpkihioklpnmaa
open Go.RowKit Bs
def bval (x : UInt8) : Value := .int .u8 (x.toNat : Int)
set_option maxRecDepth 100000 in
theorem conv_bytes {w : World} {q : Nat → Prop} {v : Value} {l : List UInt8} (hR : Rd w q v (l.map bval)) (h0 : l = [] → v = .slice none 0 0) :
    (convert 99 9 v).run Try.prog w = .ok (.string ⟨l.toArray⟩) w := by
  by_cases hl : l = []
  · rw [h0 hl, hl]
    exact Lib.run_convert_nil_bytes (P := Try.prog) w 99 9 5 0 Try.underlying99 Try.underlying5 Try.underlying9
  · obtain ⟨p, c, rfl, hc⟩ := hR
    obtain ⟨b, off, rfl, _, hcell⟩ := hc (by simpa using hl)
    rw [List.length_map]
    refine run_convert_bytes_back (P := Try.prog) w 99 9 5 ⟨b, off, none⟩ c l Try.underlying99 Try.underlying5 Try.underlying9 (fun j hj => ?_)
    have hadd : (⟨b, off, none⟩ : Addr).add j = ⟨b, off + j, none⟩ := by unfold Addr.add; split <;> simp_all
    rw [hadd]
    exact hcell j _ (by rw [List.getElem?_map, List.getElem?_eq_getElem hj]; rfl)
/-- A drawn text. -/
def TextRel (a most : Nat) (w : World) (v : Value) (k : Nat) (wr : World) : Prop :=
  ∃ l : List UInt8, l.length + k ≤ most ∧ wr.ownsRow w.heap.size 5 1 v l.length (l.map bval) ∧ (l = [] → v = .slice none 0 0) ∧ St a w wr
set_option maxRecDepth 100000 in
theorem TextRel.open_ {a most k : Nat} {w wr : World} {v : Value} (h : TextRel a most w v k wr) : ∃ l : List UInt8, l.length + k ≤ most ∧ wr.ownsRow w.heap.size 5 1 v l.length (l.map bval) ∧ (l = [] → v = .slice none 0 0) ∧ St a w wr := h
def TextPost (a most : Nat) (w : World) (e : Ending) (w' : World) : Prop := ∃ s : ByteArray, e = .returned (.string s) ∧ s.size ≤ most ∧ St a w w'
end Go.Proofs.Ytnpkihioklpnmaa

/- packet: a packet's block. -/
namespace Go.Proofs.Ytnpkihioklpnmaa
open Go.RowKit Bs
def zpk : Array Value := #[.int .i64 0, .int .i64 0, .int .i64 0, .int .i64 0, .int .i64 0, .int .i64 0, .int .i64 0, .int .i64 0, .int .u64 0, .string ⟨#[]⟩]
set_option maxRecDepth 100000 in
theorem pput_grown (w : World) (h : Nat) (v0 v1 v2 v3 v4 v5 v6 v7 v8 v9 : Value) : w.grownBy ((((((((((w.setCell ⟨h, 0, none⟩ v0).setCell ⟨h, 1, none⟩ v1).setCell ⟨h, 2, none⟩ v2).setCell ⟨h, 3, none⟩ v3).setCell ⟨h, 4, none⟩ v4).setCell ⟨h, 5, none⟩ v5).setCell ⟨h, 6, none⟩ v6).setCell ⟨h, 7, none⟩ v7).setCell ⟨h, 8, none⟩ v8).setCell ⟨h, 9, none⟩ v9) (some h) := by
  exact grown_trans (grown_trans (grown_trans (grown_trans (grown_trans (grown_trans (grown_trans (grown_trans (grown_trans (grown_setCell _ ⟨h, 0, none⟩ _) (grown_setCell _ ⟨h, 1, none⟩ _)) (grown_setCell _ ⟨h, 2, none⟩ _)) (grown_setCell _ ⟨h, 3, none⟩ _)) (grown_setCell _ ⟨h, 4, none⟩ _)) (grown_setCell _ ⟨h, 5, none⟩ _)) (grown_setCell _ ⟨h, 6, none⟩ _)) (grown_setCell _ ⟨h, 7, none⟩ _)) (grown_setCell _ ⟨h, 8, none⟩ _)) (grown_setCell _ ⟨h, 9, none⟩ _)
/-- The packet of a header, with these bits and this payload. -/
def rcells (V : Nat → Nat) (n : Int) (b : Nat) (s : ByteArray) : Array Value := #[.int .i64 (V 1 : Int), .int .i64 (V 2 : Int), .int .i64 (V 3 : Int), .int .i64 n, .int .i64 (V 5 : Int), .int .i64 (V 6 : Int), .int .i64 (V 7 : Int), .int .i64 (V 8 : Int), .int .u64 (b : Int), .string s]
set_option maxRecDepth 100000 in
theorem four_new (w : World) (A B C D : Obj) : ((((w.alloc A).alloc B).alloc C).alloc D).heap[w.heap.size]? = some A ∧ ((((w.alloc A).alloc B).alloc C).alloc D).heap[w.heap.size + 1]? = some B ∧ ((((w.alloc A).alloc B).alloc C).alloc D).heap[w.heap.size + 2]? = some C ∧ ((((w.alloc A).alloc B).alloc C).alloc D).heap[w.heap.size + 3]? = some D ∧
    w.grownBy ((((w.alloc A).alloc B).alloc C).alloc D) none ∧ ((((w.alloc A).alloc B).alloc C).alloc D).heap.size = w.heap.size + 4 := by
  obtain ⟨h1, h2, h3, g, s⟩ := three_new w A B C
  have g4 := World.grownBy_alloc (((w.alloc A).alloc B).alloc C) D none
  have h4 := heap_alloc_new (((w.alloc A).alloc B).alloc C) D
  rw [s] at h4
  exact ⟨kept_row h1 g4 (by simp), kept_row h2 g4 (by simp), kept_row h3 g4 (by simp), h4, grown_trans g g4, by simp⟩
end Go.Proofs.Ytnpkihioklpnmaa

/- The reference's functions on bits: Count, Nth, First, Rank, Spread, Gather. -/
namespace Go.Proofs.Ytnpkihioklpnmaa
open Go.RowKit Bs

/-- The call returned v and made memory alone. -/
def Nw (v : Value) (w : World) (e : Ending) (w' : World) : Prop := e = .returned v ∧ w.grownBy w' none
set_option maxRecDepth 100000 in
theorem Rd.form {w : World} {q : Nat → Prop} {v : Value} {vs : List Value} {n : Nat} (h : Rd w q v vs) (hn : vs.length = n) : ∃ p c, v = .slice p n c := by
  obtain ⟨p, c, hv, _⟩ := h
  exact ⟨p, c, by rw [hv, hn]⟩
set_option maxRecDepth 100000 in
theorem Rd.at1_ {w : World} {q : Nat → Prop} {p : Option Addr} {n c : Nat} {vs : List Value} {i : Nat} {x : Value} (h : Rd w q (.slice p n c) vs) (hi : vs[i]? = some x) :
    ∃ b off, p = some ⟨b, off, none⟩ ∧ w.cell? ⟨b, off + i, none⟩ = some x := by
  obtain ⟨p', c', hv, hc⟩ := h
  injection hv with e1 e2 e3
  subst e1
  obtain ⟨b, off, hp, _, hx⟩ := hc (by intro e; rw [e] at hi; simp at hi)
  exact ⟨b, off, hp, hx i x hi⟩
set_option maxRecDepth 100000 in
theorem bl_map_len (b : Nat) : ((bl b).map ival).length = cnt b := by rw [List.length_map]; rfl
set_option maxRecDepth 100000 in
theorem bl_map_at {b i k : Nat} (h : (bl b)[i]? = some k) : ((bl b).map ival)[i]? = some (.int .i64 (k : Int)) := by rw [List.getElem?_map, h]; rfl
set_option maxRecDepth 100000 in
theorem bl_at {b i : Nat} (h : i < cnt b) : ∃ k, (bl b)[i]? = some k ∧ k < 64 := by
  have h' : i < (bl b).length := h
  exact ⟨(bl b)[i], List.getElem?_eq_getElem h', bl_lt (List.getElem_mem h')⟩

set_option maxRecDepth 100000 in
theorem nth_zero (b : Nat) (hb : U64 b) : nth b 0 = fst b := by
  by_cases h0 : b = 0
  · subst h0; decide +kernel
  · rw [fst_pos h0]; exact nth_at (bl_head h0 hb.lt)
set_option maxRecDepth 100000 in
theorem rk_step_t {b j : Nat} (h : b.testBit j = true) : (blN (j + 1) b).length = (blN j b).length + 1 := by rw [bl_snoc_t h]; simp
def rkN (j b : Nat) : Nat := (blN j b).length
set_option maxRecDepth 100000 in
theorem rkN_le (j b : Nat) : rkN j b ≤ j := blN_length_le j b
set_option maxRecDepth 100000 in
theorem rkN_t {b j : Nat} (h : b.testBit j = true) : rkN (j + 1) b = rkN j b + 1 := rk_step_t h
set_option maxRecDepth 100000 in
theorem rkN_f {b j : Nat} (h : b.testBit j = false) : rkN (j + 1) b = rkN j b := by unfold rkN; rw [bl_snoc_f h]
set_option maxRecDepth 100000 in
theorem put_t (k : Nat) : put true k = b2 k := rfl
set_option maxRecDepth 100000 in
theorem put_f (k : Nat) : put false k = 0 := rfl
set_option maxRecDepth 100000 in
theorem spr_hit {x b j k : Nat} (hk : (bl b)[j]? = some k) (ht : x.testBit j = true) (h64 : k < 64) :
    bits .or .u64 ((spr x (bl b) j : Nat) : Int) ((b2 k : Nat) : Int) = ((spr x (bl b) (j + 1) : Nat) : Int) := by
  rw [orU _ _ (spr_u64 x b j) (b2_u64 h64), spr_next hk, ht]; rfl
set_option maxRecDepth 100000 in
theorem spr_miss {x j : Nat} {l : List Nat} (ht : x.testBit j = false) : spr x l (j + 1) = spr x l j := by
  rw [spr, ht, put_f]; simp
set_option maxRecDepth 100000 in
theorem gat_hit {x b j k : Nat} (hk : (bl b)[j]? = some k) (ht : x.testBit k = true) (h64 : j < 64) :
    bits .or .u64 ((gat x (bl b) j : Nat) : Int) ((b2 j : Nat) : Int) = ((gat x (bl b) (j + 1) : Nat) : Int) := by
  rw [orU _ _ (gat_u64 x _ j (by omega)) (b2_u64 h64), gat_next hk, ht]; rfl
set_option maxRecDepth 100000 in
theorem gat_miss {x j k : Nat} {l : List Nat} (hk : l[j]? = some k) (ht : x.testBit k = false) : gat x l (j + 1) = gat x l j := by
  rw [gat_next hk, ht, put_f]; simp
end Go.Proofs.Ytnpkihioklpnmaa

/- The tape's bit strings. -/
namespace Go.Proofs.Ytnpkihioklpnmaa
open Go.RowKit Bs

set_option maxRecDepth 100000 in
theorem vb_full {n : Int} (h : vl n = true) (z : Nat) : vb (z &&& full n) n = true := by
  unfold vb
  rw [h, and_compl z (full_u64 n)]; rfl
/-- A bit string drawn for a length. -/
def BitsPost (n : Int) (a : Nat) (w : World) (e : Ending) (w' : World) : Prop := ∃ x : Nat, e = .returned (.int .u64 (x : Int)) ∧ U64 x ∧ vb x n = true ∧ St a w w'
set_option maxRecDepth 100000 in
theorem bits_end {n : Int} (h : vl n = true) (z : Nat) (hz : U64 z) : ∃ x : Nat, bits .and .u64 (z : Int) ((full n : Nat) : Int) = (x : Int) ∧ U64 x ∧ vb x n = true :=
  ⟨z &&& full n, andU z _ hz (full_u64 n), u64_and_le z _ hz, vb_full h z⟩
set_option maxRecDepth 100000 in
theorem all_ones : (18446744073709551615 : Int) = ((lo 64 : Nat) : Int) := by decide +kernel
end Go.Proofs.Ytnpkihioklpnmaa

/- The tape's packets. -/
namespace Go.Proofs.Ytnpkihioklpnmaa
open Go.RowKit Bs
/-- A drawn packet with no mistake is valid. -/
def PacketPost (a : Nat) (w : World) (e : Ending) (w' : World) : Prop := ∃ P : Pk, e = .returned P.val ∧ P.Wf ∧ vpk P = true ∧ St a w w'
set_option maxRecDepth 100000 in
theorem tp_store {w1 w2 : World} {a b : Nat} (h : Tp w1 a) (k : w1.grownBy w2 (some b)) (hb : a < b) : Tp w2 a := tp_new2 h k hb
set_option maxRecDepth 100000 in
theorem St.store {a b : Nat} {W w w1 : World} (h : St a W w) (k : w.grownBy w1 (some b)) (hb : W.heap.size ≤ b) (ha : a < W.heap.size) : St a W w1 :=
  ⟨⟨k.os.trans h.1.os, k.tape.trans h.1.tape, k.output.trans h.1.output, Nat.le_trans h.1.size k.size, fun i hi hia => (k.block i (Nat.lt_of_lt_of_le hi h.1.size) (fun e => by have := Option.some.inj e; omega)).trans (h.1.block i hi hia)⟩, by
    exact tp_store h.2 k (by omega)⟩
set_option maxRecDepth 100000 in
theorem i64_small {x : Int} (h1 : -2000 ≤ x) (h2 : x ≤ 2000) : I64 x := by unfold I64; omega
end Go.Proofs.Ytnpkihioklpnmaa

/- The tape's packets, also with a mistake. -/
namespace Go.Proofs.Ytnpkihioklpnmaa
open Go.RowKit Bs
def AnyPacketPost (a : Nat) (w : World) (e : Ending) (w' : World) : Prop := ∃ P : Pk, e = .returned P.val ∧ P.Wf ∧ P.pay.size ≤ 100 ∧ St a w w'
section
variable {a B : Nat} {W w w1 : World} {P P' : Pk}
end
/-- How much the payload lacks. -/
def payLeft (w : World) (B : Nat) : Nat := match w.cell? ⟨B, 9, none⟩ with | some (.string s) => 62 - s.size | _ => 0
end Go.Proofs.Ytnpkihioklpnmaa

/- Streams as lists of bits; the encoding of a packet as a list of bits. -/
import Derived.Test.YtnfgkakhdgiepaaDoorIoAlign
import Derived.Test.YtnfgkakhdgiepaaDoorIoCheck
import Derived.Test.YtnfgkakhdgiepaaDoorFull
namespace Go.Proofs.YtnfgkakhdgiepaaDoor
open Go.RowKit Bs
/-- The k lowest bits of v, the highest first. -/
def nb (v k : Nat) : List Bool := (List.range k).map fun t => v.testBit (k - 1 - t)
def bf (B : List Bool) (i : Nat) : Bool := B.getD i false
/-- The bytes of these bits. -/
def pk (B : List Bool) : List Nat := pz (bf B) B.length ((B.length + 7) / 8)
set_option maxRecDepth 100000 in
theorem nb_len (v k : Nat) : (nb v k).length = k := by unfold nb; simp
set_option maxRecDepth 100000 in
theorem pk_len (B : List Bool) : (pk B).length = (B.length + 7) / 8 := pz_len _ _ _
set_option maxRecDepth 100000 in
theorem bf_nb (v k i : Nat) (h : i < k) : bf (nb v k) i = v.testBit (k - 1 - i) := by
  unfold bf nb
  rw [List.getD_eq_getElem?_getD, List.getElem?_map, List.getElem?_range h]; rfl
set_option maxRecDepth 100000 in
theorem bf_left (A B : List Bool) (i : Nat) (h : i < A.length) : bf (A ++ B) i = bf A i := by
  unfold bf
  rw [List.getD_eq_getElem?_getD, List.getD_eq_getElem?_getD, List.getElem?_append_left h]
set_option maxRecDepth 100000 in
theorem bf_right (A B : List Bool) (i : Nat) : bf (A ++ B) (A.length + i) = bf B i := by
  unfold bf
  rw [List.getD_eq_getElem?_getD, List.getD_eq_getElem?_getD, List.getElem?_append_right (by omega), Nat.add_sub_cancel_left]
set_option maxRecDepth 100000 in
theorem bf_out (B : List Bool) (i : Nat) (h : B.length ≤ i) : bf B i = false := by
  unfold bf
  rw [List.getD_eq_getElem?_getD, List.getElem?_eq_none h]; rfl
set_option maxRecDepth 100000 in
theorem bt_pk (B : List Bool) (i : Nat) (h : i < 8 * ((B.length + 7) / 8)) : bt (pk B) i = bf B i := by
  unfold pk
  rw [bt_pz _ _ _ _ h]
  by_cases hi : i < B.length
  · simp [hi]
  · simp [hi, bf_out B i (by omega)]
set_option maxRecDepth 100000 in
theorem pk_vs (B : List Bool) (h : B.length ≤ 8192) : vs (pk B) (B.length : Int) = true := by
  refine vs_iff.2 ⟨h, pk_len _, fun i hi hn => ?_⟩
  rw [pk_len] at hi
  rw [bt_pk _ _ hi]
  exact bf_out B i hn
set_option maxRecDepth 100000 in
theorem pk_by (B : List Bool) : By (pk B) := pz_lt _ _ _
set_option maxRecDepth 100000 in
theorem apV_pk (B : List Bool) (v k : Nat) (hk : k ≤ 64) (hv : v < 2 ^ k) (h : B.length + k ≤ 8192) : apV (pk B) (B.length : Int) v (k : Int) = (pk (B ++ nb v k), ((B ++ nb v k).length : Int), 0) := by
  have e : (B ++ nb v k).length = B.length + k := by rw [List.length_append, nb_len]
  rw [apV_ok (pk_vs B (by omega)) (by unfold vw; simp; omega) (Nat.not_le.2 hv) (by omega)]
  unfold pk
  rw [e]
  refine congrArg (fun x => (x, _)) (pz_congr fun i hi => ?_)
  by_cases hl : i < B.length + k
  · simp only [hl, decide_true, Bool.true_and]
    unfold apf
    by_cases hb : i < B.length
    · rw [if_pos hb, bf_left _ _ _ hb]
      have := bt_pk B i (by omega)
      unfold pk at this
      exact this
    · obtain ⟨t, rfl⟩ : ∃ t, i = B.length + t := ⟨i - B.length, by omega⟩
      rw [if_neg hb, bf_right, bf_nb _ _ _ (by omega), Nat.add_sub_cancel_left]
  · simp [hl]
set_option maxRecDepth 100000 in
theorem jnV_pk (A B : List Bool) (h : A.length + B.length ≤ 8192) : jnV (pk A) (A.length : Int) (pk B) (B.length : Int) = (pk (A ++ B), ((A ++ B).length : Int), 0) := by
  have e : (A ++ B).length = A.length + B.length := List.length_append
  rw [jnV_ok (pk_vs A (by omega)) (pk_vs B (by omega)) e.symm (by omega)]
  unfold pk
  rw [e]
  refine congrArg (fun x => (x, _)) (pz_congr fun i hi => ?_)
  by_cases hl : i < A.length + B.length
  · simp only [hl, decide_true, Bool.true_and]
    unfold jnf
    by_cases hb : i < A.length
    · rw [if_pos hb, bf_left _ _ _ hb]
      have := bt_pk A i (by omega)
      unfold pk at this
      exact this
    · obtain ⟨t, rfl⟩ : ∃ t, i = A.length + t := ⟨i - A.length, by omega⟩
      rw [if_neg hb, bf_right, Nat.add_sub_cancel_left]
      have := bt_pk B t (by omega)
      unfold pk at this
      exact this
  · simp [hl]
/-- The bits of bytes. -/
def pb (l : List Nat) : List Bool := (List.range (8 * l.length)).map (bt l)
set_option maxRecDepth 100000 in
theorem pb_len (l : List Nat) : (pb l).length = 8 * l.length := by unfold pb; simp
set_option maxRecDepth 100000 in
theorem bf_pb (l : List Nat) (i : Nat) (h : i < 8 * l.length) : bf (pb l) i = bt l i := by
  unfold bf pb
  rw [List.getD_eq_getElem?_getD, List.getElem?_map, List.getElem?_range h]; rfl
set_option maxRecDepth 100000 in
theorem pk_pb (l : List Nat) (h : By l) : pk (pb l) = l := by
  have e := pz_bt l (8 * l.length) h fun i h1 h2 => absurd h2 (by omega)
  refine Eq.trans ?_ e.symm
  unfold pk
  rw [pb_len, show (8 * l.length + 7) / 8 = l.length by omega]
  refine pz_congr fun i hi => ?_
  simp only [hi, decide_true, Bool.true_and]
  exact bf_pb l i hi
set_option maxRecDepth 100000 in
theorem alV_pk (B : List Bool) (h : B.length ≤ 8192) : alV (pk B) (B.length : Int) = (pk B, ((8 * (pk B).length : Nat) : Int), 0) := alV_ok (pk_vs B h)
/-- A packet's parts. -/
structure Pk where
  mode : Int
  sub : Int
  set : Int
  len : Int
  ttl : Int
  ent : Int
  ing : Int
  pro : Int
  bits : Nat
  pay : ByteArray
def Pk.val (P : Pk) : Value := .agg #[.int .i64 P.mode, .int .i64 P.sub, .int .i64 P.set, .int .i64 P.len, .int .i64 P.ttl, .int .i64 P.ent, .int .i64 P.ing, .int .i64 P.pro, .int .u64 (P.bits : Int), .string P.pay]
structure Pk.Wf (P : Pk) : Prop where
  mode : I64 P.mode
  sub : I64 P.sub
  set : I64 P.set
  len : I64 P.len
  ttl : I64 P.ttl
  ent : I64 P.ent
  ing : I64 P.ing
  pro : I64 P.pro
  bits : U64 P.bits
  pay : P.pay.size ≤ maxLen
/-- Is it valid? -/
def vpk (P : Pk) : Bool := decide ((1 ≤ P.mode ∧ P.mode ≤ 3) ∧ (0 ≤ P.sub ∧ P.sub ≤ 7) ∧ (0 ≤ P.set ∧ P.set ≤ 31) ∧ (0 ≤ P.ttl ∧ P.ttl ≤ 63) ∧ (0 ≤ P.ent ∧ P.ent ≤ 1023) ∧ (0 ≤ P.ing ∧ P.ing ≤ 256) ∧ (0 ≤ P.pro ∧ P.pro ≤ 7) ∧ P.pay.size ≤ 64 ∧ vb P.bits P.len = true)
/-- The code of the length. -/
def lcode (n : Int) : Nat := if n = 8 then 0 else if n = 16 then 1 else if n = 32 then 2 else 3
/-- The numbers of the header, with their widths. -/
def fl (P : Pk) : List (Nat × Nat) := [(2, 2), (P.mode.toNat, 2), (P.sub.toNat, 3), (P.set.toNat, 5), (lcode P.len, 2), (P.ttl.toNat, 6), (P.ent.toNat, 10), (P.ing.toNat, 9), (P.pro.toNat, 3), (P.pay.size, 7)]
def flb (f : List (Nat × Nat)) : List Bool := f.flatMap fun x => nb x.1 x.2
def byl (s : ByteArray) : List Nat := s.data.toList.map fun b => b.toNat
def body (P : Pk) : List Bool := flb (fl P) ++ nb P.bits P.len.toNat ++ pb (byl P.pay)
def ck (B : List Bool) : Nat := chk (bf B) B.length
def enc (P : Pk) : List Nat := pk (body P ++ nb (ck (body P)) 16)
set_option maxRecDepth 100000 in
theorem flb_len (f : List (Nat × Nat)) : (flb f).length = (f.map (·.2)).sum := by
  induction f with
  | nil => rfl
  | cons x r ih =>
    unfold flb at *
    rw [List.flatMap_cons, List.length_append, ih, nb_len]; rfl
set_option maxRecDepth 100000 in
theorem byl_len (s : ByteArray) : (byl s).length = s.size := by unfold byl; rw [List.length_map, Array.length_toList]; rfl
set_option maxRecDepth 100000 in
theorem byl_by (s : ByteArray) : By (byl s) := fun x hx => by
  unfold byl at hx
  obtain ⟨b, _, rfl⟩ := List.mem_map.1 hx
  exact b.toNat_lt
set_option maxRecDepth 100000 in
theorem hdr_len (P : Pk) : (flb (fl P)).length = 49 := by rw [flb_len]; rfl
set_option maxRecDepth 100000 in
theorem body_len (P : Pk) : (body P).length = 49 + P.len.toNat + 8 * P.pay.size := by
  unfold body
  rw [List.length_append, List.length_append, hdr_len, nb_len, pb_len, byl_len]
end Go.Proofs.YtnfgkakhdgiepaaDoor

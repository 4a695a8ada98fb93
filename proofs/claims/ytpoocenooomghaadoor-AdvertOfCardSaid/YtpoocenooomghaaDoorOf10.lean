/- Parts of the proof, packed: Full, PkBits, PkFields, Funs, PkHead, PkCalls, AdPut, PkRd, AdTake, PkValid, PkRes, PkRead, PkMis, PkSize, PkRefs, PkRefs2, PkWrite, PkAlign, PkEncode, IoCheckR. -/
import Derived.Test.YtpoocenooomghaaDoorOf1
import Derived.Test.YtpoocenooomghaaDoorOf9
import Derived.Deep.LoopGhost
import Derived.Test.YtpoocenooomghaaDoorOf2
import Derived.OwnWalk
import Derived.Lib.ConvBytes
import Derived.Test.YtpoocenooomghaaDoorOf8
import Derived.Deep.CutRange
import Derived.Deep.RegionHeld3
import Derived.Lib.BufferRead
/- Full, Valid, Count, First, Rank of the program; Full, Valid of the reference. -/
namespace Go.Proofs.YtpoocenooomghaaDoor
open Go.RowKit Bs

/-- All bits below a valid length. -/
def full (n : Int) : Nat := if vl n then lo n.toNat else 0
set_option maxRecDepth 100000 in
theorem full_val : full 8 = 255 ∧ full 16 = 65535 ∧ full 32 = 4294967295 ∧ full 64 = 18446744073709551615 := by decide +kernel
set_option maxRecDepth 100000 in
theorem full_false {n : Int} (h : vl n = false) : full n = 0 := by unfold full; rw [h]; rfl
set_option maxRecDepth 100000 in
theorem full_true {n : Int} (h : vl n = true) : full n = lo n.toNat := by unfold full; rw [h]; rfl
set_option maxRecDepth 100000 in
theorem full_u64 (n : Int) : U64 (full n) := by
  by_cases h : vl n = true
  · rcases vl_cases h with rfl | rfl | rfl | rfl <;> (unfold U64; decide +kernel)
  · rw [full_false (by simpa using h)]; unfold U64; decide
/-- Is the bit string valid for the length? -/
def vb (b : Nat) (n : Int) : Bool := vl n && b &&& (18446744073709551615 - full n) == 0
/-- The lowest bit, -1 if there is none. -/
def fst (b : Nat) : Int := if b = 0 then -1 else ((Lib.ctz 64 b : Nat) : Int)
set_option maxRecDepth 100000 in
set_option maxHeartbeats 400000 in
theorem firstp_any (b : Nat) (hb : U64 b) (w : World) (hT : Tb w) :
    Calls Tryd.prog 83 #[.int .u64 (b : Int)] w fun e w' => e = .returned (.int .i64 (fst b)) ∧ w = w' := by
  by_cases h0 : b = 0
  · subst h0
    go_enter Tryd.func83, Tryd.ntmps83
    go_wp2
    go_ret
    exact ⟨rfl, rfl⟩
  · have hz : ((b : Int) == 0) = false := by simp; omega
    have F : Hid (fst b = ((Lib.ctz 64 b : Nat) : Int)) := by show fst b = _; unfold fst; rw [if_neg h0]
    clear h0
    go_enter Tryd.func83, Tryd.ntmps83
    go_wp2_with (go_at_call 109; refine (tz_any _ hb _ hT).mono ?_; rintro e w' ⟨rfl, rfl⟩)
    go_ret
    exact ⟨ret_int (by rw [F.out]), rfl⟩
end Go.Proofs.YtpoocenooomghaaDoor

/- Streams as lists of bits; the encoding of a packet as a list of bits. -/
namespace Go.Proofs.YtpoocenooomghaaDoor
open Go.RowKit Bs
/-- The k lowest bits of v, the highest first. -/
def nb (v k : Nat) : List Bool := (List.range k).map fun t => v.testBit (k - 1 - t)
def bf (B : List Bool) (i : Nat) : Bool := B.getD i false
/-- The bytes of these bits. -/
def pk (B : List Bool) : List Nat := pz (bf B) B.length ((B.length + 7) / 8)
set_option maxRecDepth 100000 in
theorem nb_len (v k : Nat) : (nb v k).length = k := by unfold nb; simp
set_option maxRecDepth 100000 in
theorem pk_len (B : List Bool) : (pk B).length = (B.length + 7) / 8 := pz_len _ _ _
set_option maxRecDepth 100000 in
theorem bf_nb (v k i : Nat) (h : i < k) : bf (nb v k) i = v.testBit (k - 1 - i) := by
  unfold bf nb
  rw [List.getD_eq_getElem?_getD, List.getElem?_map, List.getElem?_range h]; rfl
set_option maxRecDepth 100000 in
theorem bf_left (A B : List Bool) (i : Nat) (h : i < A.length) : bf (A ++ B) i = bf A i := by
  unfold bf
  rw [List.getD_eq_getElem?_getD, List.getD_eq_getElem?_getD, List.getElem?_append_left h]
set_option maxRecDepth 100000 in
theorem bf_right (A B : List Bool) (i : Nat) : bf (A ++ B) (A.length + i) = bf B i := by
  unfold bf
  rw [List.getD_eq_getElem?_getD, List.getD_eq_getElem?_getD, List.getElem?_append_right (by omega), Nat.add_sub_cancel_left]
set_option maxRecDepth 100000 in
theorem bf_out (B : List Bool) (i : Nat) (h : B.length ≤ i) : bf B i = false := by
  unfold bf
  rw [List.getD_eq_getElem?_getD, List.getElem?_eq_none h]; rfl
set_option maxRecDepth 100000 in
theorem bt_pk (B : List Bool) (i : Nat) (h : i < 8 * ((B.length + 7) / 8)) : bt (pk B) i = bf B i := by
  unfold pk
  rw [bt_pz _ _ _ _ h]
  by_cases hi : i < B.length
  · simp [hi]
  · simp [hi, bf_out B i (by omega)]
set_option maxRecDepth 100000 in
theorem pk_vs (B : List Bool) (h : B.length ≤ 8192) : vs (pk B) (B.length : Int) = true := by
  refine vs_iff.2 ⟨h, pk_len _, fun i hi hn => ?_⟩
  rw [pk_len] at hi
  rw [bt_pk _ _ hi]
  exact bf_out B i hn
set_option maxRecDepth 100000 in
theorem pk_by (B : List Bool) : By (pk B) := pz_lt _ _ _
set_option maxRecDepth 100000 in
theorem apV_pk (B : List Bool) (v k : Nat) (hk : k ≤ 64) (hv : v < 2 ^ k) (h : B.length + k ≤ 8192) : apV (pk B) (B.length : Int) v (k : Int) = (pk (B ++ nb v k), ((B ++ nb v k).length : Int), 0) := by
  have e : (B ++ nb v k).length = B.length + k := by rw [List.length_append, nb_len]
  rw [apV_ok (pk_vs B (by omega)) (by unfold vw; simp; omega) (Nat.not_le.2 hv) (by omega)]
  unfold pk
  rw [e]
  refine congrArg (fun x => (x, _)) (pz_congr fun i hi => ?_)
  by_cases hl : i < B.length + k
  · simp only [hl, decide_true, Bool.true_and]
    unfold apf
    by_cases hb : i < B.length
    · rw [if_pos hb, bf_left _ _ _ hb]
      have := bt_pk B i (by omega)
      unfold pk at this
      exact this
    · obtain ⟨t, rfl⟩ : ∃ t, i = B.length + t := ⟨i - B.length, by omega⟩
      rw [if_neg hb, bf_right, bf_nb _ _ _ (by omega), Nat.add_sub_cancel_left]
  · simp [hl]
set_option maxRecDepth 100000 in
theorem jnV_pk (A B : List Bool) (h : A.length + B.length ≤ 8192) : jnV (pk A) (A.length : Int) (pk B) (B.length : Int) = (pk (A ++ B), ((A ++ B).length : Int), 0) := by
  have e : (A ++ B).length = A.length + B.length := List.length_append
  rw [jnV_ok (pk_vs A (by omega)) (pk_vs B (by omega)) e.symm (by omega)]
  unfold pk
  rw [e]
  refine congrArg (fun x => (x, _)) (pz_congr fun i hi => ?_)
  by_cases hl : i < A.length + B.length
  · simp only [hl, decide_true, Bool.true_and]
    unfold jnf
    by_cases hb : i < A.length
    · rw [if_pos hb, bf_left _ _ _ hb]
      have := bt_pk A i (by omega)
      unfold pk at this
      exact this
    · obtain ⟨t, rfl⟩ : ∃ t, i = A.length + t := ⟨i - A.length, by omega⟩
      rw [if_neg hb, bf_right, Nat.add_sub_cancel_left]
      have := bt_pk B t (by omega)
      unfold pk at this
      exact this
  · simp [hl]
/-- The bits of bytes. -/
def pb (l : List Nat) : List Bool := (List.range (8 * l.length)).map (bt l)
set_option maxRecDepth 100000 in
theorem pb_len (l : List Nat) : (pb l).length = 8 * l.length := by unfold pb; simp
set_option maxRecDepth 100000 in
theorem bf_pb (l : List Nat) (i : Nat) (h : i < 8 * l.length) : bf (pb l) i = bt l i := by
  unfold bf pb
  rw [List.getD_eq_getElem?_getD, List.getElem?_map, List.getElem?_range h]; rfl
set_option maxRecDepth 100000 in
theorem pk_pb (l : List Nat) (h : By l) : pk (pb l) = l := by
  have e := pz_bt l (8 * l.length) h fun i h1 h2 => absurd h2 (by omega)
  refine Eq.trans ?_ e.symm
  unfold pk
  rw [pb_len, show (8 * l.length + 7) / 8 = l.length by omega]
  refine pz_congr fun i hi => ?_
  simp only [hi, decide_true, Bool.true_and]
  exact bf_pb l i hi
set_option maxRecDepth 100000 in
theorem alV_pk (B : List Bool) (h : B.length ≤ 8192) : alV (pk B) (B.length : Int) = (pk B, ((8 * (pk B).length : Nat) : Int), 0) := alV_ok (pk_vs B h)
/-- A packet's parts. -/
structure Pk where
  mode : Int
  sub : Int
  set : Int
  len : Int
  ttl : Int
  ent : Int
  ing : Int
  pro : Int
  bits : Nat
  pay : ByteArray
def Pk.val (P : Pk) : Value := .agg #[.int .i64 P.mode, .int .i64 P.sub, .int .i64 P.set, .int .i64 P.len, .int .i64 P.ttl, .int .i64 P.ent, .int .i64 P.ing, .int .i64 P.pro, .int .u64 (P.bits : Int), .string P.pay]
structure Pk.Wf (P : Pk) : Prop where
  mode : I64 P.mode
  sub : I64 P.sub
  set : I64 P.set
  len : I64 P.len
  ttl : I64 P.ttl
  ent : I64 P.ent
  ing : I64 P.ing
  pro : I64 P.pro
  bits : U64 P.bits
  pay : P.pay.size ≤ maxLen
/-- Is it valid? -/
def vpk (P : Pk) : Bool := decide ((1 ≤ P.mode ∧ P.mode ≤ 3) ∧ (0 ≤ P.sub ∧ P.sub ≤ 7) ∧ (0 ≤ P.set ∧ P.set ≤ 31) ∧ (0 ≤ P.ttl ∧ P.ttl ≤ 63) ∧ (0 ≤ P.ent ∧ P.ent ≤ 1023) ∧ (0 ≤ P.ing ∧ P.ing ≤ 256) ∧ (0 ≤ P.pro ∧ P.pro ≤ 7) ∧ P.pay.size ≤ 64 ∧ vb P.bits P.len = true)
/-- The code of the length. -/
def lcode (n : Int) : Nat := if n = 8 then 0 else if n = 16 then 1 else if n = 32 then 2 else 3
/-- The numbers of the header, with their widths. -/
def fl (P : Pk) : List (Nat × Nat) := [(2, 2), (P.mode.toNat, 2), (P.sub.toNat, 3), (P.set.toNat, 5), (lcode P.len, 2), (P.ttl.toNat, 6), (P.ent.toNat, 10), (P.ing.toNat, 9), (P.pro.toNat, 3), (P.pay.size, 7)]
def flb (f : List (Nat × Nat)) : List Bool := f.flatMap fun x => nb x.1 x.2
def byl (s : ByteArray) : List Nat := s.data.toList.map fun b => b.toNat
def body (P : Pk) : List Bool := flb (fl P) ++ nb P.bits P.len.toNat ++ pb (byl P.pay)
def ck (B : List Bool) : Nat := crcB (bf B) B.length
def enc (P : Pk) : List Nat := pk (body P ++ nb (ck (body P)) 16)
set_option maxRecDepth 100000 in
theorem flb_len (f : List (Nat × Nat)) : (flb f).length = (f.map (·.2)).sum := by
  induction f with
  | nil => rfl
  | cons x r ih =>
    unfold flb at *
    rw [List.flatMap_cons, List.length_append, ih, nb_len]; rfl
set_option maxRecDepth 100000 in
theorem byl_len (s : ByteArray) : (byl s).length = s.size := by unfold byl; rw [List.length_map, Array.length_toList]; rfl
set_option maxRecDepth 100000 in
theorem byl_by (s : ByteArray) : By (byl s) := fun x hx => by
  unfold byl at hx
  obtain ⟨b, _, rfl⟩ := List.mem_map.1 hx
  exact b.toNat_lt
set_option maxRecDepth 100000 in
theorem hdr_len (P : Pk) : (flb (fl P)).length = 49 := by rw [flb_len]; rfl
set_option maxRecDepth 100000 in
theorem body_len (P : Pk) : (body P).length = 49 + P.len.toNat + 8 * P.pay.size := by
  unfold body
  rw [List.length_append, List.length_append, hdr_len, nb_len, pb_len, byl_len]
end Go.Proofs.YtpoocenooomghaaDoor

/- packet: the table of the fields. -/
namespace Go.Proofs.YtpoocenooomghaaDoor
open Go.RowKit Bs
def fcells (h : Nat) : Array Value := #[.pointer (some ⟨h, 0, none⟩), .int .i64 2, .pointer (some ⟨h, 1, none⟩), .int .i64 2, .pointer (some ⟨h, 2, none⟩), .int .i64 3, .pointer (some ⟨h, 3, none⟩), .int .i64 5, .pointer (some ⟨h, 11, none⟩), .int .i64 2,
  .pointer (some ⟨h, 5, none⟩), .int .i64 6, .pointer (some ⟨h, 6, none⟩), .int .i64 10, .pointer (some ⟨h, 7, none⟩), .int .i64 9, .pointer (some ⟨h, 8, none⟩), .int .i64 3, .pointer (some ⟨h, 12, none⟩), .int .i64 7]
def hcells (P : Pk) : Array Value := #[.int .i64 2, .int .i64 P.mode, .int .i64 P.sub, .int .i64 P.set, .int .i64 P.len, .int .i64 P.ttl, .int .i64 P.ent, .int .i64 P.ing, .int .i64 P.pro, .int .u64 (P.bits : Int), .string P.pay, .int .i64 (lcode P.len : Int), .int .i64 (P.pay.size : Int)]
set_option maxRecDepth 100000 in
theorem fst_code {n : Int} (h : vl n = true) : fst (n.toNat / 8) = (lcode n : Int) := by
  rcases vl_cases h with rfl | rfl | rfl | rfl <;> decide
set_option maxRecDepth 100000 in
theorem vpk_parts {P : Pk} (h : vpk P = true) : ((1 ≤ P.mode ∧ P.mode ≤ 3) ∧ (0 ≤ P.sub ∧ P.sub ≤ 7) ∧ (0 ≤ P.set ∧ P.set ≤ 31) ∧ (0 ≤ P.ttl ∧ P.ttl ≤ 63) ∧ (0 ≤ P.ent ∧ P.ent ≤ 1023) ∧ (0 ≤ P.ing ∧ P.ing ≤ 256) ∧ (0 ≤ P.pro ∧ P.pro ≤ 7) ∧ P.pay.size ≤ 64 ∧ vb P.bits P.len = true) := of_decide_eq_true h
set_option maxRecDepth 100000 in
theorem vb_vl {b : Nat} {n : Int} (h : vb b n = true) : vl n = true := by
  unfold vb at h
  exact (Bool.and_eq_true _ _ ▸ h).1
set_option maxRecDepth 100000 in
theorem lcode_lt (n : Int) : lcode n < 4 := by
  unfold lcode
  split
  · decide
  · split
    · decide
    · split <;> decide
set_option maxRecDepth 100000 in
/-- What stands in the table of the fields. -/
theorem field_at {P : Pk} (h : vpk P = true) (hb : Nat) (k : Nat) (hk : k < 10) : ∃ o wd x : Nat, (fcells hb)[k * 2]? = some (.pointer (some ⟨hb, o, none⟩)) ∧ (fcells hb)[k * 2 + 1]? = some (.int .i64 (wd : Int)) ∧ (hcells P)[o]? = some (.int .i64 (x : Int)) ∧ x < 2 ^ wd ∧ wd ≤ 10 ∧ (fl P)[k]? = some (x, wd) := by
  obtain ⟨⟨m1, m2⟩, ⟨s1, s2⟩, ⟨e1, e2⟩, ⟨t1, t2⟩, ⟨n1, n2⟩, ⟨i1, i2⟩, ⟨p1, p2⟩, y1, v1⟩ := vpk_parts h
  have hl := lcode_lt P.len
  rcases (show k = 0 ∨ k = 1 ∨ k = 2 ∨ k = 3 ∨ k = 4 ∨ k = 5 ∨ k = 6 ∨ k = 7 ∨ k = 8 ∨ k = 9 by omega) with rfl | rfl | rfl | rfl | rfl | rfl | rfl | rfl | rfl | rfl
  · exact ⟨0, 2, 2, rfl, rfl, rfl, by decide, by decide, rfl⟩
  · exact ⟨1, 2, P.mode.toNat, rfl, rfl, by rw [Int.toNat_of_nonneg (by omega)]; rfl, by omega, by decide, rfl⟩
  · exact ⟨2, 3, P.sub.toNat, rfl, rfl, by rw [Int.toNat_of_nonneg (by omega)]; rfl, by omega, by decide, rfl⟩
  · exact ⟨3, 5, P.set.toNat, rfl, rfl, by rw [Int.toNat_of_nonneg (by omega)]; rfl, by omega, by decide, rfl⟩
  · exact ⟨11, 2, lcode P.len, rfl, rfl, rfl, by omega, by decide, rfl⟩
  · exact ⟨5, 6, P.ttl.toNat, rfl, rfl, by rw [Int.toNat_of_nonneg (by omega)]; rfl, by omega, by decide, rfl⟩
  · exact ⟨6, 10, P.ent.toNat, rfl, rfl, by rw [Int.toNat_of_nonneg (by omega)]; rfl, by omega, by decide, rfl⟩
  · exact ⟨7, 9, P.ing.toNat, rfl, rfl, by rw [Int.toNat_of_nonneg (by omega)]; rfl, by omega, by decide, rfl⟩
  · exact ⟨8, 3, P.pro.toNat, rfl, rfl, by rw [Int.toNat_of_nonneg (by omega)]; rfl, by omega, by decide, rfl⟩
  · exact ⟨12, 7, P.pay.size, rfl, rfl, rfl, by omega, by decide, rfl⟩
set_option maxRecDepth 100000 in
theorem flb_snoc {f : List (Nat × Nat)} {k x wd : Nat} (h : f[k]? = some (x, wd)) : flb (f.take (k + 1)) = flb (f.take k) ++ nb x wd := by
  unfold flb
  rw [List.take_add_one, h, List.flatMap_append]
  simp
set_option maxRecDepth 100000 in
theorem flb_take_le (P : Pk) (k : Nat) : (flb ((fl P).take k)).length ≤ 49 := by
  have h := hdr_len P
  have e : fl P = (fl P).take k ++ (fl P).drop k := (List.take_append_drop _ _).symm
  have e2 : flb (fl P) = flb ((fl P).take k) ++ flb ((fl P).drop k) := by
    unfold flb
    rw [← List.flatMap_append, List.take_append_drop]
  rw [e2, List.length_append] at h
  omega
end Go.Proofs.YtpoocenooomghaaDoor

/- The program's functions on bits: List, Nth, Rank, Spread, Gather. -/
namespace Go.Proofs.YtpoocenooomghaaDoor
open Go.RowKit Bs

set_option maxRecDepth 100000 in
theorem Tb.grown {w w' : World} {r : Option Nat} (h : Tb w) (g : w.grownBy w' r) (hr : r ≠ some 0) : Tb w' := by
  intro j hj
  exact g.cell (h j hj) (fun e => hr e.symm)
set_option maxRecDepth 100000 in
theorem Tb.keep {w w' : World} (h : Tb w) (g : w.grownBy w' none) : Tb w' := h.grown g (by simp)

set_option maxRecDepth 100000 in
theorem fst_pos {c : Nat} (h : c ≠ 0) : fst c = ((Lib.ctz 64 c : Nat) : Int) := by unfold fst; rw [if_neg h]

/-- The j lowest bits. -/
def tk (b j : Nat) : List Nat := (bl b).take j
set_option maxRecDepth 100000 in
theorem tk_le (b j : Nat) : (tk b j).length ≤ 64 := by unfold tk; rw [List.length_take]; have := bl_length_le b; omega
def ListRel (b : Nat) (w : World) (v : Value) (c j : Nat) (wr : World) : Prop :=
  Strip b c j ∧ wr.ownsRow w.heap.size 3 1 v (tk b j).length ((tk b j).map ival) ∧ w.grownBy wr none
set_option maxRecDepth 100000 in
theorem list_hit {b c j : Nat} {w wr w1 : World} {v v' : Value} {o : Obj} (h : ListRel b w v c j wr) (h0 : c ≠ 0)
    (hown' : w1.ownsRow w.heap.size 3 1 v' ((tk b j).length + 1) ((tk b j).map ival ++ [.int .i64 (fst c)])) (hg : (wr.alloc o).grownBy w1 v.ownBlock) : ListRel b w v' (wo c) (j + 1) w1 := by
  obtain ⟨h1, h2⟩ := h.1.step h0
  refine ⟨h1, ?_, own_step h.2.2 h.2.1 hg⟩
  unfold tk at hown' ⊢
  rw [take_next h2, List.length_append, List.map_append]
  rw [fst_pos h0] at hown'
  exact hown'
set_option maxRecDepth 100000 in
set_option maxHeartbeats 400000 in
theorem firstp_pos (c : Nat) (hc : U64 c) (h0 : c ≠ 0) (w : World) (hT : Tb w) :
    Calls Tryd.prog 83 #[.int .u64 (c : Int)] w fun e w' => e = .returned (.int .i64 ((Lib.ctz 64 c : Nat) : Int)) ∧ w = w' := by
  have := firstp_any c hc w hT
  rwa [fst_pos h0] at this

set_option maxRecDepth 100000 in
theorem lo_word (k : Nat) (hk : k ≤ 63) : IntKind.u64.wrap (IntKind.u64.wrap (2 ^ k) - 1) = ((lo k : Nat) : Int) := by
  rw [pow_word k (by omega)]
  have h := (b2_u64 (k := k) (by omega)).lt
  have h0 : 0 < 2 ^ k := Nat.pow_pos (by decide)
  unfold b2 at h ⊢
  unfold lo
  rw [IntKind.wrap_u64]; omega
end Go.Proofs.YtpoocenooomghaaDoor

/- packet: a header's block. -/
namespace Go.Proofs.YtpoocenooomghaaDoor
open Go.RowKit Bs
set_option maxRecDepth 100000 in
theorem World.lt_of_row' {w : World} {b : Nat} {o : Obj} (h : w.heap[b]? = some o) : b < w.heap.size := (Array.getElem?_eq_some_iff.1 h).1
def pcells (P : Pk) : Array Value := #[.int .i64 P.mode, .int .i64 P.sub, .int .i64 P.set, .int .i64 P.len, .int .i64 P.ttl, .int .i64 P.ent, .int .i64 P.ing, .int .i64 P.pro, .int .u64 (P.bits : Int), .string P.pay]
def zcells : Array Value := #[.int .i64 0, .int .i64 0, .int .i64 0, .int .i64 0, .int .i64 0, .int .i64 0, .int .i64 0, .int .i64 0, .int .i64 0, .int .u64 0, .string ⟨#[]⟩, .int .i64 0, .int .i64 0]
/-- A stream of these bits is returned. -/
def BP (B : List Bool) (w : World) (e : Ending) (w' : World) : Prop := ∃ p c, e = .returned (.agg #[.slice p (pk B).length c, .int .i64 (B.length : Int)]) ∧ Rd w' (w.heap.size ≤ ·) (.slice p (pk B).length c) ((pk B).map nv) ∧ (p = none → c = 0) ∧ w.grownBy w' none
section
variable {W w w1 : World} {P : Pk} {h g S : Nat} {B B2 : List Bool}
set_option maxRecDepth 100000 in
theorem Rd.weaken {q q' : Nat → Prop} {v : Value} {vs : List Value} (h : Rd w q v vs) (hq : ∀ b, q b → b < w.heap.size → q' b) : Rd w q' v vs := by
  obtain ⟨p, c, hv, hc⟩ := h
  refine ⟨p, c, hv, fun hne => ?_⟩
  obtain ⟨b, off, hp, hb, hx⟩ := hc hne
  refine ⟨b, off, hp, hq b hb ?_, hx⟩
  cases vs with
  | nil => exact absurd rfl hne
  | cons y r => exact World.block_lt_of_cell? w ⟨b, off + 0, none⟩ (hx 0 y rfl)
set_option maxRecDepth 100000 in
theorem Rd.bound {w : World} {q : Nat → Prop} {v : Value} {vs : List Value} (h : Rd w q v vs) : Rd w (· < w.heap.size) v vs := by
  obtain ⟨p, c, hv, hc⟩ := h
  refine ⟨p, c, hv, fun hne => ?_⟩
  obtain ⟨b, off, hp, _, hx⟩ := hc hne
  refine ⟨b, off, hp, ?_, hx⟩
  cases vs with
  | nil => exact absurd rfl hne
  | cons y r => exact World.block_lt_of_cell? w ⟨b, off + 0, none⟩ (hx 0 y rfl)
set_option maxRecDepth 100000 in
/-- What Append gives to a list of bits. -/
theorem append_bits {p : Option Addr} {c v k : Nat} {q : Nat → Prop} (hk : k ≤ 64) (hv : v < 2 ^ k) (hl : B.length + k ≤ 8192) (hR : Rd w q (.slice p (pk B).length c) ((pk B).map nv)) :
    Calls Tryd.prog 46 #[.agg #[.slice p (pk B).length c, .int .i64 (B.length : Int)], .int .u64 (v : Int), .int .i64 (k : Int)] w fun e w' =>
      ∃ p2 c2, e = .returned (.tuple #[.agg #[.slice p2 (pk (B ++ nb v k)).length c2, .int .i64 ((B ++ nb v k).length : Int)], .int .i64 0]) ∧ Rd w' (w.heap.size ≤ ·) (.slice p2 (pk (B ++ nb v k)).length c2) ((pk (B ++ nb v k)).map nv) ∧ (p2 = none → c2 = 0) ∧ w.grownBy w' none := by
  have hvU : U64 v := Nat.lt_of_lt_of_le hv (Nat.pow_le_pow_right (n := 2) (by decide) hk)
  refine (appendp_any (pk B) (B.length : Int) v (k : Int) _ p c (pk_by B) hvU w (fun _ h => h) hR.bound).mono fun e w' hp => ?_
  rw [apV_pk B v k hk hv hl] at hp
  obtain ⟨u, he, ⟨p2, c2, rfl, h1, h2, _⟩, hg⟩ := hp
  exact ⟨p2, c2, he, h1, h2, hg⟩
end
end Go.Proofs.YtpoocenooomghaaDoor

/- packet: the calls of bitio over lists of bits. -/
namespace Go.Proofs.YtpoocenooomghaaDoor
open Go.RowKit Bs
section
variable {w : World} {B : List Bool} {p : Option Addr} {c : Nat} {q : Nat → Prop}
/-- A stream of these bits and no error are returned. -/
def BT (B : List Bool) (w : World) (e : Ending) (w' : World) : Prop :=
  ∃ p2 c2, e = .returned (.tuple #[.agg #[.slice p2 (pk B).length c2, .int .i64 (B.length : Int)], .int .i64 0]) ∧ Rd w' (w.heap.size ≤ ·) (.slice p2 (pk B).length c2) ((pk B).map nv) ∧ (p2 = none → c2 = 0) ∧ w.grownBy w' none
set_option maxRecDepth 100000 in
theorem chk_same {f g : Nat → Bool} : ∀ k, (∀ i, i < k → f i = g i) → crcB f k = crcB g k
  | 0, _ => rfl
  | k + 1, h => by
    unfold crcB
    rw [chk_same k fun i hi => h i (by omega), h k (by omega)]
set_option maxRecDepth 100000 in
theorem check_bits (h : B.length ≤ 8192) (hR : Rd w q (.slice p (pk B).length c) ((pk B).map nv)) :
    Calls Tryd.prog 45 #[.agg #[.slice p (pk B).length c, .int .i64 (B.length : Int)]] w fun e w' => e = .returned (.tuple #[.int .u64 ((ck B : Nat) : Int), .int .i64 0]) ∧ w.grownBy w' none := by
  refine (checkp_any (pk B) (B.length : Int) _ p c (pk_by B) w hR.bound).mono fun e w' hp => ?_
  obtain ⟨he, hg⟩ := hp
  rw [chkV_ok (pk_vs B h)] at he
  rw [show ck B = crcB (bt (pk B)) B.length from (chk_same _ fun i hi => bt_pk B i (by omega)).symm]
  exact ⟨he, hg⟩
set_option maxRecDepth 100000 in
theorem align_bits (h : B.length ≤ 8192) (hR : Rd w q (.slice p (pk B).length c) ((pk B).map nv)) :
    Calls Tryd.prog 47 #[.agg #[.slice p (pk B).length c, .int .i64 (B.length : Int)]] w fun e w' =>
      ∃ p2 c2, e = .returned (.tuple #[.agg #[.slice p2 (pk B).length c2, .int .i64 ((8 * (pk B).length : Nat) : Int)], .int .i64 0]) ∧ Rd w' (w.heap.size ≤ ·) (.slice p2 (pk B).length c2) ((pk B).map nv) ∧ (p2 = none → c2 = 0) ∧ w.grownBy w' none := by
  refine (alignp_any (pk B) (B.length : Int) _ p c (pk_by B) w hR.bound).mono fun e w' hp => ?_
  rw [alV_pk B h] at hp
  obtain ⟨u, he, ⟨p2, c2, rfl, h1, h2, _⟩, hg⟩ := hp
  exact ⟨p2, c2, he, h1, h2, hg⟩
set_option maxRecDepth 100000 in
theorem bw_grown (w : World) (e : TypeId) (s : ByteArray) : w.grownBy (Lib.bytesWorld w e s) none :=
  ⟨rfl, rfl, rfl, by rw [Lib.bytesWorld_size]; omega, fun j hj _ => Lib.bytesWorld_at_old w e s j hj⟩
set_option maxRecDepth 100000 in
theorem bw_rd (w : World) (e : TypeId) (s : ByteArray) (c : Nat) : Rd (Lib.bytesWorld w e s) (· = w.heap.size) (.slice (some ⟨w.heap.size, 0, none⟩) (byl s).length c) ((byl s).map nv) := by
  refine ⟨_, c, by rw [List.length_map], fun _ => ⟨w.heap.size, 0, rfl, rfl, fun j x hj => ?_⟩⟩
  have hl : j < s.size := by
    have := (List.getElem?_eq_some_iff.1 hj).1
    rw [List.length_map, byl_len] at this; exact this
  rw [Nat.zero_add, Lib.bytesWorld_cell w e s j hl]
  unfold byl at hj
  rw [List.map_map, List.getElem?_map] at hj
  have hd : j < s.data.toList.length := by rw [Array.length_toList]; exact hl
  rw [List.getElem?_eq_getElem hd] at hj
  rw [List.getD_eq_getElem?_getD, List.getElem?_eq_getElem hd]
  exact hj
end
end Go.Proofs.YtpoocenooomghaaDoor

/- advert.write: what its closure does to the stream. -/
namespace Go.Proofs.YtpoocenooomghaaDoor
open Go.RowKit Bs
/-- The stream in the box S has the bits B. -/
structure SB (w : World) (S : Nat) (B : List Bool) (p : Option Addr) (c : Nat) : Prop where
  bx : w.heap[S]? = some (.cells #[.slice p (pk B).length c, .int .i64 (B.length : Int)] 47 (0, 0))
  rd : Rd w (· ≠ S) (.slice p (pk B).length c) ((pk B).map nv)
set_option maxRecDepth 100000 in
theorem SB.keep {w w' : World} {S : Nat} {B : List Bool} {p : Option Addr} {c : Nat} (h : SB w S B p c) (g : w.grownBy w' none) : SB w' S B p c := ⟨kept_row h.bx g (by simp), h.rd.grown g (fun _ _ => by simp)⟩
set_option maxRecDepth 100000 in
theorem store2c {w : World} {b : Nat} {t : TypeId} {z0 z1 : Value} (u0 u1 : Value) (h : w.heap[b]? = some (.cells #[z0, z1] t (0, 0))) :
    ((w.setCell ⟨b, 0, none⟩ u0).setCell ⟨b, 1, none⟩ u1).heap[b]? = some (.cells #[u0, u1] t (0, 0)) ∧ w.grownBy ((w.setCell ⟨b, 0, none⟩ u0).setCell ⟨b, 1, none⟩ u1) (some b) := ⟨store2 h, grown_store2 w b u0 u1⟩
set_option maxRecDepth 100000 in
set_option maxHeartbeats 1600000 in
theorem aput_any (B : List Bool) (n k S : Nat) (p : Option Addr) (c : Nat) (w : World) (h : SB w S B p c) (hk : k ≤ 64) (hn : n < 2 ^ k) (hl : B.length + k ≤ 8192) :
    Calls Tryd.prog 82 #[.int .i64 (n : Int), .int .i64 (k : Int), .pointer (some ⟨S, 0, none⟩)] w fun e w' => ∃ p2 c2, e = .returned (.tuple #[]) ∧ SB w' S (B ++ nb n k) p2 c2 ∧ w.grownBy w' (some S) := by
  have HB := Lib.hid h
  obtain ⟨c0, c1⟩ := row_cells h.bx
  have hn64 : (n : Int) < 18446744073709551616 := by
    have h1 : 2 ^ k ≤ 2 ^ 64 := Nat.pow_le_pow_right (by decide) hk
    have h2 : (2 : Nat) ^ 64 = 18446744073709551616 := by decide
    omega
  have HN := Lib.hid (And.intro hn hl)
  clear h hn hl
  go_enter Tryd.func82, Tryd.ntmps82
  go_wp2_with fail
  refine (append_bits (B := B) (v := n) (k := k) (p := p) (c := c) hk HN.out.1 HN.out.2 HB.out.rd).mono ?_
  rintro e w1 ⟨p2, c2, rfl, hr, hp, hg⟩
  have hS : S < w.heap.size := by
    rcases Nat.lt_or_ge S w.heap.size with h | h
    · exact h
    · have := HB.out.bx; rw [Array.getElem?_eq_none h] at this; cases this
  have hb1 := kept_row HB.out.bx hg (by simp)
  obtain ⟨B2, hB2⟩ : ∃ B2, B ++ nb n k = B2 := ⟨_, rfl⟩
  rw [hB2] at hr ⊢
  have HB2 := Lib.hid hB2
  clear hB2
  obtain ⟨t1, t2⟩ := store2c (.slice p2 (pk B2).length c2) (.int .i64 (B2.length : Int)) hb1
  have HO : Hid (SB _ S B2 p2 c2 ∧ w.grownBy _ (some S)) := Lib.hid ⟨⟨t1, (hr.grown t2 (fun b hb e => by have := Option.some.inj e; omega)).mono (fun b hb e => by omega)⟩, grown_trans (grown_none hg _) t2⟩
  have HB1 := Lib.hid hb1
  obtain ⟨d0, d1⟩ := row_cells hb1
  have f0 := frozen_of_row _ _ 0 _ _ hb1
  have f1 := frozen_of_row _ _ 1 _ _ hb1
  clear hr hp hg hb1 t1 t2 c0 c1
  go_wp2_with fail
  go_end0
  refine ⟨p2, c2, rfl, ?_⟩
  rw [HB2.out]
  exact HO.out
end Go.Proofs.YtpoocenooomghaaDoor

/- packet: the header of a packet is read. -/
namespace Go.Proofs.YtpoocenooomghaaDoor
open Go.RowKit Bs
/-- A header's cells behind k fields. -/
def hdc (V : Nat → Nat) (k : Nat) (n : Int) : Array Value := #[.int .i64 ((if 0 < k then V 0 else 0 : Nat) : Int), .int .i64 ((if 1 < k then V 1 else 0 : Nat) : Int), .int .i64 ((if 2 < k then V 2 else 0 : Nat) : Int), .int .i64 ((if 3 < k then V 3 else 0 : Nat) : Int), .int .i64 n, .int .i64 ((if 5 < k then V 5 else 0 : Nat) : Int), .int .i64 ((if 6 < k then V 6 else 0 : Nat) : Int), .int .i64 ((if 7 < k then V 7 else 0 : Nat) : Int), .int .i64 ((if 8 < k then V 8 else 0 : Nat) : Int), .int .u64 0, .string ⟨#[]⟩, .int .i64 ((if 4 < k then V 4 else 0 : Nat) : Int), .int .i64 ((if 9 < k then V 9 else 0 : Nat) : Int)]
def wids : List Nat := [2, 2, 3, 5, 2, 6, 10, 9, 3, 7]
def offs : List Nat := [0, 2, 4, 7, 12, 14, 20, 30, 39, 42, 49]
/-- The number in field k of these bytes. -/
def fv (l : List Nat) (k : Nat) : Nat := num (bt l) (offs.getD k 0) (wids.getD k 0)
set_option maxRecDepth 100000 in
theorem read_at (V : Nat → Nat) (h k : Nat) (hk : k < 10) : ∃ o : Nat, (fcells h)[k * 2]? = some (.pointer (some ⟨h, o, none⟩)) ∧ (fcells h)[k * 2 + 1]? = some (.int .i64 ((wids.getD k 0 : Nat) : Int)) ∧ (hdc V k 0)[o]? = some (.int .i64 0) ∧ (hdc V k 0).setIfInBounds o (.int .i64 ((V k : Nat) : Int)) = hdc V (k + 1) 0 ∧
    offs.getD (k + 1) 0 = offs.getD k 0 + wids.getD k 0 ∧ wids.getD k 0 ≤ 10 ∧ offs.getD k 0 + wids.getD k 0 ≤ 49 := by
  rcases (show k = 0 ∨ k = 1 ∨ k = 2 ∨ k = 3 ∨ k = 4 ∨ k = 5 ∨ k = 6 ∨ k = 7 ∨ k = 8 ∨ k = 9 by omega) with rfl | rfl | rfl | rfl | rfl | rfl | rfl | rfl | rfl | rfl
  · exact ⟨0, rfl, rfl, rfl, rfl, rfl, by decide, by decide⟩
  · exact ⟨1, rfl, rfl, rfl, rfl, rfl, by decide, by decide⟩
  · exact ⟨2, rfl, rfl, rfl, rfl, rfl, by decide, by decide⟩
  · exact ⟨3, rfl, rfl, rfl, rfl, rfl, by decide, by decide⟩
  · exact ⟨11, rfl, rfl, rfl, rfl, rfl, by decide, by decide⟩
  · exact ⟨5, rfl, rfl, rfl, rfl, rfl, by decide, by decide⟩
  · exact ⟨6, rfl, rfl, rfl, rfl, rfl, by decide, by decide⟩
  · exact ⟨7, rfl, rfl, rfl, rfl, rfl, by decide, by decide⟩
  · exact ⟨8, rfl, rfl, rfl, rfl, rfl, by decide, by decide⟩
  · exact ⟨12, rfl, rfl, rfl, rfl, rfl, by decide, by decide⟩
set_option maxRecDepth 100000 in
theorem vs_whole {l : List Nat} (h : 8 * l.length ≤ 8192) : vs l ((8 * l.length : Nat) : Int) = true := vs_iff.2 ⟨h, by omega, fun i h1 h2 => absurd h2 (by omega)⟩
section
variable {W w w1 : World} {l : List Nat} {p : Option Addr} {c : Nat} {V : Nat → Nat} {g k : Nat}
end
end Go.Proofs.YtpoocenooomghaaDoor

/- advert: the reader takes a field. -/
namespace Go.Proofs.YtpoocenooomghaaDoor
open Go.RowKit Bs
/-- The reader's box. -/
structure RX (w : World) (S : Nat) (l : List Nat) (a : Nat) (sh : Bool) (p : Option Addr) (c : Nat) : Prop where
  bx : w.heap[S]? = some (.cells #[.slice p l.length c, .int .i64 (8 * (l.length : Int)), .int .i64 (a : Int), .bool sh] 82 (0, 0))
  rd : Rd w (· ≠ S) (.slice p l.length c) (l.map nv)
set_option maxRecDepth 100000 in
theorem RX.keep {w w' : World} {S : Nat} {l : List Nat} {a : Nat} {sh : Bool} {p : Option Addr} {c : Nat} (h : RX w S l a sh p c) (g : w.grownBy w' none) : RX w' S l a sh p c := ⟨kept_row h.bx g (by simp), h.rd.grown g (fun _ _ => by simp)⟩
/-- No field lies there. -/
def tkS (l : List Nat) (a : Nat) (sh : Bool) (k : Nat) : Bool := sh || decide (8 * l.length < a + k)
def tkA (l : List Nat) (a : Nat) (sh : Bool) (k : Nat) : Nat := if tkS l a sh k = true then a else a + k
def tkV (l : List Nat) (a : Nat) (sh : Bool) (k : Nat) : Nat := if tkS l a sh k = true then 0 else num (bt l) a k
set_option maxRecDepth 100000 in
theorem store_at2 {w : World} {b : Nat} {t : TypeId} {x0 x1 x2 x3 : Value} (u : Value) (h : w.heap[b]? = some (.cells #[x0, x1, x2, x3] t (0, 0))) :
    (w.setCell ⟨b, 2, none⟩ u).heap[b]? = some (.cells #[x0, x1, u, x3] t (0, 0)) ∧ w.grownBy (w.setCell ⟨b, 2, none⟩ u) (some b) := by
  refine ⟨?_, grown_setCell w ⟨b, 2, none⟩ u⟩
  have h1 := heap_setCell_same w b 2 _ _ u h
  rw [h1]; rfl
set_option maxRecDepth 100000 in
theorem store_at3 {w : World} {b : Nat} {t : TypeId} {x0 x1 x2 x3 : Value} (u : Value) (h : w.heap[b]? = some (.cells #[x0, x1, x2, x3] t (0, 0))) :
    (w.setCell ⟨b, 3, none⟩ u).heap[b]? = some (.cells #[x0, x1, x2, u] t (0, 0)) ∧ w.grownBy (w.setCell ⟨b, 3, none⟩ u) (some b) := by
  refine ⟨?_, grown_setCell w ⟨b, 3, none⟩ u⟩
  have h1 := heap_setCell_same w b 3 _ _ u h
  rw [h1]; rfl
set_option maxRecDepth 100000 in
theorem row4 {w : World} {b : Nat} {t : TypeId} {x0 x1 x2 x3 : Value} (h : w.heap[b]? = some (.cells #[x0, x1, x2, x3] t (0, 0))) :
    (w.cell? ⟨b, 0, none⟩ = some x0 ∧ w.cell? ⟨b, 1, none⟩ = some x1 ∧ w.cell? ⟨b, 2, none⟩ = some x2 ∧ w.cell? ⟨b, 3, none⟩ = some x3) ∧ w.frozen? ⟨b, 2, none⟩ = false ∧ w.frozen? ⟨b, 3, none⟩ = false := by
  refine ⟨⟨?_, ?_, ?_, ?_⟩, frozen_of_row _ _ _ _ _ h, frozen_of_row _ _ _ _ _ h⟩ <;> (rw [cell_of_row _ _ _ _ _ _ h]; rfl)
set_option maxRecDepth 100000 in
theorem keep3A {w0 w1 w2 : World} {a1 a2 a3 : Addr} {v1 v2 v3 : Value} (h : Hid (w0.grownBy w1 none)) (k : w1.grownBy w2 none) (c1 : w0.cell? a1 = some v1) (c2 : w0.cell? a2 = some v2) (c3 : w0.cell? a3 = some v3) :
    w2.cell? a1 = some v1 ∧ w2.cell? a2 = some v2 ∧ w2.cell? a3 = some v3 ∧ Hid (w0.grownBy w2 none) :=
  have g := grown_trans h.out k
  ⟨g.cell c1 (by simp), g.cell c2 (by simp), g.cell c3 (by simp), Lib.hid g⟩
set_option maxRecDepth 100000 in
theorem hid_drewA (w : World) : Hid (w.grownBy w.drew none) := Lib.hid (grown_drew (grown_refl _ _))
set_option maxRecDepth 100000 in
theorem atk_at {w0 w : World} {S : Nat} {l : List Nat} {a k : Nat} {sh : Bool} {p : Option Addr} {c : Nat} (h : Hid (w0.grownBy w none)) (HX : Hid (RX w0 S l a sh p c)) (hl : By l) (ha : a ≤ 8192) :
    Calls Tryd.prog 90 #[.agg #[.slice p l.length c, .int .i64 (8 * (l.length : Int))], .int .i64 (a : Int), .int .i64 (k : Int)] w fun e w' => TakePost l (8 * (l.length : Int)) (a : Int) (k : Int) w e w' :=
  takep_any l (8 * (l.length : Int)) (a : Int) (k : Int) _ p c hl (by unfold I64; omega) w (HX.out.keep h.out).rd
set_option maxRecDepth 100000 in
set_option maxHeartbeats 3200000 in
theorem atake_any (l : List Nat) (hl : By l) (h1 : l.length ≤ 1024) (S a k : Nat) (sh : Bool) (p : Option Addr) (c : Nat) (w : World) (h : RX w S l a sh p c) (ha : a ≤ 8192) (hk : k ≤ 20) :
    Calls Tryd.prog 52 #[.pointer (some ⟨S, 0, none⟩), .int .i64 (k : Int)] w fun e w' => e = .returned (.int .i64 ((tkV l a sh k : Nat) : Int)) ∧ RX w' S l (tkA l a sh k) (tkS l a sh k) p c ∧ w.grownBy w' (some S) := by
  have HX := Lib.hid h
  obtain ⟨⟨c0, c1, c2, c3⟩, f2, f3⟩ := row4 h.bx
  have hx : num (bt l) a k < 1048576 := Nat.lt_of_lt_of_le (num_lt _ _ _) (Nat.pow_le_pow_right (n := 2) (by decide) hk)
  have hT : takeV l (8 * (l.length : Int)) (a : Int) (k : Int) = if 8 * l.length < a + k then (0, 20) else (num (bt l) a k, 0) := by
    have hv := vs_whole (l := l) (by omega)
    rw [Int.natCast_mul] at hv
    change vs l (8 * (l.length : Int)) = true at hv
    split
    · exact takeV_short hv (by unfold vw; simp; omega) (by omega) (by omega)
    · rw [takeV_ok hv (by unfold vw; simp; omega) (by omega) (by omega), Int.toNat_natCast, Int.toNat_natCast]
  obtain ⟨V, E, hTE⟩ : ∃ V E, takeV l (8 * (l.length : Int)) (a : Int) (k : Int) = (V, E) := ⟨_, _, rfl⟩
  have HC : Hid ((8 * l.length < a + k ∧ V = 0 ∧ E = 20) ∨ (¬ 8 * l.length < a + k ∧ num (bt l) a k = V ∧ E = 0)) := Lib.hid (by
    rw [hTE] at hT
    by_cases hlt : 8 * l.length < a + k
    · rw [if_pos hlt] at hT
      exact .inl ⟨hlt, (Prod.mk.inj hT).1, (Prod.mk.inj hT).2⟩
    · rw [if_neg hlt] at hT
      exact .inr ⟨hlt, (Prod.mk.inj hT).1.symm, (Prod.mk.inj hT).2⟩)
  have HV : Hid (V < 1048576) := Lib.hid (by rcases HC.out with ⟨-, h, -⟩ | ⟨-, h, -⟩ <;> omega)
  have HT := Lib.hid hTE
  clear h hT hTE hx
  go_enter Tryd.func52, Tryd.ntmps52
  go_wp2_with fail
  go_region_held3 (fun w' => w'.cell? ⟨S, 0, none⟩ = some (.slice p l.length c) ∧ w'.cell? ⟨S, 1, none⟩ = some (.int .i64 (8 * (l.length : Int))) ∧ w'.cell? ⟨S, 2, none⟩ = some (.int .i64 (a : Int)) ∧ Hid (w.grownBy w' none))
    (first | exact ⟨c0, c1, c2, hid_drewA w⟩ | (go_split_ands; refine keep3A (w0 := w) ?_ hap c0 c1 c2; assumption))
    ((go_at_call 90; go_split_ands; refine (atk_at (w0 := w) (k := k) ?_ HX hl ha).mono ?_; assumption; intro e w1 h; unfold TakePost at h; rw [HT.out] at h; obtain ⟨rfl, hap⟩ := h))
  go_split_ands
  have hg : Hid (w.grownBy w1 none) := by assumption
  have H1 := Lib.hid (And.intro (HX.out.keep hg.out) hg.out)
  clear hap c0 c1 c2 c3 f2 f3 hg HX HT
  obtain ⟨⟨c0, c1, c2, c3⟩, f2, f3⟩ := row4 H1.out.1.bx
  have hx := HV.out
  rcases HC.out with ⟨hlt, rfl, rfl⟩ | ⟨hlt, hV, rfl⟩
  · clear hx HC HV
    have hs : tkS l a sh k = true := by unfold tkS; rw [decide_eq_true hlt, Bool.or_true]
    have HS := Lib.hid hs
    obtain ⟨t1, t2⟩ := store_at3 (.bool true) H1.out.1.bx
    have HO : Hid (RX _ S l a true p c ∧ w.grownBy _ (some S)) := Lib.hid ⟨⟨t1, H1.out.1.rd.grown t2 (fun b hb e => hb (Option.some.inj e))⟩, grown_trans (grown_none H1.out.2 _) t2⟩
    clear t1 t2 hs hlt
    cases sh with
    | true =>
      go_wp2_with fail
      go_ret
      refine ⟨by unfold tkV; rw [if_pos HS.out]; rfl, ?_⟩
      rw [show tkA l a true k = a by unfold tkA; rw [if_pos HS.out], HS.out]
      exact HO.out
    | false =>
      go_wp2_with fail
      go_ret
      refine ⟨by unfold tkV; rw [if_pos HS.out]; rfl, ?_⟩
      rw [show tkA l a false k = a by unfold tkA; rw [if_pos HS.out], HS.out]
      exact HO.out
  · have HV := Lib.hid hV
    clear hV HC
    cases sh with
    | true =>
      have hs : tkS l a true k = true := rfl
      have HS := Lib.hid hs
      obtain ⟨t1, t2⟩ := store_at3 (.bool true) H1.out.1.bx
      have HO : Hid (RX _ S l a true p c ∧ w.grownBy _ (some S)) := Lib.hid ⟨⟨t1, H1.out.1.rd.grown t2 (fun b hb e => hb (Option.some.inj e))⟩, grown_trans (grown_none H1.out.2 _) t2⟩
      clear t1 t2 hs hlt
      go_wp2_with fail
      go_ret
      refine ⟨by unfold tkV; rw [if_pos HS.out]; rfl, ?_⟩
      rw [show tkA l a true k = a by unfold tkA; rw [if_pos HS.out], HS.out]
      exact HO.out
    | false =>
      have hs : tkS l a false k = false := by unfold tkS; rw [decide_eq_false hlt]; rfl
      have HS := Lib.hid hs
      obtain ⟨t1, t2⟩ := store_at2 (.int .i64 ((a : Int) + (k : Int))) H1.out.1.bx
      have HO : Hid (RX _ S l (a + k) false p c ∧ w.grownBy _ (some S)) := Lib.hid ⟨⟨by rw [Int.natCast_add]; exact t1, H1.out.1.rd.grown t2 (fun b hb e => hb (Option.some.inj e))⟩, grown_trans (grown_none H1.out.2 _) t2⟩
      clear t1 t2 hs hlt
      go_wp2_with fail
      go_ret
      refine ⟨by unfold tkV; rw [if_neg (by rw [HS.out]; decide), HV.out]; rfl, ?_⟩
      rw [show tkA l a false k = a + k by unfold tkA; rw [if_neg (by rw [HS.out]; decide)], HS.out]
      exact HO.out
end Go.Proofs.YtpoocenooomghaaDoor

/- packet: Valid. -/
namespace Go.Proofs.YtpoocenooomghaaDoor
open Go.RowKit Bs
def vrows (P : Pk) : List (Int × Int × Int) := [(P.mode, 1, 3), (P.sub, 0, 7), (P.set, 0, 31), (P.ttl, 0, 63), (P.ent, 0, 1023), (P.ing, 0, 256), (P.pro, 0, 7), ((P.pay.size : Int), 0, 64)]
def vcells (P : Pk) : Array Value := #[.int .i64 P.mode, .int .i64 1, .int .i64 3, .int .i64 P.sub, .int .i64 0, .int .i64 7, .int .i64 P.set, .int .i64 0, .int .i64 31, .int .i64 P.ttl, .int .i64 0, .int .i64 63,
  .int .i64 P.ent, .int .i64 0, .int .i64 1023, .int .i64 P.ing, .int .i64 0, .int .i64 256, .int .i64 P.pro, .int .i64 0, .int .i64 7, .int .i64 (P.pay.size : Int), .int .i64 0, .int .i64 64]
set_option maxRecDepth 100000 in
theorem vrow_at (P : Pk) (k : Nat) (hk : k < 8) : ∃ x lo hi : Int, (vcells P)[k * 3]? = some (.int .i64 x) ∧ (vcells P)[k * 3 + 1]? = some (.int .i64 lo) ∧ (vcells P)[k * 3 + 2]? = some (.int .i64 hi) ∧ (vrows P)[k]? = some (x, lo, hi) := by
  rcases (show k = 0 ∨ k = 1 ∨ k = 2 ∨ k = 3 ∨ k = 4 ∨ k = 5 ∨ k = 6 ∨ k = 7 by omega) with rfl | rfl | rfl | rfl | rfl | rfl | rfl | rfl <;> exact ⟨_, _, _, rfl, rfl, rfl, rfl⟩
/-- The first k rows are kept. -/
def Kept (P : Pk) (k : Nat) : Prop := ∀ j x lo hi, j < k → (vrows P)[j]? = some (x, lo, hi) → lo ≤ x ∧ x ≤ hi
set_option maxRecDepth 100000 in
theorem vpk_kept {P : Pk} (h : Kept P 8) : vpk P = vb P.bits P.len := by
  have h0 := h 0 _ _ _ (by decide) rfl
  have h1 := h 1 _ _ _ (by decide) rfl
  have h2 := h 2 _ _ _ (by decide) rfl
  have h3 := h 3 _ _ _ (by decide) rfl
  have h4 := h 4 _ _ _ (by decide) rfl
  have h5 := h 5 _ _ _ (by decide) rfl
  have h6 := h 6 _ _ _ (by decide) rfl
  have h7 := h 7 _ _ _ (by decide) rfl
  unfold vpk
  by_cases hb : vb P.bits P.len = true
  · rw [hb]; exact decide_eq_true ⟨h0, h1, h2, h3, h4, h5, h6, by omega, rfl⟩
  · rw [Bool.not_eq_true] at hb
    rw [hb]; exact decide_eq_false fun h => by cases h.2.2.2.2.2.2.2.2
set_option maxRecDepth 100000 in
theorem vpk_row {P : Pk} (h : vpk P = true) {k : Nat} {x lo hi : Int} (hk : k < 8) (hr : (vrows P)[k]? = some (x, lo, hi)) : lo ≤ x ∧ x ≤ hi := by
  obtain ⟨h0, h1, h2, h3, h4, h5, h6, h7, _⟩ := vpk_parts h
  rcases (show k = 0 ∨ k = 1 ∨ k = 2 ∨ k = 3 ∨ k = 4 ∨ k = 5 ∨ k = 6 ∨ k = 7 by omega) with rfl | rfl | rfl | rfl | rfl | rfl | rfl | rfl <;> cases hr
  · exact h0
  · exact h1
  · exact h2
  · exact h3
  · exact h4
  · exact h5
  · exact h6
  · exact ⟨by omega, by omega⟩
set_option maxRecDepth 100000 in
theorem vpk_not {P : Pk} {k : Nat} {x lo hi : Int} (hk : k < 8) (hr : (vrows P)[k]? = some (x, lo, hi)) (hn : ¬ (lo ≤ x ∧ x ≤ hi)) : vpk P = false := by
  cases h : vpk P with
  | false => rfl
  | true => exact absurd (vpk_row h hk hr) hn
end Go.Proofs.YtpoocenooomghaaDoor

/- packet: a header's value comes back. -/
namespace Go.Proofs.YtpoocenooomghaaDoor
open Go.RowKit Bs
set_option maxRecDepth 100000 in
theorem three_new (w : World) (A B C : Obj) : (((w.alloc A).alloc B).alloc C).heap[w.heap.size]? = some A ∧ (((w.alloc A).alloc B).alloc C).heap[w.heap.size + 1]? = some B ∧ (((w.alloc A).alloc B).alloc C).heap[w.heap.size + 2]? = some C ∧ w.grownBy (((w.alloc A).alloc B).alloc C) none ∧ (((w.alloc A).alloc B).alloc C).heap.size = w.heap.size + 3 := by
  have g1 := World.grownBy_alloc w A none
  have g2 := World.grownBy_alloc (w.alloc A) B none
  have g3 := World.grownBy_alloc ((w.alloc A).alloc B) C none
  have s1 : (w.alloc A).heap.size = w.heap.size + 1 := by simp
  have s2 : ((w.alloc A).alloc B).heap.size = w.heap.size + 2 := by simp
  have h1 := heap_alloc_new w A
  have h2 := heap_alloc_new (w.alloc A) B
  have h3 := heap_alloc_new ((w.alloc A).alloc B) C
  rw [s1] at h2
  rw [s2] at h3
  exact ⟨kept_row (kept_row h1 g2 (by simp)) g3 (by simp), kept_row h2 g3 (by simp), h3, grown_trans g1 (grown_trans g2 g3), by simp⟩
set_option maxRecDepth 100000 in
theorem hput_grown (w : World) (h : Nat) (v0 v1 v2 v3 v4 v5 v6 v7 v8 v9 v10 v11 v12 : Value) : w.grownBy (((((((((((((w.setCell ⟨h, 0, none⟩ v0).setCell ⟨h, 1, none⟩ v1).setCell ⟨h, 2, none⟩ v2).setCell ⟨h, 3, none⟩ v3).setCell ⟨h, 4, none⟩ v4).setCell ⟨h, 5, none⟩ v5).setCell ⟨h, 6, none⟩ v6).setCell ⟨h, 7, none⟩ v7).setCell ⟨h, 8, none⟩ v8).setCell ⟨h, 9, none⟩ v9).setCell ⟨h, 10, none⟩ v10).setCell ⟨h, 11, none⟩ v11).setCell ⟨h, 12, none⟩ v12) (some h) := by
  exact grown_trans (grown_trans (grown_trans (grown_trans (grown_trans (grown_trans (grown_trans (grown_trans (grown_trans (grown_trans (grown_trans (grown_trans (grown_setCell _ ⟨h, 0, none⟩ _) (grown_setCell _ ⟨h, 1, none⟩ _)) (grown_setCell _ ⟨h, 2, none⟩ _)) (grown_setCell _ ⟨h, 3, none⟩ _)) (grown_setCell _ ⟨h, 4, none⟩ _)) (grown_setCell _ ⟨h, 5, none⟩ _)) (grown_setCell _ ⟨h, 6, none⟩ _)) (grown_setCell _ ⟨h, 7, none⟩ _)) (grown_setCell _ ⟨h, 8, none⟩ _)) (grown_setCell _ ⟨h, 9, none⟩ _)) (grown_setCell _ ⟨h, 10, none⟩ _)) (grown_setCell _ ⟨h, 11, none⟩ _)) (grown_setCell _ ⟨h, 12, none⟩ _)
/-- A header's value. -/
def hval (V : Nat → Nat) (n : Int) : Value := .agg (hdc V 10 n)
end Go.Proofs.YtpoocenooomghaaDoor

/- packet: the header of a packet is read. -/
namespace Go.Proofs.YtpoocenooomghaaDoor
open Go.RowKit Bs
end Go.Proofs.YtpoocenooomghaaDoor

/- packet: sizes; the mistakes of a header. -/
namespace Go.Proofs.YtpoocenooomghaaDoor
open Go.RowKit Bs
/-- The first mistake of a header. -/
def misV (V : Nat → Nat) : Int := if V 0 ≠ 2 then 22 else if V 1 = 0 then 1 else if 256 < V 7 ∨ 64 < V 9 then 2 else 0
end Go.Proofs.YtpoocenooomghaaDoor

/- packet: Size and Plane. -/
namespace Go.Proofs.YtpoocenooomghaaDoor
open Go.RowKit Bs
def sizeV (P : Pk) : Nat := if vpk P = true then (49 + P.len.toNat + 8 * P.pay.size + 16 + 7) / 8 else 0
def planeV (P : Pk) : Int := if vpk P = true then P.ent % 8 else 0
set_option maxRecDepth 100000 in
theorem vpk_len {P : Pk} (h : vpk P = true) : P.len = ((P.len.toNat : Nat) : Int) ∧ P.len.toNat ≤ 64 := by
  rcases vl_cases (vb_vl (vpk_parts h).2.2.2.2.2.2.2.2) with h | h | h | h <;> rw [h] <;> decide
end Go.Proofs.YtpoocenooomghaaDoor

/- packet: the reference's Valid, Size, Plane. -/
namespace Go.Proofs.YtpoocenooomghaaDoor
open Go.RowKit Bs
def ins (n m : Int) : Bool := decide (0 ≤ n ∧ n ≤ m)
set_option maxRecDepth 100000 in
theorem vpk_iff (P : Pk) : vpk P = (decide (1 ≤ P.mode) && (decide (P.mode ≤ 3) && (ins P.sub 7 && (ins P.set 31 && (vb P.bits P.len && (ins P.ttl 63 && (ins P.ent 1023 && (ins P.ing 256 && (ins P.pro 7 && decide (P.pay.size ≤ 64)))))))))) := by
  unfold vpk ins
  rw [Bool.eq_iff_iff]
  simp only [decide_eq_true_eq, Bool.and_eq_true]
  constructor
  · rintro ⟨⟨h1, h2⟩, h3, h4, h5, h6, h7, h8, h9, h10⟩
    exact ⟨h1, h2, h3, h4, h10, h5, h6, h7, h8, h9⟩
  · rintro ⟨h1, h2, h3, h4, h10, h5, h6, h7, h8, h9⟩
    exact ⟨⟨h1, h2⟩, h3, h4, h5, h6, h7, h8, h9, h10⟩
end Go.Proofs.YtpoocenooomghaaDoor

/- packet: the reference's Size and Plane. -/
namespace Go.Proofs.YtpoocenooomghaaDoor
open Go.RowKit Bs
end Go.Proofs.YtpoocenooomghaaDoor

/- packet: the header of a packet is written. -/
namespace Go.Proofs.YtpoocenooomghaaDoor
open Go.RowKit Bs
end Go.Proofs.YtpoocenooomghaaDoor

/- Align of the program: the result lies in a block of its own. -/
namespace Go.Proofs.YtpoocenooomghaaDoor
open Go.RowKit Bs
set_option maxRecDepth 100000 in
set_option maxHeartbeats 3200000 in
theorem alignp_own (l : List Nat) (n : Int) (hv : vs l n = true) (q : Nat → Prop) (p : Option Addr) (c : Nat) (hl : By l) (w : World) (hR : Rd w q (.slice p l.length c) (l.map nv)) :
    Calls Tryd.prog 47 #[.agg #[.slice p l.length c, .int .i64 n]] w fun e w' =>
      ∃ g, e = .returned (.tuple #[.agg #[.slice (some ⟨g, 0, none⟩) l.length l.length, .int .i64 ((8 * l.length : Nat) : Int)], .int .i64 0]) ∧ Blk w' g l ∧ w.heap.size ≤ g ∧ w.grownBy w' none := by
  obtain ⟨k1, k2, k3, k4⟩ := two_boxes w #[.slice p l.length c, .int .i64 n] #[.slice none 0 0, .int .i64 0] 47 47
  have H0 := Lib.hid (And.intro k1 (And.intro k2 (And.intro k3 k4)))
  have hR1 := hR.keep k3
  clear k1 k2 k3 k4 hR
  go_enter Tryd.func47, Tryd.ntmps47
  go_wp2_with fail
  generalize (w.alloc (.cells #[.slice p l.length c, .int .i64 n] 47)).alloc (.cells #[.slice none 0 0, .int .i64 0] 47) = w1 at *
  refine (validp_any l n q p c hl _ hR1).mono ?_
  rintro e w2 ⟨rfl, hg⟩
  have hrow := kept_row H0.out.1 hg (by simp)
  have hres := kept_row H0.out.2.1 hg (by simp)
  obtain ⟨c0, c1⟩ := row_cells hrow
  obtain ⟨r0, r1⟩ := row_cells hres
  have g0 := frozen_of_row _ _ 0 _ _ hres
  have g1 := frozen_of_row _ _ 1 _ _ hres
  have HG := Lib.hid (grown_trans H0.out.2.2.1 hg)
  have HRES := Lib.hid hres
  have HROW := Lib.hid hrow
  have HSZ : Hid (w.heap.size + 2 ≤ w2.heap.size) := Lib.hid (by rw [← H0.out.2.2.2]; exact hg.size)
  have hR2 := hR1.keep hg
  clear hrow hres hg hR1 H0
  obtain ⟨N, rfl⟩ := vs_nat hv
  obtain ⟨hN, hlen⟩ := vs_bits hv
  rw [hv]
  have hB := bytesFor_any N (by omega) w2
  rw [← hlen] at hB
  have H2 := Lib.hid hB
  have hl2 : l.length ≤ 1024 := by omega
  have hTi : 8 * (l.length : Int) = ((8 * l.length : Nat) : Int) := by omega
  have C := zeros_any (8 * l.length) (by omega) w2
  unfold ZerosPost at C
  rw [show (8 * l.length + 7) / 8 = l.length by omega] at C
  obtain ⟨T, hT⟩ : ∃ T : Nat, T = 8 * l.length := ⟨_, rfl⟩
  rw [← hT] at hTi C
  have H1 := Lib.hid C
  have HT := Lib.hid hT
  have hT8 : T ≤ 8192 := by omega
  clear hv hlen C hB hT
  go_wp2_with (first | (go_at_call 88; refine H2.out.mono ?_; rintro e w' ⟨rfl, rfl⟩))
  refine H1.out.mono ?_
  rintro e w3 ⟨g, rfl, hgg, hB3, hg3⟩
  have hrow := kept_row HROW.out hg3 (by simp)
  have hres := kept_row HRES.out hg3 (by simp)
  clear c0 c1 r0 r1 g0 g1
  obtain ⟨c0, c1⟩ := row_cells hrow
  have M4 := Lib.hid (made_of (W := w) (M := l.length) (T := (T : Int)) hB3 (by have := HG.out.size; omega) (grown_trans HG.out hg3))
  have HR4 := Lib.hid ((hR2.keep hg3).keep (World.grownBy_alloc w3 (.cells #[.slice (some ⟨g, 0, none⟩) l.length l.length, .int .i64 (T : Int)] 47) none))
  have n1 : ¬ w.heap.size = w3.heap.size := by have := HSZ.out; have := hg3.size; omega
  have n2 : w.heap.size ≠ w3.heap.size := n1
  have n3 : w.heap.size < w3.heap.size := by have := HSZ.out; have := hg3.size; omega
  have hgw : w.heap.size + 2 ≤ g := by have := HSZ.out; omega
  have HRES3 := Lib.hid (kept_row hres (World.grownBy_alloc w3 (.cells #[.slice (some ⟨g, 0, none⟩) l.length l.length, .int .i64 (T : Int)] 47) none) (by simp))
  clear hB3 hrow hres H1 hR2
  go_wp2_with (refine wpList_copy_into rfl _ _ rfl g l.length l.length rfl p l.length c rfl (List.replicate l.length 0) M4.out.blk (by simp) l rfl q HR4.out (Nat.le_refl _) ?_; intro w5 hB5 hg5; rw [List.drop_of_length_le (by simp), List.append_nil] at hB5; have M5 := Lib.hid (M4.out.next hg5 hB5); have HR5 := Lib.hid (kept_row HRES3.out hg5 (by intro e; have := Option.some.inj e; omega)); obtain ⟨e0, e1⟩ := row_cells M5.out.row; obtain ⟨r0, r1⟩ := row_cells HR5.out; have g0 := frozen_of_row _ _ 0 _ _ HR5.out; have g1 := frozen_of_row _ _ 1 _ _ HR5.out; clear hB5 hg5)
  refine bodyPost_ret (res_stream_err rfl _ _ (w.heap.size + 1) _ _ rfl (store2 HR5.out)) rfl ?_
  have gr := grown_store2 w5 (w.heap.size + 1) (.slice (some ⟨g, 0, none⟩) l.length l.length) (.int .i64 (T : Int))
  exact ⟨g, by rw [← HT.out]; rfl, M5.out.blk.grown gr (by intro e; have := Option.some.inj e; omega), M5.out.lo, grown_new M5.out.gr gr (by omega)⟩
end Go.Proofs.YtpoocenooomghaaDoor

/- packet: Encode. -/
namespace Go.Proofs.YtpoocenooomghaaDoor
open Go.RowKit Bs
set_option maxRecDepth 100000 in
theorem mask_bit {b n i : Nat} (hb : b < 2 ^ 64) (hi : n ≤ i) (hbi : b.testBit i = true) (h : b &&& ((2 ^ (64 - n) - 1) * 2 ^ n) = 0) : False := by
  have hi2 : i < 64 := by
    refine Nat.lt_of_not_le fun h64 => ?_
    rw [Nat.testBit_lt_two_pow (Nat.lt_of_lt_of_le hb (Nat.pow_le_pow_right (by decide) h64))] at hbi
    cases hbi
  have e := congrArg (fun x : Nat => x.testBit i) h
  simp only [Nat.testBit_and, hbi, Nat.zero_testBit, Bool.true_and, Nat.testBit_mul_two_pow, Nat.testBit_two_pow_sub_one] at e
  simp at e
  omega
set_option maxRecDepth 100000 in
theorem vb_lt {b : Nat} {n : Int} (h : vb b n = true) (hb : U64 b) : b < 2 ^ n.toNat := by
  refine Nat.lt_of_not_le fun hge => ?_
  obtain ⟨i, hi, hbi⟩ := Nat.exists_ge_and_testBit_of_ge_two_pow hge
  have hl := vb_vl h
  unfold vb at h
  have hm := (Bool.and_eq_true _ _ ▸ h).2
  have hm := eq_of_beq hm
  rcases vl_cases hl with rfl | rfl | rfl | rfl
  · exact mask_bit hb hi hbi (by rw [full_val.1] at hm; exact hm)
  · exact mask_bit hb hi hbi (by rw [full_val.2.1] at hm; exact hm)
  · exact mask_bit hb hi hbi (by rw [full_val.2.2.1] at hm; exact hm)
  · exact mask_bit hb hi hbi (by rw [full_val.2.2.2] at hm; exact hm)
section
variable {W w w1 : World} {P : Pk} {S n : Nat} {B B2 : List Bool} {p : Option Addr} {c : Nat}
end
/-- What Encode returns: the bytes of a valid packet lie in a block of their own. -/
def EncPost (P : Pk) (w : World) (e : Ending) (w' : World) : Prop :=
  (vpk P = true ∧ ∃ g, e = .returned (.tuple #[.slice (some ⟨g, 0, none⟩) (enc P).length (enc P).length, .int .i64 0]) ∧ Blk w' g (enc P) ∧ w.heap.size ≤ g ∧ w.grownBy w' none) ∨
  (vpk P = false ∧ e = .returned (.tuple #[.slice none 0 0, .int .i64 1]) ∧ w.grownBy w' none)
end Go.Proofs.YtpoocenooomghaaDoor

/- The reference's check number; Same. -/
namespace Go.Proofs.YtpoocenooomghaaDoor
open Go.RowKit Bs
set_option maxRecDepth 100000 in
theorem diff64 {r : Nat} {b : Bool} (hr : r < 65536) : ((r : Int) / 32768 != ((b.toNat : Nat) : Int)) = (r.testBit 15 != b) := by
  have e1 : ((r : Int) / 32768) = (((r.testBit 15).toNat : Nat) : Int) := by rw [← bit15 hr]; omega
  rw [e1, ne_bits]
set_option maxRecDepth 100000 in
theorem shift64 {r : Nat} (hr : r < 65536) : bits .and .u64 ((r : Int) * 2) 65535 = ((2 * r % 65536 : Nat) : Int) := by
  rw [show ((r : Int) * 2) = ((2 * r : Nat) : Int) by omega, show (65535 : Int) = ((2 ^ 16 - 1 : Nat) : Int) from rfl, andU _ _ (u64_mk (by omega)) (u64_mk (by decide)), Nat.and_two_pow_sub_one_eq_mod]
set_option maxRecDepth 100000 in
theorem xor64 {r : Nat} (hr : r < 65536) : bits .xor .u64 (bits .and .u64 ((r : Int) * 2) 65535) 4129 = (((2 * r % 65536) ^^^ 4129 : Nat) : Int) := by
  rw [shift64 hr, show (4129 : Int) = ((4129 : Nat) : Int) from rfl, u64_xor_nat _ _ (by omega) (by decide)]
set_option maxRecDepth 100000 in
set_option maxHeartbeats 3200000 in
theorem checkr_any (l : List Nat) (n : Int) (q : Nat → Prop) (p : Option Addr) (c : Nat) (hl : By l) (w : World) (hq : ∀ b, q b → b < w.heap.size) (hR : Rd w q (.slice p l.length c) (l.map nv)) :
    Calls Tryd.prog 26 #[.agg #[.slice p l.length c, .int .i64 n]] w fun e w' => CheckPost l n w e w' := by
  obtain ⟨k1, k2⟩ := one_box w #[.slice p l.length c, .int .i64 n] 47
  have H0 := Lib.hid (And.intro k1 k2)
  have hR1 := hR.keep k2
  have hq1 : ∀ b, q b → b < (w.alloc (.cells #[.slice p l.length c, .int .i64 n] 47)).heap.size := fun b hb => Nat.lt_of_lt_of_le (hq b hb) k2.size
  clear k1 k2 hR
  go_enter Tryd.func26, Tryd.ntmps26
  go_wp2_with fail
  generalize w.alloc (.cells #[.slice p l.length c, .int .i64 n] 47) = w1 at *
  refine (validr_any l n q p c hl _ hq1 hR1).mono ?_
  rintro e w2 ⟨rfl, hg⟩
  have hrow := kept_row H0.out.1 hg (by simp)
  obtain ⟨c0, c1⟩ := row_cells hrow
  have HG := Lib.hid (grown_trans H0.out.2 hg)
  have hR2 := hR1.keep hg
  clear hrow hg hR1 H0 hq1
  by_cases hv : vs l n = true
  · obtain ⟨N, rfl⟩ := vs_nat hv
    obtain ⟨hN, hlen⟩ := vs_bits hv
    rw [hv]
    have V := Lib.hid (chkV_ok hv)
    have HLEN := Lib.hid hlen
    clear hv hlen
    go_wp2_with fail
    go_loop [4, 5] (fun r i => ∃ j : Nat, j ≤ N ∧ i = .int .i64 (j : Int) ∧ r = .int .u64 ((crcB (bt l) j : Nat) : Int)) (fun _ i => (N - (RowKit.intOf i).toNat))
    case atStart => exact ⟨0, Nat.zero_le _, rfl, rfl⟩
    case round =>
      obtain ⟨j, hj, rfl, rfl⟩ := hrel
      have hrlt := chk_lt (bt l) j
      generalize hrr : crcB (bt l) j = r at *
      have HRR := Lib.hid hrr
      clear hrr
      by_cases hlt : j < N
      · have C := bitr_any l j q p c hl (by have := HLEN.out; omega) (by omega) w2 hR2
        unfold bw at C
        have D := diff64 (b := bt l j) hrlt
        have HC : Hid (crcB (bt l) (j + 1) = stp r (bt l j)) := by
          show crcB (bt l) (j + 1) = _
          rw [crcB, HRR.out]
        have H1 := Lib.hid C
        clear C
        generalize hbb : bt l j = b at *
        clear hbb
        by_cases hd : (r.testBit 15 != b) = true
        · rw [hd] at D
          have S : Hid (bits .xor .u64 (bits .and .u64 ((r : Int) * 2) 65535) 4129 = ((crcB (bt l) (j + 1) : Nat) : Int)) := by
            show _ = _
            rw [HC.out, stp_diff hd, xor64 hrlt]
          generalize b.toNat = bn at *
          go_wp2_with (go_at_call 60; refine H1.out.mono ?_; rintro e w' ⟨rfl, rfl⟩)
          go_round
          case rel => exact ⟨j + 1, by omega, by go_num, by rw [S.out]⟩
          case measure => simp [RowKit.intOf]; omega
        · have hd0 : (r.testBit 15 != b) = false := by simpa using hd
          rw [hd0] at D
          have S : Hid (bits .and .u64 ((r : Int) * 2) 65535 = ((crcB (bt l) (j + 1) : Nat) : Int)) := by
            show _ = _
            rw [HC.out, stp_same hd0, shift64 hrlt]
          clear hd
          generalize b.toNat = bn at *
          go_wp2_with (go_at_call 60; refine H1.out.mono ?_; rintro e w' ⟨rfl, rfl⟩)
          go_round
          case rel => exact ⟨j + 1, by omega, by go_num, by rw [S.out]⟩
          case measure => simp [RowKit.intOf]; omega
      · obtain rfl : j = N := by omega
        go_wp2_with fail
        go_ret2
        exact check_end (by rw [V.out, HRR.out]) HG.out
  · have hv0 : vs l n = false := by simpa using hv
    have V := Lib.hid (chkV_inv hv0)
    rw [hv0]
    go_wp2_with fail
    go_ret2
    exact check_end V.out HG.out
/-- Bytes as a string of the model. -/
def bs (l : List Nat) : ByteArray := ⟨(l.map fun x => UInt8.ofNat x).toArray⟩
set_option maxRecDepth 100000 in
theorem conv_nv {w : World} {q : Nat → Prop} {p : Option Addr} {k c : Nat} {l : List Nat} (hl : By l) (hk : k = l.length) (hR : Rd w q (.slice p k c) (l.map nv)) (hpc : p = none → c = 0) :
    (convert 36 9 (.slice p k c)).run Tryd.prog w = .ok (.string (bs l)) w := by
  subst hk
  have hmap : ∀ x ∈ l, nv x = .int .u8 (((UInt8.ofNat x).toNat : Nat) : Int) := by
    intro x hx
    have := hl x hx
    unfold nv
    rw [UInt8.toNat_ofNat', Nat.mod_eq_of_lt this]
  cases p with
  | none =>
    obtain rfl := hpc rfl
    obtain rfl : l = [] := by
      obtain ⟨p1, c1, e1, hx⟩ := hR
      injection e1 with a1 a2 a3
      subst a1
      cases l with
      | nil => rfl
      | cons y r => obtain ⟨b, off, hp, _⟩ := hx (by simp); cases hp
    exact Lib.run_convert_nil_bytes (P := Tryd.prog) w 36 9 5 0 Tryd.underlying36 Tryd.underlying5 Tryd.underlying9
  | some ad =>
    have e : l.length = (l.map fun x => UInt8.ofNat x).length := by simp
    rw [e]
    refine run_convert_bytes_back (P := Tryd.prog) w 36 9 5 ad c (l.map fun x => UInt8.ofNat x) Tryd.underlying36 Tryd.underlying5 Tryd.underlying9 (fun j hj => ?_)
    have hj' : j < l.length := by simpa using hj
    have := hR.news j (nv (l[j])) (by rw [List.getElem?_map, List.getElem?_eq_getElem hj']; rfl)
    rw [this, hmap _ (List.getElem_mem hj')]
    simp
/-- Whether two streams are one. -/
def same (l : List Nat) (n : Int) (l' : List Nat) (n' : Int) : Bool := n == n' && (bs l).toList == (bs l').toList
set_option maxRecDepth 100000 in
theorem same_self (l : List Nat) (n : Int) : same l n l n = true := by unfold same; simp
end Go.Proofs.YtpoocenooomghaaDoor

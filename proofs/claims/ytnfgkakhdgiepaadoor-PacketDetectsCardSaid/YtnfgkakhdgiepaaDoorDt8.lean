/- Parts of the proof, packed: PkBack, IoCheckMath, PkDet, PkText, Ref, Draw, IoRows, PkTape. -/
import Derived.Test.YtnfgkakhdgiepaaDoorDt6
import Derived.Test.YtnfgkakhdgiepaaDoorDt7
import Derived.Test.YtnfgkakhdgiepaaDoorDt4
import Derived.Test.YtnfgkakhdgiepaaDoorDt2
import Derived.Test.YtnfgkakhdgiepaaDoorDt5
import Derived.Test.YtnfgkakhdgiepaaDoorDt1
import Derived.Test.YtnfgkakhdgiepaaDoorDt3
/- packet: Decode undoes Encode. -/
namespace Go.Proofs.YtnfgkakhdgiepaaDoor
open Go.RowKit Bs
set_option maxRecDepth 100000 in
theorem num_mid (A C : List Bool) (x k : Nat) (hx : x < 2 ^ k) : num (bf (A ++ nb x k ++ C)) A.length k = x := by
  refine (num_eq hx fun t ht => ?_).symm
  rw [bf_left _ _ _ (by rw [List.length_append, nb_len]; omega), bf_right, bf_nb _ _ _ ht]
set_option maxRecDepth 100000 in
theorem num_pk {B : List Bool} {l : List Nat} {a k : Nat} (hl : l = pk B) (h : a + k ≤ 8 * l.length) : num (bt l) a k = num (bf B) a k := by
  refine num_congr k fun t ht => ?_
  rw [hl]
  refine bt_pk B _ ?_
  rw [hl, pk_len] at h
  omega
set_option maxRecDepth 100000 in
theorem bt_take {l : List Nat} {m i : Nat} (h : i < 8 * m) : bt (l.take m) i = bt l i := by
  unfold bt
  rw [List.getD_eq_getElem?_getD, List.getD_eq_getElem?_getD, List.getElem?_take_of_lt (by omega)]
set_option maxRecDepth 100000 in
theorem flb_split (f : List (Nat × Nat)) (k x wd : Nat) (h : f[k]? = some (x, wd)) : flb f = flb (f.take k) ++ nb x wd ++ flb (f.drop (k + 1)) := by
  have e : f = f.take k ++ (x, wd) :: f.drop (k + 1) := by
    have hk := (List.getElem?_eq_some_iff.1 h)
    obtain ⟨hk, he⟩ := hk
    rw [← he, ← List.drop_eq_getElem_cons hk, List.take_append_drop]
  have e2 : flb f = flb (f.take k ++ (x, wd) :: f.drop (k + 1)) := congrArg flb e
  rw [e2]
  unfold flb
  rw [List.flatMap_append, List.flatMap_cons, ← List.append_assoc]
set_option maxRecDepth 100000 in
theorem take_len (P : Pk) (k : Nat) (hk : k < 10) : (flb ((fl P).take k)).length = offs.getD k 0 := by
  rw [flb_len]
  rcases (show k = 0 ∨ k = 1 ∨ k = 2 ∨ k = 3 ∨ k = 4 ∨ k = 5 ∨ k = 6 ∨ k = 7 ∨ k = 8 ∨ k = 9 by omega) with rfl | rfl | rfl | rfl | rfl | rfl | rfl | rfl | rfl | rfl <;> rfl
/-- All bits of an encoding. -/
def allb (P : Pk) : List Bool := body P ++ nb (ck (body P)) 16
set_option maxRecDepth 100000 in
theorem enc_all (P : Pk) : enc P = pk (allb P) := rfl
set_option maxRecDepth 100000 in
theorem all_len (P : Pk) : (allb P).length = 49 + P.len.toNat + 8 * P.pay.size + 16 := by
  unfold allb
  rw [List.length_append, nb_len, body_len]
set_option maxRecDepth 100000 in
theorem enc_len (P : Pk) : (enc P).length = (49 + P.len.toNat + 8 * P.pay.size + 16 + 7) / 8 := by rw [enc_all, pk_len, all_len]
set_option maxRecDepth 100000 in
theorem wid_at (P : Pk) (k : Nat) (hk : k < 10) : ∃ x, (fl P)[k]? = some (x, wids.getD k 0) := by
  rcases (show k = 0 ∨ k = 1 ∨ k = 2 ∨ k = 3 ∨ k = 4 ∨ k = 5 ∨ k = 6 ∨ k = 7 ∨ k = 8 ∨ k = 9 by omega) with rfl | rfl | rfl | rfl | rfl | rfl | rfl | rfl | rfl | rfl <;> exact ⟨_, rfl⟩
set_option maxRecDepth 100000 in
theorem off_le (k : Nat) (hk : k < 10) : offs.getD k 0 + wids.getD k 0 ≤ 49 := by
  rcases (show k = 0 ∨ k = 1 ∨ k = 2 ∨ k = 3 ∨ k = 4 ∨ k = 5 ∨ k = 6 ∨ k = 7 ∨ k = 8 ∨ k = 9 by omega) with rfl | rfl | rfl | rfl | rfl | rfl | rfl | rfl | rfl | rfl <;> decide
set_option maxRecDepth 100000 in
/-- A header's field is read back. -/
theorem fv_enc {P : Pk} {k x : Nat} (hk : k < 10) (h : (fl P)[k]? = some (x, wids.getD k 0)) (hx : x < 2 ^ wids.getD k 0) : hv7 (enc P) k = x := by
  have ho := off_le k hk
  have hlen := all_len P
  unfold hv7 fv
  have h1 : num (bt ((enc P).take 7)) (offs.getD k 0) (wids.getD k 0) = num (bt (enc P)) (offs.getD k 0) (wids.getD k 0) := num_congr _ fun t ht => bt_take (by omega)
  rw [h1, num_pk (enc_all P) (by rw [enc_len]; omega)]
  have e : allb P = flb ((fl P).take k) ++ nb x (wids.getD k 0) ++ (flb ((fl P).drop (k + 1)) ++ nb P.bits P.len.toNat ++ pb (byl P.pay) ++ nb (ck (body P)) 16) := by
    unfold allb
    generalize nb (ck (body P)) 16 = T
    unfold body
    rw [flb_split (fl P) k x _ h]
    simp only [List.append_assoc]
  rw [e, ← take_len P k hk]
  exact num_mid _ _ _ _ hx
set_option maxRecDepth 100000 in
theorem num_bits {P : Pk} (hb : P.bits < 2 ^ P.len.toNat) : num (bf (allb P)) 49 P.len.toNat = P.bits := by
  have e : allb P = flb (fl P) ++ nb P.bits P.len.toNat ++ (pb (byl P.pay) ++ nb (ck (body P)) 16) := by
    unfold allb
    generalize nb (ck (body P)) 16 = T
    unfold body
    simp only [List.append_assoc]
  rw [e, ← hdr_len P]
  exact num_mid _ _ _ _ hb
set_option maxRecDepth 100000 in
theorem num_check (P : Pk) : num (bf (allb P)) (49 + P.len.toNat + 8 * P.pay.size) 16 = ck (body P) := by
  have h := num_mid (body P) [] (ck (body P)) 16 (chk_lt _ _)
  rw [List.append_nil, body_len] at h
  exact h
set_option maxRecDepth 100000 in
theorem bs_byl (s : ByteArray) : bs (byl s) = s := by
  unfold bs byl
  rw [List.map_map]
  have : (s.data.toList.map ((fun x => UInt8.ofNat x) ∘ fun b => b.toNat)) = s.data.toList := by
    refine (List.map_congr_left fun b _ => ?_).trans (List.map_id _)
    show UInt8.ofNat b.toNat = b
    exact UInt8.ofNat_toNat
  rw [this]
set_option maxRecDepth 100000 in
theorem pay_back (P : Pk) : restP (enc P) P.len.toNat P.pay.size = P.pay := by
  unfold restP
  have hl := byl_len P.pay
  have e : pz (fun i => bt (enc P) (49 + P.len.toNat + i)) (8 * P.pay.size) P.pay.size = byl P.pay := by
    rw [← pk_pb (byl P.pay) (byl_by P.pay)]
    unfold pk
    rw [pb_len, hl, show (8 * P.pay.size + 7) / 8 = P.pay.size by omega]
    refine pz_congr fun i hi => ?_
    simp only [hi, decide_true, Bool.true_and]
    rw [enc_all, bt_pk _ _ (by rw [all_len]; omega)]
    have e2 : allb P = (flb (fl P) ++ nb P.bits P.len.toNat) ++ pb (byl P.pay) ++ nb (ck (body P)) 16 := rfl
    rw [e2, bf_left _ _ _ (by rw [List.length_append, List.length_append, hdr_len, nb_len, pb_len, hl]; omega)]
    have h49 : 49 + P.len.toNat = (flb (fl P) ++ nb P.bits P.len.toNat).length := by rw [List.length_append, hdr_len, nb_len]
    rw [h49, bf_right]
  rw [e, bs_byl]
set_option maxRecDepth 100000 in
theorem lcode_back {n : Int} (h : vl n = true) : 8 * 2 ^ lcode n = n.toNat := by
  rcases vl_cases h with rfl | rfl | rfl | rfl <;> rfl
set_option maxRecDepth 100000 in
/-- Decode undoes Encode. -/
theorem dec_enc {P : Pk} (hP : P.Wf) (h : vpk P = true) : decV (enc P) = (pcells P, 0) := by
  obtain ⟨⟨m1, m2⟩, ⟨s1, s2⟩, ⟨e1, e2⟩, ⟨t1, t2⟩, ⟨n1, n2⟩, ⟨i1, i2⟩, ⟨p1, p2⟩, y1, v1⟩ := vpk_parts h
  have hvl := vb_vl v1
  have V0 : hv7 (enc P) 0 = 2 := fv_enc (by decide) rfl (by decide)
  have V1 : hv7 (enc P) 1 = P.mode.toNat := fv_enc (by decide) rfl (show P.mode.toNat < 4 by omega)
  have V2 : hv7 (enc P) 2 = P.sub.toNat := fv_enc (by decide) rfl (show P.sub.toNat < 8 by omega)
  have V3 : hv7 (enc P) 3 = P.set.toNat := fv_enc (by decide) rfl (show P.set.toNat < 32 by omega)
  have V4 : hv7 (enc P) 4 = lcode P.len := fv_enc (by decide) rfl (lcode_lt P.len)
  have V5 : hv7 (enc P) 5 = P.ttl.toNat := fv_enc (by decide) rfl (show P.ttl.toNat < 64 by omega)
  have V6 : hv7 (enc P) 6 = P.ent.toNat := fv_enc (by decide) rfl (show P.ent.toNat < 1024 by omega)
  have V7 : hv7 (enc P) 7 = P.ing.toNat := fv_enc (by decide) rfl (show P.ing.toNat < 512 by omega)
  have V8 : hv7 (enc P) 8 = P.pro.toNat := fv_enc (by decide) rfl (show P.pro.toNat < 8 by omega)
  have V9 : hv7 (enc P) 9 = P.pay.size := fv_enc (by decide) rfl (show P.pay.size < 128 by omega)
  have hb := vb_lt v1 hP.bits
  have hlen := enc_len P
  have hn : 8 * 2 ^ hv7 (enc P) 4 = P.len.toNat := by rw [V4]; exact lcode_back hvl
  have hz : szV (hv7 (enc P)) = (enc P).length := by unfold szV; rw [hn, V9, hlen]
  have hm : misV (hv7 (enc P)) = 0 := by
    unfold misV
    rw [if_neg (by rw [V0]; decide), if_neg (by rw [V1]; omega), if_neg (by rw [V7, V9]; omega)]
  have hr : restE (enc P) P.len.toNat P.pay.size = 0 := by
    unfold restE
    rw [if_neg, if_neg]
    · intro hne
      refine hne ?_
      have hx : 0 = num (bt (enc P)) (49 + P.len.toNat + 8 * P.pay.size + 16) (8 * (enc P).length - (49 + P.len.toNat + 8 * P.pay.size + 16)) := by
        refine num_eq (Nat.two_pow_pos _) fun t ht => ?_
        rw [Nat.zero_testBit, enc_all, bt_pk _ _ (by rw [all_len]; rw [hlen] at ht; omega)]
        exact (bf_out _ _ (by rw [all_len]; omega)).symm
      exact hx.symm
    · intro hne
      refine hne ?_
      rw [num_pk (enc_all P) (by rw [hlen]; omega), num_check]
      unfold ck
      rw [body_len]
      refine chk_same _ fun i hi => ?_
      rw [enc_all, bt_pk _ _ (by rw [all_len]; omega)]
      unfold allb
      rw [bf_left _ _ _ (by rw [body_len]; exact hi)]
  have hbits : num (bt (enc P)) 49 P.len.toNat = P.bits := by
    rw [num_pk (enc_all P) (by rw [hlen]; omega), num_bits hb]
  unfold decV
  rw [if_neg (by rw [hlen]; omega), if_neg (by rw [hm]; simp), if_neg (by rw [hz]; omega), hz, List.take_length, hn]
  have hrest : restV (hv7 (enc P)) P.len.toNat (enc P) = (pcells P, 0) := by
    unfold restV
    rw [V9, if_pos hr, hbits, pay_back]
    unfold rcells pcells
    rw [V1, V2, V3, V5, V6, V7, V8, Int.toNat_of_nonneg (by omega), Int.toNat_of_nonneg s1, Int.toNat_of_nonneg e1, Int.toNat_of_nonneg t1, Int.toNat_of_nonneg n1, Int.toNat_of_nonneg i1, Int.toNat_of_nonneg p1]
    rw [Int.toNat_of_nonneg (show 0 ≤ P.len by rcases vl_cases hvl with h | h | h | h <;> rw [h] <;> decide)]
  rw [hrest]
  rw [if_neg (by simp), if_neg (by omega)]
end Go.Proofs.YtnfgkakhdgiepaaDoor

/- The check number under changed bits: one, two, three bits, a burst. No program is named here. -/
namespace Go.Proofs.YtnfgkakhdgiepaaDoor
namespace Bs
set_option maxRecDepth 100000 in
theorem two_xor (r s : Nat) : 2 * (r ^^^ s) = 2 * r ^^^ 2 * s := by
  apply Nat.eq_of_testBit_eq
  intro i
  cases i with
  | zero => rw [Nat.testBit_xor, Nat.testBit_zero, Nat.testBit_zero, Nat.testBit_zero]; simp
  | succ i =>
    rw [Nat.testBit_xor, Nat.testBit_succ, Nat.testBit_succ, Nat.testBit_succ, show 2 * (r ^^^ s) / 2 = r ^^^ s by omega, show 2 * r / 2 = r by omega, show 2 * s / 2 = s by omega, Nat.testBit_xor]
set_option maxRecDepth 100000 in
theorem stp_xor (r s : Nat) (a b : Bool) (hr : r < 65536) (hs : s < 65536) : stp r a ^^^ stp s b = stp (r ^^^ s) (a != b) := by
  have e16 : (65536 : Nat) = 2 ^ 16 := rfl
  have h1 : 2 * (r ^^^ s) % 65536 = (2 * r % 65536) ^^^ (2 * s % 65536) := by
    rw [e16, ← Nat.xor_mod_two_pow]
    rw [two_xor]
  unfold stp
  rw [Nat.testBit_xor, h1]
  generalize 2 * r % 65536 = x
  generalize 2 * s % 65536 = y
  cases r.testBit 15 <;> cases s.testBit 15 <;> cases a <;> cases b <;> simp <;> (apply Nat.eq_of_testBit_eq; intro i; simp only [Nat.testBit_xor]; cases x.testBit i <;> cases y.testBit i <;> cases Nat.testBit 4129 i <;> rfl)
/-- The difference of two registers behind k bits, e the difference of the bits. -/
def dif (e : Nat → Bool) : Nat → Nat
  | 0 => 0
  | k + 1 => stp (dif e k) (e k)
set_option maxRecDepth 100000 in
theorem dif_lt (e : Nat → Bool) : ∀ k, dif e k < 65536
  | 0 => by simp [dif]
  | k + 1 => stp_lt _ _
set_option maxRecDepth 100000 in
theorem chk_dif (f g : Nat → Bool) : ∀ k, chk f k ^^^ chk g k = dif (fun i => f i != g i) k
  | 0 => by simp [chk, dif]
  | k + 1 => by rw [chk, chk, dif, stp_xor _ _ _ _ (chk_lt f k) (chk_lt g k), chk_dif f g k]
set_option maxRecDepth 100000 in
theorem chk_ne {f g : Nat → Bool} {k : Nat} (h : dif (fun i => f i != g i) k ≠ 0) : chk f k ≠ chk g k := by
  intro e
  rw [← chk_dif, e, Nat.xor_self] at h
  exact h rfl
set_option maxRecDepth 100000 in
theorem dif_congr {e e' : Nat → Bool} : ∀ k, (∀ i, i < k → e i = e' i) → dif e k = dif e' k
  | 0, _ => rfl
  | k + 1, h => by rw [dif, dif, dif_congr k (fun i hi => h i (by omega)), h k (by omega)]
/-- The parity of the low k bits. -/
def par (d : Nat) : Nat → Bool
  | 0 => false
  | k + 1 => (d.testBit k != par d k)
set_option maxRecDepth 100000 in
theorem par_xor (x y : Nat) : ∀ k, par (x ^^^ y) k = (par x k != par y k)
  | 0 => rfl
  | k + 1 => by
    rw [par, par, par, par_xor x y k, Nat.testBit_xor]
    cases x.testBit k <;> cases y.testBit k <;> cases par x k <;> cases par y k <;> rfl
set_option maxRecDepth 100000 in
theorem par_shift (d : Nat) : ∀ k, k ≤ 15 → par (2 * d % 65536) (k + 1) = par d k
  | 0, _ => by
    rw [par, par, par, Nat.testBit_zero]
    simp <;> omega
  | k + 1, h => by
    rw [par, par_shift d k (by omega), par]
    congr 1
    rw [show (65536 : Nat) = 2 ^ 16 from rfl, Nat.testBit_mod_two_pow, Nat.testBit_succ, show 2 * d / 2 = d by omega]
    simp <;> omega
set_option maxRecDepth 100000 in
theorem par_stp (d : Nat) (e : Bool) : par (stp d e) 16 = (par d 16 != e) := by
  have h1 : par (2 * d % 65536) 16 = par d 15 := par_shift d 15 (Nat.le_refl _)
  have h2 : par 4129 16 = true := by decide
  have h3 : par d 16 = (d.testBit 15 != par d 15) := rfl
  unfold stp
  split
  · rename_i h
    rw [par_xor, h1, h2, h3]
    revert h
    cases d.testBit 15 <;> cases e <;> cases par d 15 <;> simp
  · rename_i h
    rw [h1, h3]
    revert h
    cases d.testBit 15 <;> cases e <;> cases par d 15 <;> simp
/-- The parity of the first k differences. -/
def pe (e : Nat → Bool) : Nat → Bool
  | 0 => false
  | k + 1 => (pe e k != e k)
set_option maxRecDepth 100000 in
theorem par_dif (e : Nat → Bool) : ∀ k, par (dif e k) 16 = pe e k
  | 0 => by show par 0 16 = false; decide
  | k + 1 => by rw [dif, par_stp, par_dif e k, pe]
set_option maxRecDepth 100000 in
theorem par_zero : par 0 16 = false := by decide
set_option maxRecDepth 100000 in
theorem dif_odd {e : Nat → Bool} {k : Nat} (h : pe e k = true) : dif e k ≠ 0 := by
  intro h0
  have := par_dif e k
  rw [h0, par_zero, h] at this
  cases this
set_option maxRecDepth 100000 in
theorem pe_xor (e e' : Nat → Bool) : ∀ k, pe (fun i => e i != e' i) k = (pe e k != pe e' k)
  | 0 => rfl
  | k + 1 => by
    rw [pe, pe, pe, pe_xor e e' k]
    cases e k <;> cases e' k <;> cases pe e k <;> cases pe e' k <;> rfl
set_option maxRecDepth 100000 in
theorem pe_one (p : Nat) : ∀ k, pe (fun i => decide (i = p)) k = decide (p < k)
  | 0 => by simp [pe]
  | k + 1 => by
    rw [pe, pe_one p k]
    by_cases h : k = p
    · subst h; simp
    · have h1 : decide (p < k + 1) = decide (p < k) := by rw [decide_eq_decide]; omega
      simp [h, h1]
set_option maxRecDepth 100000 in
theorem stp_zero {d : Nat} (hd : d < 65536) (h : stp d false = 0) : d = 0 := by
  have h0 : (stp d false).testBit 0 = false := by rw [h]; exact Nat.zero_testBit _
  unfold stp at h h0
  split at h
  · rename_i hb
    rw [if_pos hb, Nat.testBit_xor, show (65536 : Nat) = 2 ^ 16 from rfl, Nat.testBit_mod_two_pow, Nat.testBit_zero] at h0
    have : (4129 : Nat).testBit 0 = true := by decide
    rw [this] at h0
    simp at h0 <;> omega
  · rename_i hb
    have h15 : d.testBit 15 = false := by revert hb; cases d.testBit 15 <;> simp
    have hlt : d / 32768 = 0 := by rw [bit15 hd, h15]; rfl
    omega
set_option maxRecDepth 100000 in
/-- A difference that stands goes on where no bit differs. -/
theorem dif_stays {e : Nat → Bool} {k : Nat} (h : dif e k ≠ 0) : ∀ m, (∀ i, k ≤ i → i < k + m → e i = false) → dif e (k + m) ≠ 0
  | 0, _ => h
  | m + 1, he => by
    have h1 := dif_stays h m fun i h1 h2 => he i h1 (by omega)
    show dif e ((k + m) + 1) ≠ 0
    rw [dif, he (k + m) (by omega) (by omega)]
    exact fun h0 => h1 (stp_zero (dif_lt _ _) h0)
set_option maxRecDepth 100000 in
theorem dif_none {e : Nat → Bool} : ∀ k, (∀ i, i < k → e i = false) → dif e k = 0
  | 0, _ => rfl
  | k + 1, h => by rw [dif, dif_none k (fun i hi => h i (by omega)), h k (by omega)]; decide
/-- m steps without a difference, behind one. -/
def zst : Nat → Nat
  | 0 => 4129
  | m + 1 => stp (zst m) false
set_option maxRecDepth 100000 in
theorem zst_all : ∀ m, m < 300 → stp (zst m) true ≠ 0 := by decide +kernel
set_option maxRecDepth 100000 in
theorem dif_run {e : Nat → Bool} {p : Nat} (h0 : ∀ i, i < p → e i = false) (hp : e p = true) : ∀ m, (∀ i, p < i → i < p + 1 + m → e i = false) → dif e (p + 1 + m) = zst m
  | 0, _ => by
    show dif e (p + 1) = _
    rw [dif, dif_none p h0, hp]; decide
  | m + 1, h => by
    show dif e ((p + 1 + m) + 1) = _
    rw [dif, dif_run h0 hp m (fun i h1 h2 => h i h1 (by omega)), h (p + 1 + m) (by omega) (by omega), zst]
set_option maxRecDepth 100000 in
theorem dif_two_lt {e : Nat → Bool} {p r k : Nat} (hpr : p < r) (hr : r < k) (hk : k ≤ 300) (he : ∀ i, i < k → e i = (decide (i = p) != decide (i = r))) : dif e k ≠ 0 := by
  have h1 : dif e (p + 1 + (r - p - 1)) = zst (r - p - 1) := by
    refine dif_run (fun i hi => ?_) ?_ _ fun i h1 h2 => ?_
    · rw [he i (by omega)]; have a1 : ¬ i = p := by omega
      have a2 : ¬ i = r := by omega
      simp [a1, a2]
    · rw [he p (by omega)]; have a2 : ¬ p = r := by omega
      simp [a2]
    · rw [he i (by omega)]; have a1 : ¬ i = p := by omega
      have a2 : ¬ i = r := by omega
      simp [a1, a2]
  rw [show p + 1 + (r - p - 1) = r by omega] at h1
  have h2 : dif e (r + 1) ≠ 0 := by
    rw [dif, h1, he r hr]
    have a1 : ¬ r = p := by omega
    simp only [a1, decide_false, decide_true, Bool.false_bne]
    exact zst_all _ (by omega)
  have h3 := dif_stays h2 (k - (r + 1)) fun i h1 h2 => by
    rw [he i (by omega)]; have a1 : ¬ i = p := by omega
    have a2 : ¬ i = r := by omega
    simp [a1, a2]
  rw [show r + 1 + (k - (r + 1)) = k by omega] at h3
  exact h3
set_option maxRecDepth 100000 in
theorem dif_two {e : Nat → Bool} {p r k : Nat} (hne : p ≠ r) (hp : p < k) (hr : r < k) (hk : k ≤ 300) (he : ∀ i, i < k → e i = (decide (i = p) != decide (i = r))) : dif e k ≠ 0 := by
  rcases Nat.lt_or_ge p r with h | h
  · exact dif_two_lt h hr hk he
  · refine dif_two_lt (p := r) (r := p) (by omega) hp hk fun i hi => ?_
    rw [he i hi]
    cases decide (i = p) <;> cases decide (i = r) <;> rfl
set_option maxRecDepth 100000 in
theorem dif_one {e : Nat → Bool} {p k : Nat} (hp : p < k) (he : ∀ i, i < k → e i = decide (i = p)) : dif e k ≠ 0 := by
  rw [dif_congr k he]
  exact dif_odd (by rw [pe_one]; simpa using hp)
set_option maxRecDepth 100000 in
theorem dif_three {e : Nat → Bool} {p r s k : Nat} (hp : p < k) (hr : r < k) (hs : s < k) (he : ∀ i, i < k → e i = ((decide (i = p) != decide (i = r)) != decide (i = s))) : dif e k ≠ 0 := by
  rw [dif_congr k he]
  refine dif_odd ?_
  rw [pe_xor (fun i => decide (i = p) != decide (i = r)), pe_xor (fun i => decide (i = p)), pe_one, pe_one, pe_one]
  simp [hp, hr, hs]
set_option maxRecDepth 100000 in
/-- Where a step ends with low zeros, it began with one fewer. -/
theorem stp_low {d : Nat} {e : Bool} {j : Nat} (hd : d < 65536) (hj : j < 16) (h : stp d e % 2 ^ (j + 1) = 0) : d % 2 ^ j = 0 := by
  have hb : (stp d e).testBit 0 = false := by
    have : (stp d e % 2 ^ (j + 1)).testBit 0 = false := by rw [h]; exact Nat.zero_testBit _
    rw [Nat.testBit_mod_two_pow] at this
    simpa using this
  have h2 : stp d e = 2 * d % 65536 := by
    unfold stp
    unfold stp at hb
    split
    · rename_i hc
      rw [if_pos hc, Nat.testBit_xor, show (65536 : Nat) = 2 ^ 16 from rfl, Nat.testBit_mod_two_pow, Nat.testBit_zero] at hb
      have h4 : (4129 : Nat).testBit 0 = true := by decide
      rw [h4] at hb
      simp at hb <;> omega
    · rfl
  rw [h2, show (65536 : Nat) = 2 ^ 16 from rfl, Nat.mod_mod_of_dvd _ (Nat.pow_dvd_pow 2 (by omega)), Nat.pow_succ, Nat.mul_comm (2 ^ j) 2, Nat.mul_mod_mul_left] at h
  first | exact h | omega
set_option maxRecDepth 100000 in
theorem dif_low {e : Nat → Bool} {k : Nat} (h : dif e k = 0) : ∀ m, m ≤ k → m ≤ 16 → dif e (k - m) % 2 ^ (16 - m) = 0
  | 0, _, _ => by rw [Nat.sub_zero, h]
  | m + 1, h1, h2 => by
    have h3 := dif_low h m (by omega) (by omega)
    rw [show k - m = (k - (m + 1)) + 1 by omega, dif, show 16 - m = (16 - (m + 1)) + 1 by omega] at h3
    exact stp_low (dif_lt _ _) (by omega) h3
set_option maxRecDepth 100000 in
theorem dif_burst {e : Nat → Bool} {p k : Nat} (hpk : p + 16 ≤ k) (h0 : ∀ i, i < p → e i = false) (hp : e p = true) (h1 : ∀ i, p + 16 ≤ i → i < k → e i = false) : dif e k ≠ 0 := by
  have h2 : dif e (p + 16) ≠ 0 := by
    intro hz
    have h3 := dif_low hz 15 (by omega) (by omega)
    have h4 := dif_run h0 hp 0 (fun i a b => by omega)
    rw [show p + 16 - 15 = p + 1 + 0 by omega, h4] at h3
    revert h3; decide
  have h3 := dif_stays h2 (k - (p + 16)) fun i a b => h1 i a (by omega)
  rw [show p + 16 + (k - (p + 16)) = k by omega] at h3
  exact h3
end Bs
end Go.Proofs.YtnfgkakhdgiepaaDoor

/- packet: up to three changed bits of an encoding are seen. -/
namespace Go.Proofs.YtnfgkakhdgiepaaDoor
open Go.RowKit Bs
namespace Bs
set_option maxRecDepth 100000 in
/-- A register that takes in its own bits ends at zero. -/
theorem chk_run {f : Nat → Bool} {K : Nat} (h : num f K 16 = chk f K) : ∀ j, j ≤ 16 → chk f (K + j) = chk f K * 2 ^ j % 65536
  | 0, _ => by rw [Nat.add_zero, Nat.pow_zero, Nat.mul_one, Nat.mod_eq_of_lt (chk_lt f K)]
  | j + 1, hj => by
    have ih := chk_run h j (by omega)
    show stp (chk f (K + j)) (f (K + j)) = _
    have hb : (chk f (K + j)).testBit 15 = f (K + j) := by
      have ht := num_test f K 16 (15 - j)
      rw [h, show 16 - 1 - (15 - j) = j by omega] at ht
      rw [ih, show (65536 : Nat) = 2 ^ 16 from rfl, Nat.testBit_mod_two_pow, Nat.testBit_mul_two_pow, ht]
      have a1 : decide (15 < 16) = true := by decide
      have a2 : decide (j ≤ 15) = true := by simpa using (by omega : j ≤ 15)
      have a3 : decide (15 - j < 16) = true := by simpa using (by omega : 15 - j < 16)
      first | simp [a1, a2, a3] | (simp [a2]; omega)
    rw [stp_same (by rw [hb]; simp), ih, Nat.pow_succ]
    rw [Nat.mul_mod_mod, Nat.mul_comm 2, Nat.mul_assoc]
set_option maxRecDepth 100000 in
theorem chk_zero {f : Nat → Bool} {K : Nat} (h : num f K 16 = chk f K) : chk f (K + 16) = 0 := by
  rw [chk_run h 16 (Nat.le_refl _)]
  exact Nat.mul_mod_left _ _
set_option maxRecDepth 100000 in
theorem zst_more : ∀ m, m < 700 → stp (zst m) true ≠ 0 := by decide +kernel
set_option maxRecDepth 100000 in
theorem dif_two_far_lt {e : Nat → Bool} {p r k : Nat} (hpr : p < r) (hr : r < k) (hk : k ≤ 700) (he : ∀ i, i < k → e i = (decide (i = p) != decide (i = r))) : dif e k ≠ 0 := by
  have h1 : dif e (p + 1 + (r - p - 1)) = zst (r - p - 1) := by
    refine dif_run (fun i hi => ?_) ?_ _ fun i h1 h2 => ?_
    · rw [he i (by omega)]; have a1 : ¬ i = p := by omega
      have a2 : ¬ i = r := by omega
      simp [a1, a2]
    · rw [he p (by omega)]; have a2 : ¬ p = r := by omega
      simp [a2]
    · rw [he i (by omega)]; have a1 : ¬ i = p := by omega
      have a2 : ¬ i = r := by omega
      simp [a1, a2]
  rw [show p + 1 + (r - p - 1) = r by omega] at h1
  have h2 : dif e (r + 1) ≠ 0 := by
    rw [dif, h1, he r hr]
    have a1 : ¬ r = p := by omega
    simp only [a1, decide_false, decide_true, Bool.false_bne]
    exact zst_more _ (by omega)
  have h3 := dif_stays h2 (k - (r + 1)) fun i h1 h2 => by
    rw [he i (by omega)]; have a1 : ¬ i = p := by omega
    have a2 : ¬ i = r := by omega
    simp [a1, a2]
  rw [show r + 1 + (k - (r + 1)) = k by omega] at h3
  exact h3
set_option maxRecDepth 100000 in
theorem dif_two_far {e : Nat → Bool} {p r k : Nat} (hne : p ≠ r) (hp : p < k) (hr : r < k) (hk : k ≤ 700) (he : ∀ i, i < k → e i = (decide (i = p) != decide (i = r))) : dif e k ≠ 0 := by
  rcases Nat.lt_or_ge p r with h | h
  · exact dif_two_far_lt h hr hk he
  · refine dif_two_far_lt (p := r) (r := p) (by omega) hp hk fun i hi => ?_
    rw [he i hi]
    cases decide (i = p) <;> cases decide (i = r) <;> rfl
set_option maxRecDepth 100000 in
/-- Up to three places, those below k count. -/
theorem dif_some {e : Nat → Bool} {a b c k : Nat} {A B C : Prop} [Decidable A] [Decidable B] [Decidable C] (hk : k ≤ 700) (hab : A → B → a ≠ b) (hac : A → C → a ≠ c) (hbc : B → C → b ≠ c)
    (he : ∀ i, i < k → e i = ((decide (A ∧ i = a) != decide (B ∧ i = b)) != decide (C ∧ i = c))) (h : (A ∧ a < k) ∨ (B ∧ b < k) ∨ (C ∧ c < k)) : dif e k ≠ 0 := by
  have none_ : ∀ {X : Prop} [Decidable X] {x : Nat}, ¬ (X ∧ x < k) → ∀ i, i < k → decide (X ∧ i = x) = false := by
    intro X _ x hn i hi
    rw [decide_eq_false_iff_not]
    rintro ⟨h1, rfl⟩
    exact hn ⟨h1, hi⟩
  have some_ : ∀ {X : Prop} [Decidable X] {x : Nat}, X → ∀ i, decide (X ∧ i = x) = decide (i = x) := by
    intro X _ x hx i
    rw [decide_eq_decide]
    exact ⟨fun h => h.2, fun h => ⟨hx, h⟩⟩
  by_cases hA : A ∧ a < k <;> by_cases hB : B ∧ b < k <;> by_cases hC : C ∧ c < k
  · exact dif_three hA.2 hB.2 hC.2 fun i hi => by rw [he i hi, some_ hA.1, some_ hB.1, some_ hC.1]
  · exact dif_two_far (hab hA.1 hB.1) hA.2 hB.2 hk fun i hi => by rw [he i hi, some_ hA.1, some_ hB.1, none_ hC i hi]; simp
  · exact dif_two_far (hac hA.1 hC.1) hA.2 hC.2 hk fun i hi => by rw [he i hi, some_ hA.1, none_ hB i hi, some_ hC.1]; simp
  · exact dif_one hA.2 fun i hi => by rw [he i hi, some_ hA.1, none_ hB i hi, none_ hC i hi]; simp
  · exact dif_two_far (hbc hB.1 hC.1) hB.2 hC.2 hk fun i hi => by rw [he i hi, none_ hA i hi, some_ hB.1, some_ hC.1]; simp
  · exact dif_one hB.2 fun i hi => by rw [he i hi, none_ hA i hi, some_ hB.1, none_ hC i hi]; simp
  · exact dif_one hC.2 fun i hi => by rw [he i hi, none_ hA i hi, none_ hB i hi, some_ hC.1]; simp
  · exact absurd h (by rintro (h | h | h) <;> contradiction)
end Bs
/-- A place of an encoding that may be changed. -/
def Free (n i : Nat) : Prop := 2 ≤ i ∧ i < n ∧ (i < 12 ∨ 13 < i) ∧ (i < 42 ∨ 48 < i)
set_option maxRecDepth 100000 in
/-- What is decoded of an encoding with one, two or three changed bits is an error. -/
theorem det {P : Pk} (hP : P.Wf) (h : vpk P = true) {l : List Nat} (hlen : l.length = (enc P).length) {a b c : Nat} {A B C : Prop} [Decidable A] [Decidable B] [Decidable C]
    (hA : A) (fa : A → Free (8 * l.length) a) (fb : B → Free (8 * l.length) b) (fc : C → Free (8 * l.length) c) (hab : A → B → a ≠ b) (hac : A → C → a ≠ c) (hbc : B → C → b ≠ c)
    (hd : ∀ i, i < 8 * l.length → (bt (enc P) i != bt l i) = ((decide (A ∧ i = a) != decide (B ∧ i = b)) != decide (C ∧ i = c))) : (decV l).2 ≠ 0 := by
  intro h0
  obtain ⟨⟨m1, m2⟩, ⟨s1, s2⟩, ⟨e1, e2⟩, ⟨t1, t2⟩, ⟨n1, n2⟩, ⟨i1, i2⟩, ⟨p1, p2⟩, y1, v1⟩ := vpk_parts h
  have hvl := vb_vl v1
  have hl := enc_len P
  have V4 : hv7 (enc P) 4 = lcode P.len := fv_enc (by decide) rfl (lcode_lt P.len)
  have V9 : hv7 (enc P) 9 = P.pay.size := fv_enc (by decide) rfl (show P.pay.size < 128 by omega)
  have h8 : 8 ≤ P.len.toNat ∧ P.len.toNat ≤ 64 := by rcases vl_cases hvl with h | h | h | h <;> rw [h] <;> decide
  have same : ∀ i, i < 8 * l.length → ¬ Free (8 * l.length) i → bt (enc P) i = bt l i := by
    intro i hi hf
    have := hd i hi
    have g : ∀ {X : Prop} [Decidable X] {x : Nat}, (X → Free (8 * l.length) x) → decide (X ∧ i = x) = false := by
      intro X _ x hx
      rw [decide_eq_false_iff_not]
      rintro ⟨h1, rfl⟩
      exact hf (hx h1)
    rw [g fa, g fb, g fc] at this
    revert this
    cases bt (enc P) i <;> cases bt l i <;> decide
  have L4 : hv7 l 4 = lcode P.len := by
    rw [← V4]
    unfold hv7 fv
    refine num_congr _ fun t ht => ?_
    have ht : t < 2 := ht
    show bt (l.take 7) (12 + t) = bt ((enc P).take 7) (12 + t)
    rw [bt_take (by omega), bt_take (by omega)]
    exact (same _ (by omega) (fun hf => by have := hf.2.2.1; omega)).symm
  have L9 : hv7 l 9 = P.pay.size := by
    rw [← V9]
    unfold hv7 fv
    refine num_congr _ fun t ht => ?_
    have ht : t < 7 := ht
    show bt (l.take 7) (42 + t) = bt ((enc P).take 7) (42 + t)
    rw [bt_take (by omega), bt_take (by omega)]
    exact (same _ (by omega) (fun hf => by have := hf.2.2.2; omega)).symm
  have hn : 8 * 2 ^ hv7 l 4 = P.len.toNat := by rw [L4]; exact lcode_back hvl
  have hz : szV (hv7 l) = l.length := by unfold szV; rw [hn, L9, hlen, hl]
  unfold decV at h0
  rw [if_neg (by omega)] at h0
  split at h0
  · rename_i hm; exact hm h0
  · rw [if_neg (by omega), hz, List.take_length, hn] at h0
    split at h0
    · rename_i hm; exact hm h0
    · rename_i hm
      have hm : (restV (hv7 l) P.len.toNat l).2 = 0 := by simpa using hm
      unfold restV at hm
      rw [L9] at hm
      have hr : restE l P.len.toNat P.pay.size = 0 := by
        split at hm
        · assumption
        · exact hm
      obtain ⟨K, hK⟩ : ∃ K, K = 49 + P.len.toNat + 8 * P.pay.size := ⟨_, rfl⟩
      unfold restE at hr
      rw [← hK] at hr
      split at hr
      · cases hr
      · rename_i hc
        split at hr
        · cases hr
        · rename_i hp
          have hc : num (bt l) K 16 = chk (bt l) K := by simpa using hc
          have hp : num (bt l) (K + 16) (8 * l.length - (K + 16)) = 0 := by simpa using hp
          have hcE : num (bt (enc P)) K 16 = chk (bt (enc P)) K := by
            rw [num_pk (enc_all P) (by omega), hK, num_check]
            have : chk (bt (enc P)) K = ck (body P) := by
              unfold ck
              rw [body_len, ← hK]
              refine chk_same _ fun i hi => ?_
              rw [enc_all, bt_pk _ _ (by rw [all_len]; omega)]
              unfold allb
              rw [bf_left _ _ _ (by rw [body_len]; omega)]
            rw [← hK, this]
          have z1 := chk_zero hc
          have z2 := chk_zero hcE
          by_cases hs : (A ∧ a < K + 16) ∨ (B ∧ b < K + 16) ∨ (C ∧ c < K + 16)
          · exact chk_ne (dif_some (e := fun i => bt (enc P) i != bt l i) (by omega) hab hac hbc (fun i hi => hd i (by omega)) hs) (z2.trans z1.symm)
          · have ha : K + 16 ≤ a := by
              refine Nat.le_of_not_lt fun hlt => hs (.inl ⟨hA, hlt⟩)
            have hal := (fa hA).2.1
            have hda := hd a hal
            have g1 : decide (A ∧ a = a) = true := by simpa using hA
            have g2 : decide (B ∧ a = b) = false := by rw [decide_eq_false_iff_not]; rintro ⟨h1, h2⟩; exact hab hA h1 h2
            have g3 : decide (C ∧ a = c) = false := by rw [decide_eq_false_iff_not]; rintro ⟨h1, h2⟩; exact hac hA h1 h2
            rw [g1, g2, g3] at hda
            have hea : bt (enc P) a = false := by
              rw [enc_all, bt_pk _ _ (by rw [all_len]; omega)]
              exact bf_out _ _ (by rw [all_len]; omega)
            rw [hea] at hda
            have hla : bt l a = true := by revert hda; cases bt l a <;> decide
            have ht := num_test (bt l) (K + 16) (8 * l.length - (K + 16)) (8 * l.length - 1 - a)
            rw [hp, Nat.zero_testBit, show K + 16 + (8 * l.length - (K + 16) - 1 - (8 * l.length - 1 - a)) = a by omega, hla] at ht
            have : decide (8 * l.length - 1 - a < 8 * l.length - (K + 16)) = true := by simpa using (by omega : 8 * l.length - 1 - a < 8 * l.length - (K + 16))
            rw [this] at ht
            cases ht
end Go.Proofs.YtnfgkakhdgiepaaDoor

/- The tape's texts. -/
namespace Go.Proofs.YtnfgkakhdgiepaaDoor
open Go.RowKit Bs
def bval (x : UInt8) : Value := .int .u8 (x.toNat : Int)
set_option maxRecDepth 100000 in
theorem conv_bytes {w : World} {q : Nat → Prop} {v : Value} {l : List UInt8} (hR : Rd w q v (l.map bval)) (h0 : l = [] → v = .slice none 0 0) :
    (convert 34 9 v).run Tryd.prog w = .ok (.string ⟨l.toArray⟩) w := by
  by_cases hl : l = []
  · rw [h0 hl, hl]
    exact Lib.run_convert_nil_bytes (P := Tryd.prog) w 34 9 5 0 Tryd.underlying34 Tryd.underlying5 Tryd.underlying9
  · obtain ⟨p, c, rfl, hc⟩ := hR
    obtain ⟨b, off, rfl, _, hcell⟩ := hc (by simpa using hl)
    rw [List.length_map]
    refine run_convert_bytes_back (P := Tryd.prog) w 34 9 5 ⟨b, off, none⟩ c l Tryd.underlying34 Tryd.underlying5 Tryd.underlying9 (fun j hj => ?_)
    have hadd : (⟨b, off, none⟩ : Addr).add j = ⟨b, off + j, none⟩ := by unfold Addr.add; split <;> simp_all
    rw [hadd]
    exact hcell j _ (by rw [List.getElem?_map, List.getElem?_eq_getElem hj]; rfl)
/-- A drawn text. -/
def TextRel (a most : Nat) (w : World) (v : Value) (k : Nat) (wr : World) : Prop :=
  ∃ l : List UInt8, l.length + k ≤ most ∧ wr.ownsRow w.heap.size 5 1 v l.length (l.map bval) ∧ (l = [] → v = .slice none 0 0) ∧ St a w wr
set_option maxRecDepth 100000 in
theorem TextRel.open_ {a most k : Nat} {w wr : World} {v : Value} (h : TextRel a most w v k wr) : ∃ l : List UInt8, l.length + k ≤ most ∧ wr.ownsRow w.heap.size 5 1 v l.length (l.map bval) ∧ (l = [] → v = .slice none 0 0) ∧ St a w wr := h
def TextPost (a most : Nat) (w : World) (e : Ending) (w' : World) : Prop := ∃ s : ByteArray, e = .returned (.string s) ∧ s.size ≤ most ∧ St a w w'
set_option maxRecDepth 100000 in
set_option maxHeartbeats 1600000 in
theorem text_any (a : Nat) (most : Nat) (hm : most ≤ 1000) (w : World) (hT : Tp w a) :
    Calls Tryd.prog 62 #[.pointer (some ⟨a, 0, none⟩), .int .i64 (most : Int)] w fun e w' => TextPost a most w e w' := by
  obtain ⟨i0, hi, hz0, hz1, hz2⟩ := info_parts info_u8
  have ha := hT.lt
  go_enter Tryd.func62, Tryd.ntmps62
  go_wp2_with fail
  refine (range_any a 0 (most : Int) (by omega) (by omega) (by omega) (by omega) _ hT).mono ?_
  rintro e w1 ⟨r, rfl, hr, hs1⟩
  obtain ⟨K, rfl⟩ := Int.eq_ofNat_of_zero_le hr.1
  have hK : K ≤ most := by unfold RangeOf at hr; omega
  have L0 : Hid (TextRel a most w (.slice none 0 0) K w1) :=
    Lib.hid ⟨[], by simpa using hK, World.ownsRow_nil _ _ _ _, fun _ => rfl, hs1⟩
  clear hr hs1
  go_wp2_with fail
  go_loopw [5, 6] (fun v i wr => ∃ k : Nat, k ≤ most ∧ i = .int .i64 (k : Int) ∧ TextRel a most w v k wr) (fun _ i _ => (intOf i).toNat)
  case atStart => exact ⟨K, hK, rfl, L0.out⟩
  case round =>
    obtain ⟨k, hk, rfl, hL⟩ := hrel
    obtain ⟨l, hlk, hown0, hnil, hs⟩ := hL.open_
    clear hL L0
    by_cases hk1 : 1 ≤ k
    · clear hnil
      go_wp2_with fail
      refine (next_any a 256 (by unfold I64; omega) _ hs.2).mono ?_
      rintro e w2 ⟨x, rfl, hx, hs2⟩
      obtain ⟨X, rfl⟩ := Int.eq_ofNat_of_zero_le hx.1
      have hX : X < 256 := by have := hx.2.1 (by omega); omega
      have hown := own_kept ha hown0 hs2.1
      have HS := Lib.hid (hs.trans hs2)
      have HO := Lib.hid hown
      have hsz := HS.out.1.size
      have hll : l.length ≤ 1000 := by omega
      have HLK := Lib.hid hlk
      clear hx hs hs2 hown0
      go_wp2_with (at_builtin; refine wpList_append_own _ rfl _ _ 34 rfl w.heap.size 5 i0 (.int .u8 0) 1 1 Tryd.underlying34 hi hz0 hz1 hz2 rfl (by decide) _ _ _ rfl (hown.alloc _) ⟨w2.heap.size, 0, none⟩ 1 1 [.int .u8 (X : Int)] rfl rfl ?c1 ?c2 ?c3 ?c4 ?c5 ?_)
      case c1 => exact cell_one _ _ _
      case c2 => intro u hu; simp at hu; subst hu; rfl
      case c3 => unfold maxLen; omega
      case c4 => omega
      case c5 => simp; omega
      intro v' w3 hown' hg _
      have R : Hid (TextRel a most w v' (k - 1) w3) := by
        have e1 := st_append HS.out ha HO.out hg
        have ex : bval (UInt8.ofNat X) = .int .u8 (X : Int) := by
          show Value.int .u8 (((UInt8.ofNat X).toNat : Nat) : Int) = _
          rw [UInt8.toNat_ofNat', Nat.mod_eq_of_lt hX]
        exact Lib.hid ⟨l ++ [UInt8.ofNat X], by rw [List.length_append]; have := HLK.out; simp; omega, by rw [List.length_append, List.map_append, List.map_cons, List.map_nil, ex]; exact hown', fun e => by simp at e, e1⟩
      clear hown' hg hown
      go_wp2_with fail
      go_roundw
      case rel => exact ⟨k - 1, by omega, by congr 1; omega, R.out⟩
      case measure => simp [intOf]; omega
    · obtain rfl : k = 0 := by omega
      have hconv := conv_bytes (rd_of_own hown0) hnil
      have HS := Lib.hid hs
      have HL := Lib.hid hlk
      clear hown0 hnil hs hlk
      go_wp2_with fail
      go_ret
      exact ⟨_, rfl, by have := HL.out; show l.toArray.size ≤ most; simp; omega, HS.out⟩
end Go.Proofs.YtnfgkakhdgiepaaDoor

/- The reference's functions on bits: Count, Nth, First, Rank, Spread, Gather. -/
namespace Go.Proofs.YtnfgkakhdgiepaaDoor
open Go.RowKit Bs

/-- The call returned v and made memory alone. -/
def Nw (v : Value) (w : World) (e : Ending) (w' : World) : Prop := e = .returned v ∧ w.grownBy w' none
set_option maxRecDepth 100000 in
theorem Rd.form {w : World} {q : Nat → Prop} {v : Value} {vs : List Value} {n : Nat} (h : Rd w q v vs) (hn : vs.length = n) : ∃ p c, v = .slice p n c := by
  obtain ⟨p, c, hv, _⟩ := h
  exact ⟨p, c, by rw [hv, hn]⟩
set_option maxRecDepth 100000 in
theorem Rd.at1_ {w : World} {q : Nat → Prop} {p : Option Addr} {n c : Nat} {vs : List Value} {i : Nat} {x : Value} (h : Rd w q (.slice p n c) vs) (hi : vs[i]? = some x) :
    ∃ b off, p = some ⟨b, off, none⟩ ∧ w.cell? ⟨b, off + i, none⟩ = some x := by
  obtain ⟨p', c', hv, hc⟩ := h
  injection hv with e1 e2 e3
  subst e1
  obtain ⟨b, off, hp, _, hx⟩ := hc (by intro e; rw [e] at hi; simp at hi)
  exact ⟨b, off, hp, hx i x hi⟩
set_option maxRecDepth 100000 in
theorem bl_map_len (b : Nat) : ((bl b).map ival).length = cnt b := by rw [List.length_map]; rfl
set_option maxRecDepth 100000 in
theorem bl_map_at {b i k : Nat} (h : (bl b)[i]? = some k) : ((bl b).map ival)[i]? = some (.int .i64 (k : Int)) := by rw [List.getElem?_map, h]; rfl
set_option maxRecDepth 100000 in
theorem bl_at {b i : Nat} (h : i < cnt b) : ∃ k, (bl b)[i]? = some k ∧ k < 64 := by
  have h' : i < (bl b).length := h
  exact ⟨(bl b)[i], List.getElem?_eq_getElem h', bl_lt (List.getElem_mem h')⟩

set_option maxRecDepth 100000 in
set_option maxHeartbeats 400000 in
theorem nthr_any (b : Nat) (n : Int) (hb : U64 b) (w : World) :
    Calls Tryd.prog 87 #[.int .u64 (b : Int), .int .i64 n] w fun e w' => Nw (.int .i64 (nth b n)) w e w' := by
  have hc64 := cnt_le b
  by_cases hneg : n < 0
  · have V := Lib.hid (nth_neg (b := b) hneg)
    go_enter Tryd.func87, Tryd.ntmps87
    go_wp2_with fail
    refine (listr_any b hb _).mono ?_
    rintro e w1 ⟨v, rfl, hR, hg⟩
    obtain ⟨p, c, rfl⟩ := hR.form (bl_map_len b)
    go_wp2_with fail
    go_ret
    exact ⟨ret_int (by rw [V.out]), hg⟩
  · by_cases hfar : (cnt b : Int) ≤ n
    · have V := Lib.hid (nth_far hfar)
      go_enter Tryd.func87, Tryd.ntmps87
      go_wp2_with fail
      refine (listr_any b hb _).mono ?_
      rintro e w1 ⟨v, rfl, hR, hg⟩
      obtain ⟨p, c, rfl⟩ := hR.form (bl_map_len b)
      go_wp2_with fail
      go_ret
      exact ⟨ret_int (by rw [V.out]), hg⟩
    · obtain ⟨N, rfl⟩ := Int.eq_ofNat_of_zero_le (show 0 ≤ n by omega)
      have hN : N < cnt b := by omega
      obtain ⟨k, hk, _⟩ := bl_at hN
      have V := Lib.hid (nth_at hk)
      have n1 : decide ((N : Int) < 0) = false := by simp
      have n2 : decide (cnt b ≤ N) = false := by simp; omega
      clear hfar hneg
      go_enter Tryd.func87, Tryd.ntmps87
      go_wp2_with fail
      refine (listr_any b hb _).mono ?_
      rintro e w1 ⟨v, rfl, hR, hg⟩
      obtain ⟨p, c, rfl⟩ := hR.form (bl_map_len b)
      obtain ⟨g, off, rfl, hcell⟩ := hR.at1_ (bl_map_at hk)
      go_wp2_with fail
      go_ret
      exact ⟨ret_int (by rw [V.out]), hg⟩

set_option maxRecDepth 100000 in
theorem nth_zero (b : Nat) (hb : U64 b) : nth b 0 = fst b := by
  by_cases h0 : b = 0
  · subst h0; decide +kernel
  · rw [fst_pos h0]; exact nth_at (bl_head h0 hb.lt)
set_option maxRecDepth 100000 in
set_option maxHeartbeats 400000 in
theorem firstr_any (b : Nat) (hb : U64 b) (w : World) :
    Calls Tryd.prog 30 #[.int .u64 (b : Int)] w fun e w' => Nw (.int .i64 (fst b)) w e w' := by
  have V := Lib.hid (nth_zero b hb)
  go_enter Tryd.func30, Tryd.ntmps30
  go_wp2_with fail
  refine (nthr_any b 0 hb _).mono ?_
  rintro e w1 ⟨rfl, hg⟩
  go_wp2_with fail
  go_ret
  exact ⟨ret_int (by rw [V.out]), hg⟩

set_option maxRecDepth 100000 in
theorem rk_step_t {b j : Nat} (h : b.testBit j = true) : (blN (j + 1) b).length = (blN j b).length + 1 := by rw [bl_snoc_t h]; simp
def rkN (j b : Nat) : Nat := (blN j b).length
set_option maxRecDepth 100000 in
theorem rkN_le (j b : Nat) : rkN j b ≤ j := blN_length_le j b
set_option maxRecDepth 100000 in
theorem rkN_t {b j : Nat} (h : b.testBit j = true) : rkN (j + 1) b = rkN j b + 1 := rk_step_t h
set_option maxRecDepth 100000 in
theorem rkN_f {b j : Nat} (h : b.testBit j = false) : rkN (j + 1) b = rkN j b := by unfold rkN; rw [bl_snoc_f h]
set_option maxRecDepth 100000 in
theorem put_t (k : Nat) : put true k = b2 k := rfl
set_option maxRecDepth 100000 in
theorem put_f (k : Nat) : put false k = 0 := rfl
set_option maxRecDepth 100000 in
theorem spr_hit {x b j k : Nat} (hk : (bl b)[j]? = some k) (ht : x.testBit j = true) (h64 : k < 64) :
    bits .or .u64 ((spr x (bl b) j : Nat) : Int) ((b2 k : Nat) : Int) = ((spr x (bl b) (j + 1) : Nat) : Int) := by
  rw [orU _ _ (spr_u64 x b j) (b2_u64 h64), spr_next hk, ht]; rfl
set_option maxRecDepth 100000 in
theorem spr_miss {x j : Nat} {l : List Nat} (ht : x.testBit j = false) : spr x l (j + 1) = spr x l j := by
  rw [spr, ht, put_f]; simp
set_option maxRecDepth 100000 in
theorem gat_hit {x b j k : Nat} (hk : (bl b)[j]? = some k) (ht : x.testBit k = true) (h64 : j < 64) :
    bits .or .u64 ((gat x (bl b) j : Nat) : Int) ((b2 j : Nat) : Int) = ((gat x (bl b) (j + 1) : Nat) : Int) := by
  rw [orU _ _ (gat_u64 x _ j (by omega)) (b2_u64 h64), gat_next hk, ht]; rfl
set_option maxRecDepth 100000 in
theorem gat_miss {x j k : Nat} {l : List Nat} (hk : l[j]? = some k) (ht : x.testBit k = false) : gat x l (j + 1) = gat x l j := by
  rw [gat_next hk, ht, put_f]; simp
end Go.Proofs.YtnfgkakhdgiepaaDoor

/- The tape's bit strings. -/
namespace Go.Proofs.YtnfgkakhdgiepaaDoor
open Go.RowKit Bs

set_option maxRecDepth 100000 in
theorem vb_full {n : Int} (h : vl n = true) (z : Nat) : vb (z &&& full n) n = true := by
  unfold vb
  rw [h, and_compl z (full_u64 n)]; rfl
/-- A bit string drawn for a length. -/
def BitsPost (n : Int) (a : Nat) (w : World) (e : Ending) (w' : World) : Prop := ∃ x : Nat, e = .returned (.int .u64 (x : Int)) ∧ U64 x ∧ vb x n = true ∧ St a w w'
set_option maxRecDepth 100000 in
theorem bits_end {n : Int} (h : vl n = true) (z : Nat) (hz : U64 z) : ∃ x : Nat, bits .and .u64 (z : Int) ((full n : Nat) : Int) = (x : Int) ∧ U64 x ∧ vb x n = true :=
  ⟨z &&& full n, andU z _ hz (full_u64 n), u64_and_le z _ hz, vb_full h z⟩
set_option maxRecDepth 100000 in
theorem all_ones : (18446744073709551615 : Int) = ((lo 64 : Nat) : Int) := by decide +kernel
set_option maxRecDepth 100000 in
set_option maxHeartbeats 800000 in
theorem bits_any (a : Nat) (n : Int) (hn : vl n = true) (w : World) (hT : Tp w a) :
    Calls Tryd.prog 61 #[.pointer (some ⟨a, 0, none⟩), .int .i64 n] w fun e w' => BitsPost n a w e w' := by
  have hn1 : 1 ≤ n := by rcases vl_cases hn with h | h | h | h <;> omega
  have hn2 : n ≤ 64 := by rcases vl_cases hn with h | h | h | h <;> omega
  have HV := Lib.hid hn
  clear hn
  go_enter Tryd.func61, Tryd.ntmps61
  go_wp2_with fail
  refine (raw_any a _ hT).mono ?_
  rintro e w1 ⟨x1, rfl, hx1, hs1⟩
  go_wp2_with fail
  refine (raw_any a _ hs1.2).mono ?_
  rintro e w2 ⟨x2, rfl, hx2, hs2⟩
  have h12 := hs1.trans hs2
  clear hx1 hx2 hs1 hs2
  go_wp2_with fail
  generalize hB : bits BinOp.xor IntKind.u64 _ _ = B
  obtain ⟨z, hz, hzB⟩ : ∃ z : Nat, U64 z ∧ B = (z : Int) := by rw [← hB]; exact bitsU _ _ _
  subst hzB
  clear hB
  refine (next_any a 6 (by unfold I64; omega) _ h12.2).mono ?_
  rintro e w3 ⟨r, rfl, hr, hs3⟩
  have h13 := h12.trans hs3
  have hr0 : 0 ≤ r := hr.1
  have hr1 : r < 6 := hr.2.1 (by omega)
  clear hr h12 hs3
  by_cases c0 : r = 0
  · subst c0
    obtain ⟨y, hy, hyu, hyv⟩ := bits_end HV.out 0 (by unfold U64; decide)
    have HY := Lib.hid hy
    clear hy
    go_wp2_with (go_at_call 104; refine (fullr_any _ _).mono ?_; rintro e w' ⟨rfl, rfl⟩)
    go_ret
    exact ⟨y, ret_int HY.out, hyu, hyv, h13⟩
  · by_cases c1 : r = 1
    · subst c1
      clear c0
      go_wp2_with fail
      refine (next_any a n (by unfold I64; omega) _ h13.2).mono ?_
      rintro e w4 ⟨k, rfl, hk, hs4⟩
      have h14 := h13.trans hs4
      obtain ⟨K, rfl⟩ := Int.eq_ofNat_of_zero_le hk.1
      have hK : K < 64 := by have := hk.2.1 hn1; omega
      clear hk hs4
      obtain ⟨y, hy, hyu, hyv⟩ := bits_end HV.out (b2 K) (b2_u64 hK)
      have HY := Lib.hid hy
      clear hy
      go_wp2_with (first
        | (go_at_call 90; refine (bit_any K hK _).mono ?_; rintro e w' ⟨rfl, rfl⟩)
        | (go_at_call 104; refine (fullr_any _ _).mono ?_; rintro e w' ⟨rfl, rfl⟩))
      go_ret
      exact ⟨y, ret_int HY.out, hyu, hyv, h14⟩
    · by_cases c2 : r = 2
      · subst c2
        clear c0 c1
        obtain ⟨y, hy, hyu, hyv⟩ := bits_end HV.out (lo 64) (lo_u64 (by omega))
        rw [← all_ones] at hy
        have HY := Lib.hid hy
        clear hy
        go_wp2_with (go_at_call 104; refine (fullr_any _ _).mono ?_; rintro e w' ⟨rfl, rfl⟩)
        go_ret
        exact ⟨y, ret_int HY.out, hyu, hyv, h13⟩
      · have b0 : (r == 0) = false := by simpa using c0
        have b1 : (r == 1) = false := by simpa using c1
        have b2' : (r == 2) = false := by simpa using c2
        clear c0 c1 c2
        obtain ⟨y, hy, hyu, hyv⟩ := bits_end HV.out z hz
        have HY := Lib.hid hy
        clear hy
        go_wp2_with (go_at_call 104; refine (fullr_any _ _).mono ?_; rintro e w' ⟨rfl, rfl⟩)
        go_ret
        exact ⟨y, ret_int HY.out, hyu, hyv, h13⟩
end Go.Proofs.YtnfgkakhdgiepaaDoor

/- Rows of the call's own that grow apart. -/
namespace Go.Proofs.YtnfgkakhdgiepaaDoor
open Go.RowKit Bs
def zv (x : Nat) : Value := .int .i64 (x : Int)
set_option maxRecDepth 100000 in
theorem zv_one {l : List Nat} : ∀ u ∈ l.map zv, u.oneCell' = true := by
  intro u hu
  obtain ⟨x, _, rfl⟩ := List.mem_map.1 hu
  rfl
set_option maxRecDepth 100000 in
/-- append of ints that are read, onto a row of the call's own. -/
theorem wpList_append_ints {w : World} {ops : Array Oper} {rest : List Oper} {o : Oper} {a : Act} {Q : Exit → Act → World → Prop} (hgd : o.guard = none) (s x : Operand)
    (ho : o.op = .call { callee := .builtin .append, args := #[s, x], argTypes := #[22, 22] }) (base : Nat) (v : Value) (n : Nat) (l : List Nat) (hs : a.eval s = v) (hown : w.ownsRow base 3 1 v n (l.map zv))
    (p : Option Addr) (k c : Nat) (r : List Nat) (hx : a.eval x = .slice p k c) (hk : k = r.length) (hn0 : p = none → c = 0 ∧ k = 0) (hnews : ∀ ad, p = some ad → ∀ j u, (r.map zv)[j]? = some u → w.cell? (ad.add j) = some u) (h63 : n + r.length ≤ 100000) (hbase : base ≤ w.heap.size)
    (h : ∀ v' w', w'.ownsRow base 3 1 v' (n + r.length) ((l ++ r).map zv) → w.grownBy w' v.ownBlock → wpList Tryd.prog ops Q rest (a.put o.dst v') w') : wpList Tryd.prog ops Q (o :: rest) a w := by
  obtain ⟨i0, hi, hz0, hz1, hz2⟩ := info_parts info_int
  subst hk
  cases p with
  | none =>
    obtain ⟨rfl, hr⟩ := hn0 rfl
    obtain rfl := List.eq_nil_of_length_eq_zero hr
    refine wpList_append_own_none hgd s x 22 ho base 3 i0 1 Tryd.underlying22 hi v n (l.map zv) hs hown hx ?_
    refine h v w ?_ (grown_refl _ _)
    rw [List.append_nil]; exact hown
  | some ad =>
    refine wpList_append_own w hgd s x 22 ho base 3 i0 (.int .i64 0) 1 8 Tryd.underlying22 hi hz0 hz1 hz2 rfl (by decide) v n (l.map zv) hs hown ad r.length c (r.map zv) hx (by simp) (hnews ad rfl) zv_one (by unfold maxLen; omega) (by omega) hbase ?_
    intro v' w' h1 h2 _
    refine h v' w' ?_ h2
    rw [List.map_append]; exact h1
set_option maxRecDepth 100000 in
theorem tp_new2 {w1 w2 : World} {a b : Nat} (h : Tp w1 a) (k : w1.grownBy w2 (some b)) (hb : a < b) : Tp w2 a := by
  have hlt := h.lt
  obtain ⟨v, n, i, T⟩ := h
  have hb' : w2.heap[a]? = w1.heap[a]? := k.block a hlt (by intro e; have := Option.some.inj e; omega)
  refine ⟨v, n, i, (World.cell?_of_block (a := ⟨a, 0, none⟩) hb').trans T.l, (World.cell?_of_block (a := ⟨a, 1, none⟩) hb').trans T.p, (World.frozen?_of_block (a := ⟨a, 1, none⟩) hb').trans T.fr, ?_, T.le, T.len⟩
  obtain ⟨p, c, hv, hc⟩ := T.ints
  refine ⟨p, c, hv, fun hn => ?_⟩
  obtain ⟨g, off, hp, hg, hx⟩ := hc hn
  exact ⟨g, off, hp, hg, fun i hi => by obtain ⟨x, hx, hcell⟩ := hx i hi; exact ⟨x, hx, k.cell hcell (by intro e; have e2 : g = b := Option.some.inj e; omega)⟩⟩
set_option maxRecDepth 100000 in
theorem own_cap {w : World} {base n g cap : Nat} {e : TypeId} {xs : List Value} (h : w.ownsRow base e 1 (.slice (some ⟨g, 0, none⟩) n cap) n xs) : n ≤ cap ∧ cap ≤ maxLen := by
  rcases h.2 with ⟨h0, _⟩ | ⟨g', cap', cur, hv, _, _, hn, hc, _⟩
  · cases h0
  · injection hv with _ _ h3
    subst h3
    exact ⟨hn, hc⟩
set_option maxRecDepth 100000 in
theorem grown_own_row {w w1 : World} {k : Nat} {b : Option Nat} (h : w.grownBy w1 b) (hk : k < w.heap.size) (hb : some k ≠ b) : w1.heap[k]? = w.heap[k]? := h.block k hk hb
set_option maxRecDepth 100000 in
/-- An order is made: the old row g is read, the new one lies behind. -/
theorem own_apart {w w1 : World} {base base2 g n cap : Nat} {e : TypeId} {v : Value} {m : Nat} {e2 : TypeId} {xs ys : List Value} (h : w.ownsRow base e 1 (.slice (some ⟨g, 0, none⟩) n cap) n xs) (hv : w.ownsRow base2 e2 1 v m ys) (hg : g < base2) (k : w.grownBy w1 v.ownBlock) : w1.ownsRow base e 1 (.slice (some ⟨g, 0, none⟩) n cap) n xs :=
  h.kept k (.inr (own_ne hv hg))
set_option maxRecDepth 100000 in
theorem St.own_grow {a base n : Nat} {W w w1 : World} {e : TypeId} {v : Value} {xs : List Value} (h : St a W w) (ho : w.ownsRow base e 1 v n xs) (hb : W.heap.size ≤ base) (ha : a < W.heap.size) (k : w.grownBy w1 v.ownBlock) : St a W w1 := by
  have g : W.grownBy w1 (some a) := ⟨k.os.trans h.1.os, k.tape.trans h.1.tape, k.output.trans h.1.output, Nat.le_trans h.1.size k.size, fun i hi hia => (k.block i (Nat.lt_of_lt_of_le hi h.1.size) (own_ne ho (by omega))).trans (h.1.block i hi hia)⟩
  refine ⟨g, ?_⟩
  cases hv : v.ownBlock with
  | none => rw [hv] at k; exact h.2.keep k
  | some b =>
    rw [hv] at k
    exact tp_new2 h.2 k (by have := (ho.lt b hv).1; omega)
set_option maxRecDepth 100000 in
theorem St.none_ {a : Nat} {W w w1 : World} (h : St a W w) (g : w.grownBy w1 none) : St a W w1 := ⟨grown_trans h.1 (grown_none g _), h.2.keep g⟩
end Go.Proofs.YtnfgkakhdgiepaaDoor

/- The tape's packets. -/
namespace Go.Proofs.YtnfgkakhdgiepaaDoor
open Go.RowKit Bs
/-- A drawn packet with no mistake is valid. -/
def PacketPost (a : Nat) (w : World) (e : Ending) (w' : World) : Prop := ∃ P : Pk, e = .returned P.val ∧ P.Wf ∧ vpk P = true ∧ St a w w'
set_option maxRecDepth 100000 in
theorem tp_store {w1 w2 : World} {a b : Nat} (h : Tp w1 a) (k : w1.grownBy w2 (some b)) (hb : a < b) : Tp w2 a := tp_new2 h k hb
set_option maxRecDepth 100000 in
theorem St.store {a b : Nat} {W w w1 : World} (h : St a W w) (k : w.grownBy w1 (some b)) (hb : W.heap.size ≤ b) (ha : a < W.heap.size) : St a W w1 :=
  ⟨⟨k.os.trans h.1.os, k.tape.trans h.1.tape, k.output.trans h.1.output, Nat.le_trans h.1.size k.size, fun i hi hia => (k.block i (Nat.lt_of_lt_of_le hi h.1.size) (fun e => by have := Option.some.inj e; omega)).trans (h.1.block i hi hia)⟩, by
    exact tp_store h.2 k (by omega)⟩
set_option maxRecDepth 100000 in
theorem res_packet {fn : Func} {p : Tmp} (h : fn.results = #[.cell p 25]) (tmps : Array Value) (w : World) (g : Nat) (xs : Array Value) (hp : tmps.getD p undef = .pointer (some ⟨g, 0, none⟩)) (hn : xs.size = 10) (hg : w.heap[g]? = some (.cells xs 25 (0, 0))) :
    (results fn tmps).run Tryd.prog w = .ok (.agg xs) w := by
  exact results_cell_row h tmps w g _ _ _ _ hp hg Tryd.underlying25 rfl (by rw [hn]; exact packet_size)
set_option maxRecDepth 100000 in
theorem i64_small {x : Int} (h1 : -2000 ≤ x) (h2 : x ≤ 2000) : I64 x := by unfold I64; omega
set_option maxRecDepth 100000 in
set_option maxHeartbeats 3200000 in
theorem packet0_any (a : Nat) (w : World) (hT : Tp w a) :
    Calls Tryd.prog 15 #[.pointer (some ⟨a, 0, none⟩), .int .i64 0] w fun e w' => PacketPost a w e w' := by
  have ha := hT.lt
  obtain ⟨k1, k2⟩ := one_box w zpk 25
  have HB := Lib.hid k1
  have S0 : St a w (w.alloc (.cells zpk 25)) := ⟨grown_none k2 _, hT.keep k2⟩
  clear k1 k2
  unfold zpk at HB S0
  go_enter Tryd.func15, Tryd.ntmps15
  go_wp2_with fail
  generalize w.alloc _ = wa at *
  change Hid (wa.heap[w.heap.size]? = some (.cells zpk 25 (0, 0))) at HB
  refine (length_any a _ S0.2).mono ?_
  rintro e w1 ⟨len, rfl, hlen, hs1⟩
  have S1 := S0.trans hs1
  go_wp2_with fail
  refine (range_any a 1 3 (by decide) (by decide) (by decide) (by decide) _ S1.2).mono ?_
  rintro e w2 ⟨mode, rfl, hmode, hs2⟩
  go_wp2_with fail
  refine (range_any a 0 7 (by decide) (by decide) (by decide) (by decide) _ hs2.2).mono ?_
  rintro e w3 ⟨sub, rfl, hsub, hs3⟩
  go_wp2_with fail
  refine (pick_any (fun r => 0 ≤ r ∧ r ≤ 31) a _ 0 5 5 (by omega) (by omega) _ (hs3.2.alloc _) (among_list _ w3 a [0, 0, 1, 2, 31] _ _ hs3.2.lt rfl (by decide))).mono ?_
  rintro e w4 ⟨set, rfl, hset, hs4⟩
  go_wp2_with fail
  refine (pick_any (fun r => 0 ≤ r ∧ r ≤ 63) a _ 0 5 5 (by omega) (by omega) _ (hs4.2.alloc _) (among_list _ w4 a [0, 1, 2, 5, 63] _ _ hs4.2.lt rfl (by decide))).mono ?_
  rintro e w5 ⟨ttl, rfl, httl, hs5⟩
  go_wp2_with fail
  refine (next_any a 1024 (by unfold I64; omega) _ hs5.2).mono ?_
  rintro e w6 ⟨ent, rfl, hent, hs6⟩
  go_wp2_with fail
  refine (pick_any (fun r => 0 ≤ r ∧ r ≤ 256) a _ 0 5 5 (by omega) (by omega) _ (hs6.2.alloc _) (among_list _ w6 a [0, 1, 8, 255, 256] _ _ hs6.2.lt rfl (by decide))).mono ?_
  rintro e w7 ⟨ing, rfl, hing, hs7⟩
  go_wp2_with fail
  refine (next_any a 8 (by unfold I64; omega) _ hs7.2).mono ?_
  rintro e w8 ⟨pro, rfl, hpro, hs8⟩
  go_wp2_with fail
  refine (bits_any a len hlen _ hs8.2).mono ?_
  rintro e w9 ⟨bits, rfl, hbu, hbv, hs9⟩
  go_wp2_with fail
  refine (text_any a 6 (by decide) _ hs9.2).mono ?_
  rintro e w10 ⟨pay, rfl, hpay, hs10⟩
  have S' := ((((((((hs1.trans hs2).trans hs3).trans hs4.alloc_left).trans hs5.alloc_left).trans hs6).trans hs7.alloc_left).trans hs8).trans hs9).trans hs10
  have S := Lib.hid (S0.trans S')
  have HR := Lib.hid (kept_row HB.out S'.1 (fun e => by have := Option.some.inj e; omega))
  have hV : Hid (vpk ⟨mode, sub, set, len, ttl, ent, ing, pro, bits, pay⟩ = true ∧ (⟨mode, sub, set, len, ttl, ent, ing, pro, bits, pay⟩ : Pk).Wf) := by
    have r1 := hmode.1
    have r2 := hmode.2.1 (by decide)
    have r3 := hsub.1
    have r4 := hsub.2.1 (by decide)
    have r5 := hent.1
    have r6 := hent.2.1 (by decide)
    have r7 := hpro.1
    have r8 := hpro.2.1 (by decide)
    refine Lib.hid ⟨decide_eq_true ⟨⟨r1, r2⟩, ⟨r3, r4⟩, hset, httl, ⟨r5, by show ent ≤ 1023; omega⟩, hing, ⟨r7, by show pro ≤ 7; omega⟩, Nat.le_trans hpay (by decide), hbv⟩, ?_⟩
    have hl : I64 len := by rcases vl_cases hlen with h | h | h | h <;> rw [h] <;> (unfold I64; decide)
    obtain ⟨q1, q2⟩ := hset
    obtain ⟨q3, q4⟩ := httl
    obtain ⟨q5, q6⟩ := hing
    exact ⟨i64_small (x := mode) (by omega) (by omega), i64_small (x := sub) (by omega) (by omega), i64_small (x := set) (by omega) (by omega), hl, i64_small (x := ttl) (by omega) (by omega), i64_small (x := ent) (by omega) (by omega), i64_small (x := ing) (by omega) (by omega), i64_small (x := pro) (by omega) (by omega), hbu, Nat.le_trans hpay (by decide)⟩
  have g11 := World.grownBy_alloc w10 (.cells #[.int .i64 mode, .int .i64 sub, .int .i64 set, .int .i64 len, .int .i64 ttl, .int .i64 ent, .int .i64 ing, .int .i64 pro, .int .u64 (bits : Int), .string pay] 25) none
  have HR2 := Lib.hid (kept_row HR.out g11 (by simp))
  have S2 := Lib.hid (S.out.none_ g11)
  obtain ⟨⟨r0, r1, r2, r3, r4, r5, r6, r7, r8, r9⟩, f0, f1, f2, f3, f4, f5, f6, f7, f8, f9⟩ := zp_cells HR2.out
  clear S' S HR HB S0 S1 hs1 hs2 hs3 hs4 hs5 hs6 hs7 hs8 hs9 hs10 hmode hsub hset httl hent hing hpro hbu hbv hpay hlen g11
  go_wp2_with fail
  refine bodyPost_ret (res_packet rfl _ _ w.heap.size _ rfl rfl (pput_row _ _ _ _ _ _ _ _ _ _ HR2.out)) rfl ?_
  exact ⟨⟨mode, sub, set, len, ttl, ent, ing, pro, bits, pay⟩, rfl, hV.out.2, hV.out.1, S2.out.store (pput_grown _ w.heap.size _ _ _ _ _ _ _ _ _ _) (Nat.le_refl _) ha⟩
end Go.Proofs.YtnfgkakhdgiepaaDoor

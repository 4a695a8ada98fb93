/- packet: Decode undoes Encode. -/
import Derived.Test.YtokolidakcfopaaDoorPkEncode
import Derived.Test.YtokolidakcfopaaDoorPkDecode
namespace Go.Proofs.YtokolidakcfopaaDoor
open Go.RowKit Bs
theorem num_mid (A C : List Bool) (x k : Nat) (hx : x < 2 ^ k) : num (bf (A ++ nb x k ++ C)) A.length k = x := by
  refine (num_eq hx fun t ht => ?_).symm
  rw [bf_left _ _ _ (by rw [List.length_append, nb_len]; omega), bf_right, bf_nb _ _ _ ht]
theorem num_pk {B : List Bool} {l : List Nat} {a k : Nat} (hl : l = pk B) (h : a + k ≤ 8 * l.length) : num (bt l) a k = num (bf B) a k := by
  refine num_congr k fun t ht => ?_
  rw [hl]
  refine bt_pk B _ ?_
  rw [hl, pk_len] at h
  omega
theorem bt_take {l : List Nat} {m i : Nat} (h : i < 8 * m) : bt (l.take m) i = bt l i := by
  unfold bt
  rw [List.getD_eq_getElem?_getD, List.getD_eq_getElem?_getD, List.getElem?_take_of_lt (by omega)]
theorem flb_split (f : List (Nat × Nat)) (k x wd : Nat) (h : f[k]? = some (x, wd)) : flb f = flb (f.take k) ++ nb x wd ++ flb (f.drop (k + 1)) := by
  have e : f = f.take k ++ (x, wd) :: f.drop (k + 1) := by
    have hk := (List.getElem?_eq_some_iff.1 h)
    obtain ⟨hk, he⟩ := hk
    rw [← he, ← List.drop_eq_getElem_cons hk, List.take_append_drop]
  have e2 : flb f = flb (f.take k ++ (x, wd) :: f.drop (k + 1)) := congrArg flb e
  rw [e2]
  unfold flb
  rw [List.flatMap_append, List.flatMap_cons, ← List.append_assoc]
theorem take_len (P : Pk) (k : Nat) (hk : k < 10) : (flb ((fl P).take k)).length = offs.getD k 0 := by
  rw [flb_len]
  rcases (show k = 0 ∨ k = 1 ∨ k = 2 ∨ k = 3 ∨ k = 4 ∨ k = 5 ∨ k = 6 ∨ k = 7 ∨ k = 8 ∨ k = 9 by omega) with rfl | rfl | rfl | rfl | rfl | rfl | rfl | rfl | rfl | rfl <;> rfl
/-- All bits of an encoding. -/
def allb (P : Pk) : List Bool := body P ++ nb (ck (body P)) 16
theorem enc_all (P : Pk) : enc P = pk (allb P) := rfl
theorem all_len (P : Pk) : (allb P).length = 49 + P.len.toNat + 8 * P.pay.size + 16 := by
  unfold allb
  rw [List.length_append, nb_len, body_len]
theorem enc_len (P : Pk) : (enc P).length = (49 + P.len.toNat + 8 * P.pay.size + 16 + 7) / 8 := by rw [enc_all, pk_len, all_len]
theorem wid_at (P : Pk) (k : Nat) (hk : k < 10) : ∃ x, (fl P)[k]? = some (x, wids.getD k 0) := by
  rcases (show k = 0 ∨ k = 1 ∨ k = 2 ∨ k = 3 ∨ k = 4 ∨ k = 5 ∨ k = 6 ∨ k = 7 ∨ k = 8 ∨ k = 9 by omega) with rfl | rfl | rfl | rfl | rfl | rfl | rfl | rfl | rfl | rfl <;> exact ⟨_, rfl⟩
theorem off_le (k : Nat) (hk : k < 10) : offs.getD k 0 + wids.getD k 0 ≤ 49 := by
  rcases (show k = 0 ∨ k = 1 ∨ k = 2 ∨ k = 3 ∨ k = 4 ∨ k = 5 ∨ k = 6 ∨ k = 7 ∨ k = 8 ∨ k = 9 by omega) with rfl | rfl | rfl | rfl | rfl | rfl | rfl | rfl | rfl | rfl <;> decide
/-- A header's field is read back. -/
theorem fv_enc {P : Pk} {k x : Nat} (hk : k < 10) (h : (fl P)[k]? = some (x, wids.getD k 0)) (hx : x < 2 ^ wids.getD k 0) : hv7 (enc P) k = x := by
  have ho := off_le k hk
  have hlen := all_len P
  unfold hv7 fv
  have h1 : num (bt ((enc P).take 7)) (offs.getD k 0) (wids.getD k 0) = num (bt (enc P)) (offs.getD k 0) (wids.getD k 0) := num_congr _ fun t ht => bt_take (by omega)
  rw [h1, num_pk (enc_all P) (by rw [enc_len]; omega)]
  have e : allb P = flb ((fl P).take k) ++ nb x (wids.getD k 0) ++ (flb ((fl P).drop (k + 1)) ++ nb P.bits P.len.toNat ++ pb (byl P.pay) ++ nb (ck (body P)) 16) := by
    unfold allb
    generalize nb (ck (body P)) 16 = T
    unfold body
    rw [flb_split (fl P) k x _ h]
    simp only [List.append_assoc]
  rw [e, ← take_len P k hk]
  exact num_mid _ _ _ _ hx
theorem num_bits {P : Pk} (hb : P.bits < 2 ^ P.len.toNat) : num (bf (allb P)) 49 P.len.toNat = P.bits := by
  have e : allb P = flb (fl P) ++ nb P.bits P.len.toNat ++ (pb (byl P.pay) ++ nb (ck (body P)) 16) := by
    unfold allb
    generalize nb (ck (body P)) 16 = T
    unfold body
    simp only [List.append_assoc]
  rw [e, ← hdr_len P]
  exact num_mid _ _ _ _ hb
theorem num_check (P : Pk) : num (bf (allb P)) (49 + P.len.toNat + 8 * P.pay.size) 16 = ck (body P) := by
  have h := num_mid (body P) [] (ck (body P)) 16 (chk_lt _ _)
  rw [List.append_nil, body_len] at h
  exact h
theorem bs_byl (s : ByteArray) : bs (byl s) = s := by
  unfold bs byl
  rw [List.map_map]
  have : (s.data.toList.map ((fun x => UInt8.ofNat x) ∘ fun b => b.toNat)) = s.data.toList := by
    refine (List.map_congr_left fun b _ => ?_).trans (List.map_id _)
    show UInt8.ofNat b.toNat = b
    exact UInt8.ofNat_toNat
  rw [this]
theorem pay_back (P : Pk) : restP (enc P) P.len.toNat P.pay.size = P.pay := by
  unfold restP
  have hl := byl_len P.pay
  have e : pz (fun i => bt (enc P) (49 + P.len.toNat + i)) (8 * P.pay.size) P.pay.size = byl P.pay := by
    rw [← pk_pb (byl P.pay) (byl_by P.pay)]
    unfold pk
    rw [pb_len, hl, show (8 * P.pay.size + 7) / 8 = P.pay.size by omega]
    refine pz_congr fun i hi => ?_
    simp only [hi, decide_true, Bool.true_and]
    rw [enc_all, bt_pk _ _ (by rw [all_len]; omega)]
    have e2 : allb P = (flb (fl P) ++ nb P.bits P.len.toNat) ++ pb (byl P.pay) ++ nb (ck (body P)) 16 := rfl
    rw [e2, bf_left _ _ _ (by rw [List.length_append, List.length_append, hdr_len, nb_len, pb_len, hl]; omega)]
    have h49 : 49 + P.len.toNat = (flb (fl P) ++ nb P.bits P.len.toNat).length := by rw [List.length_append, hdr_len, nb_len]
    rw [h49, bf_right]
  rw [e, bs_byl]
theorem lcode_back {n : Int} (h : vl n = true) : 8 * 2 ^ lcode n = n.toNat := by
  rcases vl_cases h with rfl | rfl | rfl | rfl <;> rfl
/-- Decode undoes Encode. -/
theorem dec_enc {P : Pk} (hP : P.Wf) (h : vpk P = true) : decV (enc P) = (pcells P, 0) := by
  obtain ⟨⟨m1, m2⟩, ⟨s1, s2⟩, ⟨e1, e2⟩, ⟨t1, t2⟩, ⟨n1, n2⟩, ⟨i1, i2⟩, ⟨p1, p2⟩, y1, v1⟩ := vpk_parts h
  have hvl := vb_vl v1
  have V0 : hv7 (enc P) 0 = 2 := fv_enc (by decide) rfl (by decide)
  have V1 : hv7 (enc P) 1 = P.mode.toNat := fv_enc (by decide) rfl (show P.mode.toNat < 4 by omega)
  have V2 : hv7 (enc P) 2 = P.sub.toNat := fv_enc (by decide) rfl (show P.sub.toNat < 8 by omega)
  have V3 : hv7 (enc P) 3 = P.set.toNat := fv_enc (by decide) rfl (show P.set.toNat < 32 by omega)
  have V4 : hv7 (enc P) 4 = lcode P.len := fv_enc (by decide) rfl (lcode_lt P.len)
  have V5 : hv7 (enc P) 5 = P.ttl.toNat := fv_enc (by decide) rfl (show P.ttl.toNat < 64 by omega)
  have V6 : hv7 (enc P) 6 = P.ent.toNat := fv_enc (by decide) rfl (show P.ent.toNat < 1024 by omega)
  have V7 : hv7 (enc P) 7 = P.ing.toNat := fv_enc (by decide) rfl (show P.ing.toNat < 512 by omega)
  have V8 : hv7 (enc P) 8 = P.pro.toNat := fv_enc (by decide) rfl (show P.pro.toNat < 8 by omega)
  have V9 : hv7 (enc P) 9 = P.pay.size := fv_enc (by decide) rfl (show P.pay.size < 128 by omega)
  have hb := vb_lt v1 hP.bits
  have hlen := enc_len P
  have hn : 8 * 2 ^ hv7 (enc P) 4 = P.len.toNat := by rw [V4]; exact lcode_back hvl
  have hz : szV (hv7 (enc P)) = (enc P).length := by unfold szV; rw [hn, V9, hlen]
  have hm : misV (hv7 (enc P)) = 0 := by
    unfold misV
    rw [if_neg (by rw [V0]; decide), if_neg (by rw [V1]; omega), if_neg (by rw [V7, V9]; omega)]
  have hr : restE (enc P) P.len.toNat P.pay.size = 0 := by
    unfold restE
    rw [if_neg, if_neg]
    · intro hne
      refine hne ?_
      have hx : 0 = num (bt (enc P)) (49 + P.len.toNat + 8 * P.pay.size + 16) (8 * (enc P).length - (49 + P.len.toNat + 8 * P.pay.size + 16)) := by
        refine num_eq (Nat.two_pow_pos _) fun t ht => ?_
        rw [Nat.zero_testBit, enc_all, bt_pk _ _ (by rw [all_len]; rw [hlen] at ht; omega)]
        exact (bf_out _ _ (by rw [all_len]; omega)).symm
      exact hx.symm
    · intro hne
      refine hne ?_
      rw [num_pk (enc_all P) (by rw [hlen]; omega), num_check]
      unfold ck
      rw [body_len]
      refine chk_same _ fun i hi => ?_
      rw [enc_all, bt_pk _ _ (by rw [all_len]; omega)]
      unfold allb
      rw [bf_left _ _ _ (by rw [body_len]; exact hi)]
  have hbits : num (bt (enc P)) 49 P.len.toNat = P.bits := by
    rw [num_pk (enc_all P) (by rw [hlen]; omega), num_bits hb]
  unfold decV
  rw [if_neg (by rw [hlen]; omega), if_neg (by rw [hm]; simp), if_neg (by rw [hz]; omega), hz, List.take_length, hn]
  have hrest : restV (hv7 (enc P)) P.len.toNat (enc P) = (pcells P, 0) := by
    unfold restV
    rw [V9, if_pos hr, hbits, pay_back]
    unfold rcells pcells
    rw [V1, V2, V3, V5, V6, V7, V8, Int.toNat_of_nonneg (by omega), Int.toNat_of_nonneg s1, Int.toNat_of_nonneg e1, Int.toNat_of_nonneg t1, Int.toNat_of_nonneg n1, Int.toNat_of_nonneg i1, Int.toNat_of_nonneg p1]
    rw [Int.toNat_of_nonneg (show 0 ≤ P.len by rcases vl_cases hvl with h | h | h | h <;> rw [h] <;> decide)]
  rw [hrest]
  rw [if_neg (by simp), if_neg (by omega)]
end Go.Proofs.YtokolidakcfopaaDoor

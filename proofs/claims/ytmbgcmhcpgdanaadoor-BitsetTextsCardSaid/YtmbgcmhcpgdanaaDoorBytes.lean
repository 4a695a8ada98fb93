/- Bytes and FromBytes, of the program and of the reference. -/
import Derived.Test.YtmbgcmhcpgdanaaDoorFmt
import Derived.Lib.BufferRead
namespace Go.Proofs.YtmbgcmhcpgdanaaDoor
open Go.RowKit Bs

def bval (x : UInt8) : Value := .int .u8 (x.toNat : Int)
/-- A row that is being filled. -/
def frw (f : Nat → Value) (z : Value) (N j : Nat) : List Value := (List.range N).map fun i => if i < j then f i else z
theorem frw_len (f : Nat → Value) (z : Value) (N j : Nat) : (frw f z N j).length = N := by unfold frw; simp
theorem frw_at (f : Nat → Value) (z : Value) (N j i : Nat) (h : i < N) : (frw f z N j)[i]? = some (if i < j then f i else z) := by
  unfold frw
  rw [List.getElem?_map, List.getElem?_range h]; rfl
theorem frw_set (f : Nat → Value) (z : Value) (N j : Nat) (h : j < N) : (frw f z N j).set j (f j) = frw f z N (j + 1) := by
  apply List.ext_getElem?
  intro i
  rw [List.getElem?_set, frw_len]
  by_cases hi : i < N
  · rw [frw_at _ _ _ _ _ hi, frw_at _ _ _ _ _ hi]
    by_cases e : j = i
    · subst e
      rw [if_pos rfl, if_pos h, if_pos (by omega)]
    · rw [if_neg e]
      by_cases hlt : i < j
      · rw [if_pos hlt, if_pos (by omega)]
      · rw [if_neg hlt, if_neg (by omega)]
  · rw [if_neg (by omega), List.getElem?_eq_none (by rw [frw_len]; omega), List.getElem?_eq_none (by rw [frw_len]; omega)]
theorem frw_zero (f : Nat → Value) (z : Value) (N : Nat) : (madeCells #[z] N).toList = frw f z N 0 := by
  rw [made_one]
  unfold frw
  apply List.map_congr_left
  intro i _
  rw [if_neg (by omega)]
theorem frw_all (f : Nat → Value) (z : Value) (N : Nat) : frw f z N N = (List.range N).map f := by
  unfold frw
  apply List.map_congr_left
  intro i hi
  rw [if_pos (List.mem_range.1 hi)]
/-- A row of the call's own of N cells of type t, filled up to j. -/
def FillRel (t : TypeId) (f : Nat → Value) (z : Value) (N : Nat) (w : World) (j : Nat) (wr : World) : Prop :=
  wr.ownsRow w.heap.size t 1 (.slice (some ⟨w.heap.size, 0, none⟩) N N) N (frw f z N j) ∧ w.grownBy wr none
section
variable {t : TypeId} {f : Nat → Value} {z : Value} {N j : Nat} {w wr : World}
theorem FillRel.cell (h : FillRel t f z N w j wr) (hj : j < N) : wr.cell? ⟨w.heap.size, j, none⟩ = some z := by
  rw [h.1.cellAt j (by omega), frw_at _ _ _ _ _ hj, if_neg (by omega)]
theorem FillRel.frozen (h : FillRel t f z N w j wr) : wr.frozen? ⟨w.heap.size, j, none⟩ = false := h.1.frozenAt j
theorem FillRel.next {x : Value} (h : FillRel t f z N w j wr) (hj : j < N) (hx : x = f j) : FillRel t f z N w (j + 1) (wr.setCell ⟨w.heap.size, j, none⟩ x) := by
  subst hx
  obtain ⟨h1, h2⟩ := h.1.stored j (f j)
  rw [frw_set f z N j hj] at h1
  refine ⟨h1, ⟨h2.os.trans h.2.os, h2.tape.trans h.2.tape, h2.output.trans h.2.output, Nat.le_trans h.2.size h2.size, fun k hk _ => ?_⟩⟩
  exact (h2.block k (Nat.lt_of_lt_of_le hk h.2.size) (by simp; omega)).trans (h.2.block k hk (by simp))
theorem FillRel.all (h : FillRel t f z N w N wr) : Rd wr (w.heap.size ≤ ·) (.slice (some ⟨w.heap.size, 0, none⟩) N N) ((List.range N).map f) := by
  have := h.1
  rw [frw_all] at this
  exact rd_of_own this
end

/-- The j-th byte of N / 8. -/
def byt (b N j : Nat) : UInt8 := UInt8.ofNat (b / 2 ^ (N - 8 - 8 * j) % 256)
def byl (b N : Nat) : List UInt8 := (List.range (N / 8)).map (byt b N)
def bytV (b : Nat) (n : Int) : List UInt8 × Int := if vl n = false then ([], 2) else if vb b n = false then ([], 1) else (byl b n.toNat, 0)
def BytesPost (b : Nat) (n : Int) (w : World) (e : Ending) (w' : World) : Prop :=
  ∃ v, e = .returned (.tuple #[v, .int .i64 (bytV b n).2]) ∧ Rd w' (w.heap.size ≤ ·) v ((bytV b n).1.map bval) ∧ ((bytV b n).1 = [] → v = .slice none 0 0) ∧ w.grownBy w' none
theorem bytV_len {b : Nat} {n : Int} (h : vl n = false) : bytV b n = ([], 2) := by unfold bytV; rw [if_pos h]
theorem bytV_bad {b : Nat} {n : Int} (h : vl n = true) (hv : vb b n = false) : bytV b n = ([], 1) := by unfold bytV; rw [if_neg (by simp [h]), if_pos hv]
theorem bytV_ok {b : Nat} {n : Int} (h : vl n = true) (hv : vb b n = true) : bytV b n = (byl b n.toNat, 0) := by unfold bytV; rw [if_neg (by simp [h]), if_neg (by simp [hv])]
theorem byt_word (b N j : Nat) : ((b : Int) / 2 ^ (N - 8 - 8 * j)) % 256 = ((byt b N j).toNat : Int) := by
  rw [shrW]
  unfold byt
  rw [UInt8.toNat_ofNat']
  omega
theorem byl_map (b N : Nat) : (byl b N).map bval = (List.range (N / 8)).map fun j => bval (byt b N j) := by unfold byl; rw [List.map_map]; rfl
theorem byl_ne {b N : Nat} (h : 8 ≤ N) : byl b N ≠ [] := by
  intro e
  have := congrArg List.length e
  unfold byl at this
  simp at this
  omega
theorem bytes_bad {b : Nat} {n : Int} {x : Int} {w : World} (h : bytV b n = ([], x)) : BytesPost b n w (.returned (.tuple #[.slice none 0 0, .int .i64 x])) w := by
  refine ⟨.slice none 0 0, by rw [h], ?_, fun _ => rfl, grown_refl _ _⟩
  rw [h]
  exact Rd.nil_ _ _ _ _
theorem bytes_good {b : Nat} {n : Int} {l : List UInt8} {v : Value} {w w' : World} (h : bytV b n = (l, 0)) (hne : l ≠ []) (hR : Rd w' (w.heap.size ≤ ·) v (l.map bval)) (g : w.grownBy w' none) :
    BytesPost b n w (.returned (.tuple #[v, .int .i64 0])) w' := by
  refine ⟨v, by rw [h], by rw [h]; exact hR, fun e => ?_, g⟩
  rw [h] at e
  exact absurd e hne
set_option maxHeartbeats 1600000 in
theorem bytesp_any (b : Nat) (n : Int) (hb : U64 b) (w : World) :
    Calls Tryd.prog 47 #[.int .u64 (b : Int), .int .i64 n] w fun e w' => BytesPost b n w e w' := by
  obtain ⟨i0, hi, hz0, hz1, hz2⟩ := info_parts info_u8
  by_cases hv : vl n = true
  · by_cases hvb : vb b n = true
    · have V := Lib.hid (bytV_ok hv hvb)
      obtain ⟨N, rfl, h8, h64, hd⟩ : ∃ N : Nat, n = (N : Int) ∧ 8 ≤ N ∧ N ≤ 64 ∧ 8 * (N / 8) = N := ⟨n.toNat, by rcases vl_cases hv with rfl | rfl | rfl | rfl <;> exact ⟨rfl, by decide, by decide, by decide⟩⟩
      have HD := Lib.hid hd
      clear hd
      generalize hM : N / 8 = M at *
      have HM := Lib.hid hM
      have hM8 : 8 * M ≤ N := by have := HD.out; omega
      have hM1 : 1 ≤ M := by have := HD.out; omega
      have hq : ((N : Int) / 8) = (M : Int) := by rw [← HM.out]; rfl
      clear hM
      go_enter Tryd.func47, Tryd.ntmps47
      go_wp2_with (first
        | (go_at_call 15; refine (vlp_any _ _).mono ?_; rintro e w' ⟨rfl, rfl⟩)
        | (go_at_call 19; refine (validp_any _ _ hb _).mono ?_; rintro e w' ⟨rfl, rfl⟩)
        | (at_make; refine wpList_make_full _ rfl _ _ 49 rfl w.heap.size 5 i0 (.int .u8 0) 1 Tryd.underlying49 hi hz0 hz1 .i64 .i64 _ _ M rfl rfl rfl rfl ?c1 ?c2 ?c3 ?_))
      case c1 => rw [hz2]; omega
      case c2 => unfold maxLen; omega
      case c3 => exact Nat.le_refl _
      intro w1 hown1 hg1
      have R0 : Hid (FillRel 5 (fun j => bval (byt b N j)) (.int .u8 0) M w 0 w1) := by
        show FillRel _ _ _ _ _ _ _
        refine ⟨?_, hg1⟩
        rw [← frw_zero]
        exact hown1
      clear hown1 hg1
      go_wp2_with fail
      go_loopw [20] (fun i wr => ∃ j : Nat, j ≤ M ∧ i = .int .i64 (j : Int) ∧ FillRel 5 (fun j => bval (byt b N j)) (.int .u8 0) M w j wr) (fun i _ => M - (intOf i).toNat)
      case atStart => exact ⟨0, Nat.zero_le _, rfl, R0.out⟩
      case round =>
        obtain ⟨j, hj, rfl, hR⟩ := hrel
        by_cases hlt : j < M
        · have hcell := hR.cell hlt
          have hfz := hR.frozen
          have R := Lib.hid hR
          have D := Lib.hid (byt_word b N j)
          clear hR R0
          go_wp2_with fail
          go_roundw
          case rel => exact ⟨j + 1, by omega, by go_num, R.out.next hlt (by rw [D.out]; rfl)⟩
          case measure => simp [intOf]; omega
        · obtain rfl : j = M := by omega
          have R := Lib.hid hR
          clear hR R0
          go_wp2_with fail
          go_ret2
          exact bytes_good V.out (by rw [Int.toNat_natCast]; exact byl_ne h8) (by rw [Int.toNat_natCast, byl_map, HM.out]; exact R.out.all) R.out.2
    · have hvf : vb b n = false := by simpa using hvb
      have V := Lib.hid (bytV_bad hv hvf)
      clear hvb
      go_enter Tryd.func47, Tryd.ntmps47
      go_wp2_with (first
        | (go_at_call 15; refine (vlp_any _ _).mono ?_; rintro e w' ⟨rfl, rfl⟩)
        | (go_at_call 19; refine (validp_any _ _ hb _).mono ?_; rintro e w' ⟨rfl, rfl⟩))
      go_ret2
      exact bytes_bad V.out
  · have hv0 : vl n = false := by simpa using hv
    have V := Lib.hid (bytV_len (b := b) hv0)
    clear hv
    go_enter Tryd.func47, Tryd.ntmps47
    go_wp2_with (go_at_call 15; refine (vlp_any _ _).mono ?_; rintro e w' ⟨rfl, rfl⟩)
    go_ret2
    exact bytes_bad V.out
/-- The reference's loop: the bytes from the greatest on. -/
def RefBytesRel (b N M : Nat) (w : World) (v : Value) (j : Nat) (wr : World) : Prop :=
  wr.ownsRow w.heap.size 5 1 v j ((List.range j).map fun i => bval (byt b N i)) ∧ w.grownBy wr none
theorem refbytes_hit {b N M j : Nat} {w wr w1 : World} {v v' : Value} {o : Obj} {x : Int} (h : RefBytesRel b N M w v j wr) (hx : x = ((byt b N j).toNat : Int))
    (hown' : w1.ownsRow w.heap.size 5 1 v' (j + 1) (((List.range j).map fun i => bval (byt b N i)) ++ [.int .u8 x])) (hg : (wr.alloc o).grownBy w1 v.ownBlock) : RefBytesRel b N M w v' (j + 1) w1 := by
  subst hx
  refine ⟨?_, own_step h.2 h.1 hg⟩
  rw [List.range_succ, List.map_append]
  exact hown'
/-- The list, behind a plain name. -/
def bpre (b N j : Nat) : List Value := (List.range j).map fun i => bval (byt b N i)
set_option maxHeartbeats 1600000 in
theorem bytesr_any (b : Nat) (n : Int) (hb : U64 b) (w : World) :
    Calls Tryd.prog 49 #[.int .u64 (b : Int), .int .i64 n] w fun e w' => BytesPost b n w e w' := by
  obtain ⟨i0, hi, hz0, hz1, hz2⟩ := info_parts info_u8
  by_cases hv : vl n = true
  · by_cases hvb : vb b n = true
    · have V := Lib.hid (bytV_ok hv hvb)
      obtain ⟨N, rfl, h8, h64, hd⟩ : ∃ N : Nat, n = (N : Int) ∧ 8 ≤ N ∧ N ≤ 64 ∧ 8 * (N / 8) = N := ⟨n.toNat, by rcases vl_cases hv with rfl | rfl | rfl | rfl <;> exact ⟨rfl, by decide, by decide, by decide⟩⟩
      have HD := Lib.hid hd
      clear hd
      generalize hM : N / 8 = M at *
      have HM := Lib.hid hM
      have hM8 : 8 * M ≤ N := by have := HD.out; omega
      have hM1 : 1 ≤ M := by have := HD.out; omega
      have hM9 : M ≤ 8 := by have := HD.out; omega
      have hq : ((N : Int) / 8) = (M : Int) := by rw [← HM.out]; rfl
      clear hM
      go_enter Tryd.func49, Tryd.ntmps49
      go_wp2_with (first
        | (go_at_call 16; refine (vlr_any _ _).mono ?_; rintro e w' ⟨rfl, rfl⟩)
        | (go_at_call 20; refine (validr_any _ _ hb _).mono ?_; rintro e w' ⟨rfl, rfl⟩))
      go_loopw [6, 7] (fun v i wr => ∃ j : Nat, j ≤ M ∧ i = .int .i64 ((M : Int) - 1 - (j : Int)) ∧ RefBytesRel b N M w v j wr) (fun _ i _ => (intOf i + 1).toNat)
      case atStart => exact ⟨0, Nat.zero_le _, by simp, World.ownsRow_nil _ _ _ _, grown_refl _ _⟩
      case round =>
        obtain ⟨j, hj, rfl, hR⟩ := hrel
        by_cases hlt : j < M
        · have hown : wr.ownsRow w.heap.size 5 1 _ j (bpre b N j) := hR.1
          have hsz := hR.2.size
          have R := Lib.hid hR
          obtain ⟨k, hk⟩ : ∃ k : Nat, k = M - 1 - j := ⟨_, rfl⟩
          have hki : (M : Int) - 1 - (j : Int) = (k : Int) := by omega
          have hk8 : k ≤ 7 := by omega
          have hexp : N - 8 - 8 * j = 8 * k := by have := HD.out; omega
          have D0 := byt_word b N j
          rw [hexp] at D0
          have D := Lib.hid D0
          have HK := Lib.hid hk
          clear hR hk hexp D0
          have HKI := Lib.hid hki
          rw [hki]
          clear hki
          go_wp2_with (at_builtin; refine wpList_append_own _ rfl _ _ 49 rfl w.heap.size 5 i0 (.int .u8 0) 1 1 Tryd.underlying49 hi hz0 hz1 hz2 rfl (by decide) _ _ _ rfl (hown.alloc _) ⟨wr.heap.size, 0, none⟩ 1 1 [.int .u8 ((b : Int) / 2 ^ (8 * k) % 256)] rfl rfl ?c1 ?c2 ?c3 ?c4 ?c5 ?_)
          case c1 => exact cell_one _ _ _
          case c2 => intro u hu; simp at hu; subst hu; rfl
          case c3 => unfold maxLen; omega
          case c4 => omega
          case c5 => simp; omega
          intro v' w2 hown' hg _
          have R2 := Lib.hid (refbytes_hit R.out D.out hown' hg)
          clear hown' hg hown R
          go_wp2_with fail
          go_roundw
          case rel => exact ⟨j + 1, by omega, by congr 1; have := HKI.out; omega, R2.out⟩
          case measure => have := HKI.out; simp [intOf] <;> omega
        · obtain rfl : j = M := by omega
          have R := Lib.hid hR
          clear hR
          go_wp2_with fail
          go_ret2
          exact bytes_good V.out (by rw [Int.toNat_natCast]; exact byl_ne h8) (by rw [Int.toNat_natCast, byl_map, HM.out]; exact rd_of_own R.out.1) R.out.2
    · have hvf : vb b n = false := by simpa using hvb
      have V := Lib.hid (bytV_bad hv hvf)
      clear hvb
      go_enter Tryd.func49, Tryd.ntmps49
      go_wp2_with (first
        | (go_at_call 16; refine (vlr_any _ _).mono ?_; rintro e w' ⟨rfl, rfl⟩)
        | (go_at_call 20; refine (validr_any _ _ hb _).mono ?_; rintro e w' ⟨rfl, rfl⟩))
      go_ret2
      exact bytes_bad V.out
  · have hv0 : vl n = false := by simpa using hv
    have V := Lib.hid (bytV_len (b := b) hv0)
    clear hv
    go_enter Tryd.func49, Tryd.ntmps49
    go_wp2_with (go_at_call 16; refine (vlr_any _ _).mono ?_; rintro e w' ⟨rfl, rfl⟩)
    go_ret2
    exact bytes_bad V.out
/-- The number of the first j bytes. -/
def fbn (l : List UInt8) : Nat → Nat
  | 0 => 0
  | j + 1 => fbn l j * 256 + (l.getD j 0).toNat
theorem fbn_lt (l : List UInt8) : ∀ j, fbn l j < 256 ^ j
  | 0 => by simp [fbn]
  | j + 1 => by
    have h := fbn_lt l j
    have h2 := (l.getD j 0).toNat_lt
    rw [fbn, Nat.pow_succ]
    omega
theorem fbn_u64 (l : List UInt8) (j : Nat) (h : j ≤ 8) : U64 (fbn l j) := by
  have h1 := fbn_lt l j
  have h2 : 256 ^ j ≤ 256 ^ 8 := Nat.pow_le_pow_right (by decide) h
  have h3 : (256 : Nat) ^ 8 = 18446744073709551616 := by decide +kernel
  unfold U64; omega
theorem fbn_word (l : List UInt8) (j : Nat) (h : j < 8) :
    bits .or .u64 (IntKind.u64.wrap (((fbn l j : Nat) : Int) * 256)) (((l.getD j 0).toNat : Nat) : Int) = ((fbn l (j + 1) : Nat) : Int) := by
  have h1 := fbn_lt l j
  have h2 := (l.getD j 0).toNat_lt
  have h3 : 256 ^ (j + 1) ≤ 256 ^ 8 := Nat.pow_le_pow_right (by decide) h
  have h4 : (256 : Nat) ^ 8 = 18446744073709551616 := by decide +kernel
  rw [Nat.pow_succ] at h3
  have e : IntKind.u64.wrap (((fbn l j : Nat) : Int) * 256) = ((fbn l j * 256 : Nat) : Int) := by rw [IntKind.wrap_u64]; omega
  rw [e, orU _ _ (u64_mk (by omega)) (u64_mk (by omega)), fbn]
  rw [nat_join 8 (fbn l j * 256) _ (by omega) (by omega)]
/-- What FromBytes returns. -/
def frbV (l : List UInt8) : Nat × Int × Int := if l.length = 1 ∨ l.length = 2 ∨ l.length = 4 ∨ l.length = 8 then (fbn l l.length, ((8 * l.length : Nat) : Int), 0) else (0, 0, 2)
def FrbPost (l : List UInt8) (w : World) (e : Ending) (w' : World) : Prop := e = .returned (.tuple #[.int .u64 (((frbV l).1 : Nat) : Int), .int .i64 (frbV l).2.1, .int .i64 (frbV l).2.2]) ∧ w = w'
theorem frbV_ok {l : List UInt8} (h : l.length = 1 ∨ l.length = 2 ∨ l.length = 4 ∨ l.length = 8) : frbV l = (fbn l l.length, ((8 * l.length : Nat) : Int), 0) := by unfold frbV; rw [if_pos h]
theorem frbV_no {l : List UInt8} (h : ¬ (l.length = 1 ∨ l.length = 2 ∨ l.length = 4 ∨ l.length = 8)) : frbV l = (0, 0, 2) := by unfold frbV; rw [if_neg h]
theorem vl_eight {n : Nat} : vl (8 * (n : Int)) = true ↔ (n = 1 ∨ n = 2 ∨ n = 4 ∨ n = 8) := by
  constructor
  · intro h
    rcases vl_cases h with h | h | h | h <;> omega
  · rintro (rfl | rfl | rfl | rfl) <;> rfl
theorem bv_at {l : List UInt8} {j : Nat} (h : j < l.length) : (l.map bval)[j]? = some (.int .u8 (((l.getD j 0).toNat : Nat) : Int)) := by
  rw [List.getElem?_map, List.getElem?_eq_getElem h, List.getD_eq_getElem?_getD, List.getElem?_eq_getElem h]; rfl
set_option maxHeartbeats 1600000 in
theorem frbp_any (l : List UInt8) (q : Nat → Prop) (p : Option Addr) (c : Nat) (hl : l.length ≤ 1000) (w : World) (hR : Rd w q (.slice p l.length c) (l.map bval)) :
    Calls Tryd.prog 48 #[.slice p l.length c] w fun e w' => FrbPost l w e w' := by
  by_cases h8 : 8 < l.length
  · have V := Lib.hid (frbV_no (l := l) (by omega))
    go_enter Tryd.func48, Tryd.ntmps48
    go_wp2_with fail
    go_ret3
    exact ⟨by rw [V.out]; rfl, rfl⟩
  · by_cases hok : l.length = 1 ∨ l.length = 2 ∨ l.length = 4 ∨ l.length = 8
    · have hv : vl (8 * (l.length : Int)) = true := vl_eight.2 hok
      have V := Lib.hid (frbV_ok hok)
      clear hok
      go_enter Tryd.func48, Tryd.ntmps48
      go_wp2_with (go_at_call 15; refine (vlp_any _ _).mono ?_; rintro e w' ⟨rfl, rfl⟩)
      go_loop [2, 19] (fun b i => ∃ j : Nat, j ≤ l.length ∧ i = .int .i64 (j : Int) ∧ b = .int .u64 ((fbn l j : Nat) : Int)) (fun _ i => l.length - (intOf i).toNat)
      case atStart => exact ⟨0, Nat.zero_le _, rfl, rfl⟩
      case round =>
        obtain ⟨j, hj, rfl, rfl⟩ := hrel
        by_cases hlt : j < l.length
        · obtain ⟨g, off, rfl, hcell⟩ := hR.at_ (bv_at hlt)
          have hb8 := (l.getD j 0).toNat_lt
          have D := Lib.hid (fbn_word l j (by omega))
          generalize (l.getD j 0).toNat = x at *
          go_wp2_with fail
          go_round
          case rel => exact ⟨j + 1, by omega, by go_num, by rw [D.out]⟩
          case measure => simp [intOf]; omega
        · obtain rfl : j = l.length := by omega
          go_wp2_with fail
          go_ret3
          exact ⟨by rw [V.out]; rfl, rfl⟩
    · have hv : vl (8 * (l.length : Int)) = false := by
        cases h : vl (8 * (l.length : Int)) with
        | false => rfl
        | true => exact absurd (vl_eight.1 h) hok
      have V := Lib.hid (frbV_no hok)
      clear hok
      go_enter Tryd.func48, Tryd.ntmps48
      go_wp2_with (go_at_call 15; refine (vlp_any _ _).mono ?_; rintro e w' ⟨rfl, rfl⟩)
      go_ret3
      exact ⟨by rw [V.out]; rfl, rfl⟩
set_option maxHeartbeats 1600000 in
theorem frbr_any (l : List UInt8) (q : Nat → Prop) (p : Option Addr) (c : Nat) (hl : l.length ≤ 1000) (w : World) (hR : Rd w q (.slice p l.length c) (l.map bval)) :
    Calls Tryd.prog 50 #[.slice p l.length c] w fun e w' => FrbPost l w e w' := by
  by_cases hok : l.length = 1 ∨ l.length = 2 ∨ l.length = 4 ∨ l.length = 8
  · have hv : vl (8 * (l.length : Int)) = true := vl_eight.2 hok
    have V := Lib.hid (frbV_ok hok)
    have h8 : l.length ≤ 8 := by omega
    clear hok
    go_enter Tryd.func50, Tryd.ntmps50
    go_wp2_with (go_at_call 16; refine (vlr_any _ _).mono ?_; rintro e w' ⟨rfl, rfl⟩)
    go_loop [5, 6] (fun b i => ∃ j : Nat, j ≤ l.length ∧ i = .int .i64 (j : Int) ∧ b = .int .u64 ((fbn l j : Nat) : Int)) (fun _ i => l.length - (intOf i).toNat)
    case atStart => exact ⟨0, Nat.zero_le _, rfl, rfl⟩
    case round =>
      obtain ⟨j, hj, rfl, rfl⟩ := hrel
      by_cases hlt : j < l.length
      · obtain ⟨g, off, rfl, hcell⟩ := hR.at_ (bv_at hlt)
        have hb8 := (l.getD j 0).toNat_lt
        have D := Lib.hid (fbn_word l j (by omega))
        generalize (l.getD j 0).toNat = x at *
        go_wp2_with fail
        go_round
        case rel => exact ⟨j + 1, by omega, by go_num, by rw [D.out]⟩
        case measure => simp [intOf]; omega
      · obtain rfl : j = l.length := by omega
        go_wp2_with fail
        go_ret3
        exact ⟨by rw [V.out]; rfl, rfl⟩
  · have hv : vl (8 * (l.length : Int)) = false := by
      cases h : vl (8 * (l.length : Int)) with
      | false => rfl
      | true => exact absurd (vl_eight.1 h) hok
    have V := Lib.hid (frbV_no hok)
    clear hok
    go_enter Tryd.func50, Tryd.ntmps50
    go_wp2_with (go_at_call 16; refine (vlr_any _ _).mono ?_; rintro e w' ⟨rfl, rfl⟩)
    go_ret3
    exact ⟨by rw [V.out]; rfl, rfl⟩
end Go.Proofs.YtmbgcmhcpgdanaaDoor

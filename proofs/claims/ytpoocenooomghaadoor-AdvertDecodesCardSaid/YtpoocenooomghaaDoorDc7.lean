/- Parts of the proof, packed: IoTake, IoAppend, IoAppendR, IoSlice, IoJoin. -/
import Derived.Test.YtpoocenooomghaaDoorDc6
/- Take, of the program and of the reference. -/
namespace Go.Proofs.YtpoocenooomghaaDoor
open Go.RowKit Bs
/-- What Take returns. -/
def takeV (l : List Nat) (n a k : Int) : Nat × Int :=
  if vs l n = false then (0, 1) else if vw k = false then (0, 2) else if a < 0 then (0, 2) else if n - k < a then (0, 20) else (num (bt l) a.toNat k.toNat, 0)
set_option maxRecDepth 100000 in
theorem takeV_inv {l : List Nat} {n a k : Int} (h : vs l n = false) : takeV l n a k = (0, 1) := by unfold takeV; rw [if_pos h]
set_option maxRecDepth 100000 in
theorem takeV_width {l : List Nat} {n a k : Int} (h : vs l n = true) (h2 : vw k = false) : takeV l n a k = (0, 2) := by unfold takeV; rw [if_neg (by simp [h]), if_pos h2]
set_option maxRecDepth 100000 in
theorem takeV_neg {l : List Nat} {n a k : Int} (h : vs l n = true) (h2 : vw k = true) (h3 : a < 0) : takeV l n a k = (0, 2) := by unfold takeV; rw [if_neg (by simp [h]), if_neg (by simp [h2]), if_pos h3]
set_option maxRecDepth 100000 in
theorem takeV_short {l : List Nat} {n a k : Int} (h : vs l n = true) (h2 : vw k = true) (h3 : ¬ a < 0) (h4 : n - k < a) : takeV l n a k = (0, 20) := by unfold takeV; rw [if_neg (by simp [h]), if_neg (by simp [h2]), if_neg h3, if_pos h4]
set_option maxRecDepth 100000 in
theorem takeV_ok {l : List Nat} {n a k : Int} (h : vs l n = true) (h2 : vw k = true) (h3 : ¬ a < 0) (h4 : ¬ n - k < a) : takeV l n a k = (num (bt l) a.toNat k.toNat, 0) := by unfold takeV; rw [if_neg (by simp [h]), if_neg (by simp [h2]), if_neg h3, if_neg h4]
def TakePost (l : List Nat) (n a k : Int) (w : World) (e : Ending) (w' : World) : Prop := e = .returned (.tuple #[.int .u64 (((takeV l n a k).1 : Nat) : Int), .int .i64 (takeV l n a k).2]) ∧ w.grownBy w' none
set_option maxRecDepth 100000 in
theorem take_end {l : List Nat} {n a k : Int} {x : Nat} {y : Int} {w w' : World} (h : takeV l n a k = (x, y)) (g : w.grownBy w' none) : TakePost l n a k w (.returned (.tuple #[.int .u64 (x : Int), .int .i64 y])) w' := ⟨by rw [h], g⟩
set_option maxRecDepth 100000 in
theorem vw_nat {k : Int} (h : vw k = true) : ∃ K : Nat, k = (K : Int) ∧ K ≤ 64 := by
  unfold vw at h
  simp at h
  exact ⟨k.toNat, by omega, by omega⟩
set_option maxRecDepth 100000 in
theorem vs_bits {l : List Nat} {N : Nat} (h : vs l (N : Int) = true) : N ≤ 8192 ∧ l.length = (N + 7) / 8 := ⟨(vs_iff.1 h).1, (vs_iff.1 h).2.1⟩
set_option maxRecDepth 100000 in
/-- One block laid. -/
theorem one_box (w : World) (A : Array Value) (t : TypeId) : (w.alloc (.cells A t)).heap[w.heap.size]? = some (.cells A t (0, 0)) ∧ w.grownBy (w.alloc (.cells A t)) none := ⟨heap_alloc_new w _, World.grownBy_alloc w _ _⟩
set_option maxRecDepth 100000 in
set_option maxHeartbeats 1600000 in
theorem takep_any (l : List Nat) (n a k : Int) (q : Nat → Prop) (p : Option Addr) (c : Nat) (hl : By l) (ha : I64 a) (w : World) (hR : Rd w q (.slice p l.length c) (l.map nv)) :
    Calls Tryd.prog 90 #[.agg #[.slice p l.length c, .int .i64 n], .int .i64 a, .int .i64 k] w fun e w' => TakePost l n a k w e w' := by
  obtain ⟨k1, k2⟩ := one_box w #[.slice p l.length c, .int .i64 n] 47
  have H0 := Lib.hid (And.intro k1 k2)
  have hR1 := hR.keep k2
  unfold I64 at ha
  clear k1 k2 hR
  go_enter Tryd.func90, Tryd.ntmps90
  go_wp2_with fail
  generalize w.alloc (.cells #[.slice p l.length c, .int .i64 n] 47) = w1 at *
  refine (validp_any l n q p c hl _ hR1).mono ?_
  rintro e w2 ⟨rfl, hg⟩
  have hrow := kept_row H0.out.1 hg (by simp)
  obtain ⟨c0, c1⟩ := row_cells hrow
  have HG := Lib.hid (grown_trans H0.out.2 hg)
  have hR2 := hR1.keep hg
  clear hrow hg hR1 H0
  by_cases hv : vs l n = true
  · obtain ⟨N, rfl⟩ := vs_nat hv
    obtain ⟨hN, hlen⟩ := vs_bits hv
    rw [hv]
    by_cases hw : vw k = true
    · obtain ⟨K, rfl, hK⟩ := vw_nat hw
      by_cases h3 : a < 0
      · have V := Lib.hid (takeV_neg hv hw h3)
        clear hv hlen
        go_wp2_with (go_at_call 85; refine (width_any _ _).mono ?_; rintro e w' ⟨rfl, rfl⟩; rw [hw])
        go_ret2
        exact take_end V.out HG.out
      · by_cases h4 : (N : Int) - (K : Int) < a
        · have V := Lib.hid (takeV_short hv hw h3 h4)
          clear hv hlen
          go_wp2_with (go_at_call 85; refine (width_any _ _).mono ?_; rintro e w' ⟨rfl, rfl⟩; rw [hw])
          go_ret2
          exact take_end V.out HG.out
        · have V := Lib.hid (takeV_ok hv hw h3 h4)
          obtain ⟨A, rfl⟩ := Int.eq_ofNat_of_zero_le (show 0 ≤ a by omega)
          have C := read_any l q p c A K hl (by omega) (by omega) hK w2 hR2
          have H1 := Lib.hid C
          clear hv hlen C
          go_wp2_with (first
            | (go_at_call 85; refine (width_any _ _).mono ?_; rintro e w' ⟨rfl, rfl⟩; rw [hw])
            | (go_at_call 110; refine H1.out.mono ?_; rintro e w' ⟨rfl, m, rfl⟩))
          go_ret2
          exact take_end V.out (grown_trans HG.out (grown_drewN _ _ _))
    · have hw0 : vw k = false := by simpa using hw
      have V := Lib.hid (takeV_width (a := a) hv hw0)
      clear hv hlen
      go_wp2_with (go_at_call 85; refine (width_any _ _).mono ?_; rintro e w' ⟨rfl, rfl⟩; rw [hw0])
      go_ret2
      exact take_end V.out HG.out
  · have hv0 : vs l n = false := by simpa using hv
    have V := Lib.hid (takeV_inv (a := a) (k := k) hv0)
    rw [hv0]
    go_wp2_with fail
    go_ret2
    exact take_end V.out HG.out
set_option maxRecDepth 100000 in
theorem tk_word (v b : Nat) (hb : b ≤ 1) (hv : v * 2 + 2 ≤ 18446744073709551616) : bits .or .u64 (IntKind.u64.wrap ((v : Int) * 2)) (b : Int) = ((2 * v + b : Nat) : Int) := by
  rw [show IntKind.u64.wrap ((v : Int) * 2) = ((v * 2 : Nat) : Int) by rw [IntKind.wrap_u64]; omega, orU _ _ (u64_mk (by omega)) (u64_mk (by omega))]
  rw [nat_join 1 (v * 2) b (by omega) (by omega)]
  congr 1; omega
set_option maxRecDepth 100000 in
theorem tk_step {l : List Nat} {a j : Nat} (hj : j < 64) : bits .or .u64 (IntKind.u64.wrap (((num (bt l) a j : Nat) : Int) * 2)) (((bt l (a + j)).toNat : Nat) : Int) = ((num (bt l) a (j + 1) : Nat) : Int) := by
  have h1 := num_lt (bt l) a j
  have h2 : 2 ^ (j + 1) ≤ 2 ^ 64 := Nat.pow_le_pow_right (by decide) hj
  rw [Nat.pow_succ] at h2
  rw [tk_word _ _ (Bool.toNat_le _) (by have h3 : (2 : Nat) ^ 64 = 18446744073709551616 := rfl; omega)]
  rfl
set_option maxRecDepth 100000 in
set_option maxHeartbeats 1600000 in
theorem taker_any (l : List Nat) (n a k : Int) (q : Nat → Prop) (p : Option Addr) (c : Nat) (hl : By l) (ha : I64 a) (w : World) (hq : ∀ b, q b → b < w.heap.size) (hR : Rd w q (.slice p l.length c) (l.map nv)) :
    Calls Tryd.prog 91 #[.agg #[.slice p l.length c, .int .i64 n], .int .i64 a, .int .i64 k] w fun e w' => TakePost l n a k w e w' := by
  obtain ⟨k1, k2⟩ := one_box w #[.slice p l.length c, .int .i64 n] 47
  have H0 := Lib.hid (And.intro k1 k2)
  have hR1 := hR.keep k2
  have hq1 : ∀ b, q b → b < (w.alloc (.cells #[.slice p l.length c, .int .i64 n] 47)).heap.size := fun b hb => Nat.lt_of_lt_of_le (hq b hb) k2.size
  unfold I64 at ha
  clear k1 k2 hR
  go_enter Tryd.func91, Tryd.ntmps91
  go_wp2_with fail
  generalize w.alloc (.cells #[.slice p l.length c, .int .i64 n] 47) = w1 at *
  refine (validr_any l n q p c hl _ hq1 hR1).mono ?_
  rintro e w2 ⟨rfl, hg⟩
  have hrow := kept_row H0.out.1 hg (by simp)
  obtain ⟨c0, c1⟩ := row_cells hrow
  have HG := Lib.hid (grown_trans H0.out.2 hg)
  have hR2 := hR1.keep hg
  clear hrow hg hR1 H0 hq1
  by_cases hv : vs l n = true
  · obtain ⟨N, rfl⟩ := vs_nat hv
    obtain ⟨hN, hlen⟩ := vs_bits hv
    rw [hv]
    by_cases hw : vw k = true
    · obtain ⟨K, rfl, hK⟩ := vw_nat hw
      by_cases h3 : a < 0
      · have V := Lib.hid (takeV_neg hv hw h3)
        clear hv hlen hw
        go_wp2_with fail
        go_ret2
        exact take_end V.out HG.out
      · by_cases h4 : (N : Int) - (K : Int) < a
        · have V := Lib.hid (takeV_short hv hw h3 h4)
          clear hv hlen hw
          go_wp2_with fail
          go_ret2
          exact take_end V.out HG.out
        · have V := Lib.hid (takeV_ok hv hw h3 h4)
          obtain ⟨A, rfl⟩ := Int.eq_ofNat_of_zero_le (show 0 ≤ a by omega)
          have hA : A ≤ 8192 := by omega
          have hAK : A + K ≤ 8 * l.length := by omega
          rw [Int.toNat_natCast, Int.toNat_natCast] at V
          clear hv hw hlen
          go_wp2_with fail
          go_loop [8, 9] (fun x i => ∃ j : Nat, j ≤ K ∧ i = .int .i64 ((A + j : Nat) : Int) ∧ x = .int .u64 ((num (bt l) A j : Nat) : Int)) (fun _ i => (A + K - (RowKit.intOf i).toNat))
          case atStart => exact ⟨0, Nat.zero_le _, rfl, rfl⟩
          case round =>
            obtain ⟨j, hj, rfl, rfl⟩ := hrel
            by_cases hlt : j < K
            · have C := bitr_any l (A + j) q p c hl (by omega) (by omega) w2 hR2
              unfold bw at C
              have H1 := Lib.hid C
              have S := Lib.hid (tk_step (l := l) (a := A) (j := j) (by omega))
              have hAj : A + j ≤ 9000 := by omega
              clear C
              generalize (bt l (A + j)).toNat = x at *
              generalize num (bt l) A j = y at *
              go_wp2_with (go_at_call 60; refine H1.out.mono ?_; rintro e w' ⟨rfl, rfl⟩)
              go_round
              case rel => exact ⟨j + 1, by omega, by simp; omega, by rw [S.out]⟩
              case measure => simp [RowKit.intOf]; omega
            · obtain rfl : j = K := by omega
              go_wp2_with fail
              go_ret2
              exact take_end V.out HG.out
    · have hw0 : vw k = false := by simpa using hw
      have V := Lib.hid (takeV_width (a := a) hv hw0)
      have hk : k < 0 ∨ 64 < k := by unfold vw at hw0; simp at hw0; omega
      clear hv hlen hw hw0
      rcases hk with hk | hk
      · go_wp2_with fail
        go_ret2
        exact take_end V.out HG.out
      · have hk0 : ¬ k < 0 := by omega
        go_wp2_with fail
        go_ret2
        exact take_end V.out HG.out
  · have hv0 : vs l n = false := by simpa using hv
    have V := Lib.hid (takeV_inv (a := a) (k := k) hv0)
    rw [hv0]
    go_wp2_with fail
    go_ret2
    exact take_end V.out HG.out
end Go.Proofs.YtpoocenooomghaaDoor

/- The program's Append. -/
namespace Go.Proofs.YtpoocenooomghaaDoor
open Go.RowKit Bs
/-- The bits of a stream, then the k lowest bits of v. -/
def apf (l : List Nat) (N v K : Nat) : Nat → Bool := fun i => if i < N then bt l i else v.testBit (K - 1 - (i - N))
/-- What Append returns: the bytes, the number of bits, the error. -/
def apV (l : List Nat) (n : Int) (v : Nat) (k : Int) : List Nat × Int × Int :=
  if vs l n = false then ([], 0, 1) else if vw k = false then ([], 0, 2) else if 2 ^ k.toNat ≤ v then ([], 0, 2) else if 8192 < n + k then ([], 0, 3) else
    (pz (apf l n.toNat v k.toNat) (n.toNat + k.toNat) ((n.toNat + k.toNat + 7) / 8), n + k, 0)
set_option maxRecDepth 100000 in
theorem apV_inv {l : List Nat} {n k : Int} {v : Nat} (h : vs l n = false) : apV l n v k = ([], 0, 1) := by unfold apV; rw [if_pos h]
set_option maxRecDepth 100000 in
theorem apV_width {l : List Nat} {n k : Int} {v : Nat} (h : vs l n = true) (h2 : vw k = false) : apV l n v k = ([], 0, 2) := by unfold apV; rw [if_neg (by simp [h]), if_pos h2]
set_option maxRecDepth 100000 in
theorem apV_value {l : List Nat} {n : Int} {K v : Nat} (h : vs l n = true) (h2 : vw (K : Int) = true) (h3 : 2 ^ K ≤ v) : apV l n v (K : Int) = ([], 0, 2) := by unfold apV; rw [if_neg (by simp [h]), if_neg (by simp [h2]), Int.toNat_natCast, if_pos h3]
set_option maxRecDepth 100000 in
theorem apV_limit {l : List Nat} {N K v : Nat} (h : vs l (N : Int) = true) (h2 : vw (K : Int) = true) (h3 : ¬ 2 ^ K ≤ v) (h4 : 8192 < N + K) : apV l (N : Int) v (K : Int) = ([], 0, 3) := by
  unfold apV; rw [if_neg (by simp [h]), if_neg (by simp [h2]), Int.toNat_natCast, if_neg h3, if_pos (by omega)]
set_option maxRecDepth 100000 in
theorem apV_ok {l : List Nat} {N K v : Nat} (h : vs l (N : Int) = true) (h2 : vw (K : Int) = true) (h3 : ¬ 2 ^ K ≤ v) (h4 : ¬ 8192 < N + K) : apV l (N : Int) v (K : Int) = (pz (apf l N v K) (N + K) ((N + K + 7) / 8), ((N + K : Nat) : Int), 0) := by
  unfold apV; rw [if_neg (by simp [h]), if_neg (by simp [h2]), Int.toNat_natCast, Int.toNat_natCast, if_neg h3, if_neg (by omega)]; rfl
/-- A stream and an error come back. -/
def SPost (r : List Nat × Int × Int) (w : World) (e : Ending) (w' : World) : Prop := StreamErr r.1 r.2.1 r.2.2 w e w'
set_option maxRecDepth 100000 in
theorem SPost.of {r : List Nat × Int × Int} {l : List Nat} {n x : Int} {w w' : World} {e : Ending} (h : r = (l, n, x)) (k : StreamErr l n x w e w') : SPost r w e w' := by subst h; exact k
set_option maxRecDepth 100000 in
theorem sr_nil (w : World) (q : Nat → Prop) (n : Int) : SR w q (.agg #[.slice none 0 0, .int .i64 n]) [] n := ⟨none, 0, rfl, Rd.nil_ _ _ _ _, fun _ => rfl, fun x hx => by cases hx⟩
set_option maxRecDepth 100000 in
theorem err_end {w w2 : World} {b : Nat} {x : Int} (h : w.grownBy w2 none) (hb : w.heap.size ≤ b) : StreamErr [] 0 x w (.returned (.tuple #[.agg #[.slice none 0 0, .int .i64 0], .int .i64 x])) ((w2.setCell ⟨b, 0, none⟩ (.slice none 0 0)).setCell ⟨b, 1, none⟩ (.int .i64 0)) :=
  ⟨_, rfl, sr_nil _ _ _, grown_new h (grown_store2 w2 b _ _) hb⟩
set_option maxRecDepth 100000 in
/-- copy into a block of the call's own. -/
theorem wpList_copy_into {w : World} {ops : Array Oper} {rest : List Oper} {o : Oper} {a : Act} {Q : Exit → Act → World → Prop} (hgd : o.guard = none) (d s : Operand)
    (ho : o.op = .call { callee := .builtin .copy, args := #[d, s], argTypes := #[36, 36] }) (g N c : Nat) (hd : a.eval d = .slice (some ⟨g, 0, none⟩) N c) (p : Option Addr) (k c' : Nat) (hs : a.eval s = .slice p k c')
    (L : List Nat) (hB : Blk w g L) (hL : L.length = N) (l : List Nat) (hk : k = l.length) (q : Nat → Prop) (hR : Rd w q (.slice p k c') (l.map nv)) (hle : l.length ≤ N)
    (h : ∀ w', Blk w' g (l ++ L.drop l.length) → w.grownBy w' (some g) → wpList Tryd.prog ops Q rest (a.put o.dst (goInt l.length)) w') : wpList Tryd.prog ops Q (o :: rest) a w := by
  subst hk
  have hsz : (Tryd.prog.info? 5).map (·.size) = some 1 := by
    obtain ⟨i0, hi, hz0, hz1, hz2⟩ := info_parts info_u8
    rw [hi]; simp [hz1]
  by_cases h0 : l = []
  · subst h0
    refine wpList_copy_nothing hgd d s 36 36 ho 5 Tryd.underlying36 hsz _ _ _ _ _ _ hd hs (by simp) ?_
    exact h w (by simpa using hB) (grown_refl _ _)
  · obtain ⟨p1, c1, e1, hx⟩ := id hR
    injection e1 with a1 a2 a3
    subst a1
    obtain ⟨b, off, rfl, _, _⟩ := hx (by simpa using h0)
    have hBl : w.heap[g]? = some (.cells (L.map nv).toArray 5 (0, 0)) := hB
    refine wpList_copy_own hgd d s 36 36 ho 5 Tryd.underlying36 hsz g 0 N c ⟨b, off, none⟩ l.length c' hd hs _ _ hBl (l.map nv) (by rw [List.length_map]; exact (Nat.min_eq_left hle).symm) hR.news (by simp; omega) nv_one ?_
    rw [List.length_map]
    refine h _ ?_ ⟨rfl, rfl, rfl, by simp [World.setRow], fun k _ hk => setRow_other _ _ _ _ (by intro e; exact hk (by rw [e]))⟩
    refine (setRow_heap w g _ _ _ _ hBl).trans ?_
    congr 2
    simp [List.map_drop]
set_option maxRecDepth 100000 in
theorem pz_copy {l : List Nat} {N M : Nat} {f : Nat → Bool} (hl : By l) (hv : vs l (N : Int) = true) (hM : l.length ≤ M) (hf : ∀ i, i < N → f i = bt l i) : l ++ (List.replicate M 0).drop l.length = pz f N M := by
  obtain ⟨h1, h2, h3⟩ := vs_iff.1 hv
  have e := pz_bt l N hl fun i hi hi2 => h3 i hi2 hi
  apply List.ext_getElem?
  intro j
  by_cases hj : j < M
  · rw [pz_at _ _ _ _ hj]
    by_cases hjl : j < l.length
    · rw [List.getElem?_append_left hjl]
      have e2 : l[j]? = (pz (bt l) N l.length)[j]? := congrArg (fun x : List Nat => x[j]?) e
      rw [e2, pz_at _ _ _ _ hjl]
      refine congrArg some (py_congr fun i _ _ => ?_)
      by_cases hi : i < N
      · rw [hf i hi]
      · simp [hi]
    · rw [List.getElem?_append_right (by omega), List.getElem?_drop, List.getElem?_replicate, if_pos (by omega), py_zero f (by omega)]
  · rw [List.getElem?_eq_none (by simp; omega), List.getElem?_eq_none (by rw [pz_len]; omega)]
set_option maxRecDepth 100000 in
theorem ok_end {w w6 : World} {b g M : Nat} {L : List Nat} {T : Int} (hB : Blk w6 g L) (hM : M = L.length) (hL : By L) (hg : w.heap.size ≤ g) (h : w.grownBy w6 none) (hb : w.heap.size ≤ b) (hne : b ≠ g) :
    StreamErr L T 0 w (.returned (.tuple #[.agg #[.slice (some ⟨g, 0, none⟩) M M, .int .i64 T], .int .i64 0])) ((w6.setCell ⟨b, 0, none⟩ (.slice (some ⟨g, 0, none⟩) M M)).setCell ⟨b, 1, none⟩ (.int .i64 T)) := by
  subst hM
  have gr := grown_store2 w6 b (.slice (some ⟨g, 0, none⟩) L.length L.length) (.int .i64 T)
  refine ⟨_, rfl, ⟨some ⟨g, 0, none⟩, L.length, rfl, ?_, (by intro e; cases e), hL⟩, grown_new h gr hb⟩
  exact (hB.grown gr (by intro e; exact hne (Option.some.inj e).symm)).rd _ hg _
/-- Zeros' struct has been laid into a block of its own. -/
structure Made (W : World) (g M : Nat) (T : Int) (L : List Nat) (t : Nat) (w' : World) : Prop where
  blk : Blk w' g L
  row : w'.heap[t]? = some (.cells #[.slice (some ⟨g, 0, none⟩) M M, .int .i64 T] 47 (0, 0))
  gr : W.grownBy w' none
  ne : t ≠ g
  lo : W.heap.size ≤ g
set_option maxRecDepth 100000 in
theorem made_of {W w3 : World} {g M : Nat} {T : Int} {L : List Nat} (hB : Blk w3 g L) (hg : W.heap.size ≤ g) (h : W.grownBy w3 none) :
    Made W g M T L w3.heap.size (w3.alloc (.cells #[.slice (some ⟨g, 0, none⟩) M M, .int .i64 T] 47)) := by
  have hlt := hB.lt
  exact ⟨hB.keep (World.grownBy_alloc w3 _ _), heap_alloc_new w3 _, grown_trans h (World.grownBy_alloc w3 _ _), by omega, hg⟩
set_option maxRecDepth 100000 in
theorem grown_at {W w1 w2 : World} {g : Nat} (h : W.grownBy w1 none) (k : w1.grownBy w2 (some g)) (hb : W.heap.size ≤ g) : W.grownBy w2 none := grown_new h k hb
set_option maxRecDepth 100000 in
theorem Made.next {W w1 w2 : World} {g M t : Nat} {T : Int} {L L' : List Nat} (h : Made W g M T L t w1) (k : w1.grownBy w2 (some g)) (hB : Blk w2 g L') : Made W g M T L' t w2 :=
  ⟨hB, kept_row h.row k (by intro e; exact h.ne (Option.some.inj e)), grown_at h.gr k h.lo, h.ne, h.lo⟩
set_option maxRecDepth 100000 in
theorem apf_low {l : List Nat} {N v K : Nat} : ∀ i, i < N → apf l N v K i = bt l i := fun i hi => by unfold apf; rw [if_pos hi]
set_option maxRecDepth 100000 in
theorem apf_high {l : List Nat} {N v K : Nat} : ∀ t, t < K → apf l N v K (N + t) = v.testBit (K - 1 - t) := fun t _ => by
  unfold apf; rw [if_neg (by omega), show N + t - N = t by omega]
set_option maxRecDepth 100000 in
set_option maxHeartbeats 3200000 in
theorem appendp_any (l : List Nat) (n : Int) (v : Nat) (k : Int) (q : Nat → Prop) (p : Option Addr) (c : Nat) (hl : By l) (hv64 : U64 v) (w : World) (hq : ∀ b, q b → b < w.heap.size) (hR : Rd w q (.slice p l.length c) (l.map nv)) :
    Calls Tryd.prog 46 #[.agg #[.slice p l.length c, .int .i64 n], .int .u64 (v : Int), .int .i64 k] w fun e w' => SPost (apV l n v k) w e w' := by
  obtain ⟨k1, k2, k3, k4⟩ := two_boxes w #[.slice p l.length c, .int .i64 n] #[.slice none 0 0, .int .i64 0] 47 47
  have H0 := Lib.hid (And.intro k1 (And.intro k2 (And.intro k3 k4)))
  have hR1 := hR.keep k3
  clear k1 k2 k3 k4 hR
  go_enter Tryd.func46, Tryd.ntmps46
  go_wp2_with fail
  generalize (w.alloc (.cells #[.slice p l.length c, .int .i64 n] 47)).alloc (.cells #[.slice none 0 0, .int .i64 0] 47) = w1 at *
  refine (validp_any l n q p c hl _ hR1).mono ?_
  rintro e w2 ⟨rfl, hg⟩
  have hrow := kept_row H0.out.1 hg (by simp)
  have hres := kept_row H0.out.2.1 hg (by simp)
  obtain ⟨c0, c1⟩ := row_cells hrow
  obtain ⟨r0, r1⟩ := row_cells hres
  have g0 := frozen_of_row _ _ 0 _ _ hres
  have g1 := frozen_of_row _ _ 1 _ _ hres
  have HG := Lib.hid (grown_trans H0.out.2.2.1 hg)
  have HRES := Lib.hid hres
  have HROW := Lib.hid hrow
  have HSZ : Hid (w.heap.size + 2 ≤ w2.heap.size) := Lib.hid (by rw [← H0.out.2.2.2]; exact hg.size)
  have hR2 := hR1.keep hg
  clear hrow hres hg hR1 H0
  by_cases hv : vs l n = true
  · obtain ⟨N, rfl⟩ := vs_nat hv
    obtain ⟨hN, hlen⟩ := vs_bits hv
    rw [hv]
    by_cases hw : vw k = true
    · obtain ⟨K, rfl, hK⟩ := vw_nat hw
      have hKu : (K : Int) < 65 := by omega
      by_cases h3 : 2 ^ K ≤ v
      · have V := Lib.hid (apV_value hv hw h3)
        have hne : ((v : Int) / 2 ^ K == 0) = false := by
          rw [shrW]
          have := Nat.div_pos h3 (Nat.pow_pos (by decide))
          generalize v / 2 ^ K = z at *
          simp; omega
        clear hv hlen
        go_wp2_with (go_at_call 85; refine (width_any _ _).mono ?_; rintro e w' ⟨rfl, rfl⟩; rw [hw])
        refine bodyPost_ret (res_stream_err rfl _ _ (w.heap.size + 1) _ _ rfl (store2 HRES.out)) rfl ?_
        exact SPost.of V.out (err_end HG.out (by omega))
      · have hz : (v : Int) / 2 ^ K = 0 := by
          rw [shrW, Nat.div_eq_of_lt (by omega)]; rfl
        by_cases h4 : 8192 < N + K
        · have V := Lib.hid (apV_limit hv hw h3 h4)
          have h4' : (8192 : Int) < (N : Int) + (K : Int) := by omega
          clear hv hlen
          go_wp2_with (go_at_call 85; refine (width_any _ _).mono ?_; rintro e w' ⟨rfl, rfl⟩; rw [hw])
          refine bodyPost_ret (res_stream_err rfl _ _ (w.heap.size + 1) _ _ rfl (store2 HRES.out)) rfl ?_
          exact SPost.of V.out (err_end HG.out (by omega))
        · have V := Lib.hid (apV_ok hv hw h3 h4)
          have h4' : ¬ (8192 : Int) < (N : Int) + (K : Int) := by omega
          obtain ⟨T, hT⟩ : ∃ T : Nat, N + K = T := ⟨_, rfl⟩
          have hTi : (N : Int) + (K : Int) = (T : Int) := by omega
          have hT8 : T ≤ 8192 := by omega
          have C := zeros_any T (by omega) w2
          unfold ZerosPost at C
          generalize hM : (T + 7) / 8 = M at C
          have H1 := Lib.hid C
          have HM := Lib.hid hM
          have HT := Lib.hid hT
          have HL := Lib.hid hlen
          have HV := Lib.hid hv
          clear hv hlen C hM hT
          go_wp2_with (go_at_call 85; refine (width_any _ _).mono ?_; rintro e w' ⟨rfl, rfl⟩; rw [hw])
          refine H1.out.mono ?_
          rintro e w3 ⟨g, rfl, hgg, hB3, hg3⟩
          have hrow := kept_row HROW.out hg3 (by simp)
          have hres := kept_row HRES.out hg3 (by simp)
          obtain ⟨c0, c1⟩ := row_cells hrow
          obtain ⟨r0, r1⟩ := row_cells hres
          have g0 := frozen_of_row _ _ 0 _ _ hres
          have g1 := frozen_of_row _ _ 1 _ _ hres
          have hgne : ∀ b, q b → some b ≠ some g := fun b hb e => by have := hq b hb; have := Option.some.inj e; have := HG.out.size; omega
          have M4 := Lib.hid (made_of (W := w) (M := M) (T := (T : Int)) hB3 (by have := HG.out.size; omega) (grown_trans HG.out hg3))
          have hR4 := (hR2.keep hg3).keep (World.grownBy_alloc w3 (.cells #[.slice (some ⟨g, 0, none⟩) M M, .int .i64 (T : Int)] 47) none)
          have HR4 := Lib.hid hR4
          have n1 : ¬ w.heap.size = w3.heap.size := by have := HSZ.out; have := hg3.size; omega
          have n2 : w.heap.size ≠ w3.heap.size := n1
          have n3 : w.heap.size < w3.heap.size := by have := HSZ.out; have := hg3.size; omega
          have hgw : w.heap.size + 2 ≤ g := by have := HSZ.out; omega
          have HRES3 := Lib.hid (kept_row hres (World.grownBy_alloc w3 (.cells #[.slice (some ⟨g, 0, none⟩) M M, .int .i64 (T : Int)] 47) none) (by simp))
          have HROW3 := Lib.hid (kept_row hrow (World.grownBy_alloc w3 (.cells #[.slice (some ⟨g, 0, none⟩) M M, .int .i64 (T : Int)] 47) none) (by simp))
          clear hR4 hB3 hrow hres H1 hR2
          go_wp2_with (first
            | (refine wpList_copy_into rfl _ _ rfl g M M rfl p l.length c rfl (List.replicate M 0) M4.out.blk (by simp) l rfl q HR4.out (by have := HM.out; have := HL.out; have := HT.out; omega) ?_; intro w5 hB5 hg5; rw [pz_copy (f := apf l N v K) hl HV.out (by have := HM.out; have := HL.out; have := HT.out; omega) apf_low] at hB5; have M5 := Lib.hid (M4.out.next hg5 hB5); have HR5 := Lib.hid (kept_row HRES3.out hg5 (by intro e; have := Option.some.inj e; omega)); obtain ⟨d0, d1⟩ := row_cells (kept_row HROW3.out hg5 (by intro e; have := Option.some.inj e; omega)); obtain ⟨e0, e1⟩ := row_cells M5.out.row; clear hB5 hg5)
            | (go_at_call 87; refine (write_any (apf l N v K) M g M N K v (by have := HM.out; omega) (by have := HM.out; have := HT.out; omega) hK hv64 apf_high _ M5.out.blk).mono ?_; rintro e w6 ⟨rfl, hw6⟩; have M6 := Lib.hid (M5.out.next hw6.2 hw6.1); have HR6 := Lib.hid (kept_row HR5.out hw6.2 (by intro e; have := Option.some.inj e; omega)); obtain ⟨f0, f1⟩ := row_cells M6.out.row; obtain ⟨r0, r1⟩ := row_cells HR6.out; have g0 := frozen_of_row _ _ 0 _ _ HR6.out; have g1 := frozen_of_row _ _ 1 _ _ HR6.out; clear hw6))
          refine bodyPost_ret (res_stream_err rfl _ _ (w.heap.size + 1) _ _ rfl (store2 HR6.out)) rfl ?_
          refine SPost.of V.out ?_
          rw [HT.out, HM.out]
          have M6' := M6.out
          rw [HT.out] at M6'
          exact ok_end M6'.blk (by rw [pz_len]) (pz_lt _ _ _) M6'.lo M6'.gr (by omega) (by omega)
    · have hw0 : vw k = false := by simpa using hw
      have V := Lib.hid (apV_width (v := v) hv hw0)
      clear hv hlen
      go_wp2_with (go_at_call 85; refine (width_any _ _).mono ?_; rintro e w' ⟨rfl, rfl⟩; rw [hw0])
      refine bodyPost_ret (res_stream_err rfl _ _ (w.heap.size + 1) _ _ rfl (store2 HRES.out)) rfl ?_
      exact SPost.of V.out (err_end HG.out (by omega))
  · have hv0 : vs l n = false := by simpa using hv
    have V := Lib.hid (apV_inv (v := v) (k := k) hv0)
    rw [hv0]
    go_wp2_with fail
    refine bodyPost_ret (res_stream_err rfl _ _ (w.heap.size + 1) _ _ rfl (store2 HRES.out)) rfl ?_
    exact SPost.of V.out (err_end HG.out (by omega))
end Go.Proofs.YtpoocenooomghaaDoor

/- The reference's Append. -/
namespace Go.Proofs.YtpoocenooomghaaDoor
open Go.RowKit Bs
/-- A stream and an error come back, the bytes wherever they lie. -/
def RPost (r : List Nat × Int × Int) (w : World) (e : Ending) (w' : World) : Prop := ∃ v, e = .returned (.tuple #[v, .int .i64 r.2.2]) ∧ SR w' (fun _ => True) v r.1 r.2.1 ∧ w.grownBy w' none
set_option maxRecDepth 100000 in
theorem RPost.of {r : List Nat × Int × Int} {l : List Nat} {n x : Int} {w w' : World} {v : Value} (h : r = (l, n, x)) (k : SR w' (fun _ => True) v l n) (g : w.grownBy w' none) : RPost r w (.returned (.tuple #[v, .int .i64 x])) w' := by subst h; exact ⟨v, rfl, k, g⟩
set_option maxRecDepth 100000 in
theorem RPost.err {r : List Nat × Int × Int} {x : Int} {w w2 : World} {b : Nat} (h : r = ([], 0, x)) (hg : w.grownBy w2 none) (hb : w.heap.size ≤ b) :
    RPost r w (.returned (.tuple #[.agg #[.slice none 0 0, .int .i64 0], .int .i64 x])) ((w2.setCell ⟨b, 0, none⟩ (.slice none 0 0)).setCell ⟨b, 1, none⟩ (.int .i64 0)) :=
  RPost.of h (sr_nil _ _ _) (grown_new hg (grown_store2 w2 b _ _) hb)
/-- The box at b holds a stream whose bytes lie outside the blocks b and r; block r awaits the result. -/
structure BoxAt (W : World) (b r : Nat) (p : Option Addr) (c : Nat) (l : List Nat) (n : Int) (w' : World) : Prop where
  row : w'.heap[b]? = some (.cells #[.slice p l.length c, .int .i64 n] 47 (0, 0))
  res : w'.heap[r]? = some (.cells #[.slice none 0 0, .int .i64 0] 47 (0, 0))
  rd : Rd w' (fun x => x ≠ b ∧ x ≠ r) (.slice p l.length c) (l.map nv)
  pc : p = none → c = 0
  by_ : By l
  gr : W.grownBy w' none
section
variable {W w' w2 : World} {b r : Nat} {p : Option Addr} {c : Nat} {l : List Nat} {n : Int}
set_option maxRecDepth 100000 in
theorem BoxAt.limbs (h : BoxAt W b r p c l n w') : w'.cell? ⟨b, 0, none⟩ = some (.slice p l.length c) ∧ w'.cell? ⟨b, 1, none⟩ = some (.int .i64 n) ∧ w'.frozen? ⟨b, 0, none⟩ = false ∧ w'.frozen? ⟨b, 1, none⟩ = false ∧
    w'.cell? ⟨r, 0, none⟩ = some (.slice none 0 0) ∧ w'.cell? ⟨r, 1, none⟩ = some (.int .i64 0) ∧ w'.frozen? ⟨r, 0, none⟩ = false ∧ w'.frozen? ⟨r, 1, none⟩ = false :=
  ⟨(row_cells h.row).1, (row_cells h.row).2, frozen_of_row _ _ _ _ _ h.row, frozen_of_row _ _ _ _ _ h.row, (row_cells h.res).1, (row_cells h.res).2, frozen_of_row _ _ _ _ _ h.res, frozen_of_row _ _ _ _ _ h.res⟩
set_option maxRecDepth 100000 in
theorem BoxAt.keep (h : BoxAt W b r p c l n w') (k : w'.grownBy w2 none) : BoxAt W b r p c l n w2 := ⟨kept_row h.row k (by simp), kept_row h.res k (by simp), h.rd.keep k, h.pc, h.by_, grown_trans h.gr k⟩
set_option maxRecDepth 100000 in
theorem BoxAt.store {p' : Option Addr} {c' : Nat} {l' : List Nat} {n' : Int} {base : Nat} (h : BoxAt W b r p c l n w') (o : Own w' base p' c' l') (hb : W.heap.size ≤ b) (hbr : b ≠ r) (hb2 : b < base) (hr2 : r < base) :
    BoxAt W b r p' c' l' n' ((w'.setCell ⟨b, 0, none⟩ (.slice p' l'.length c')).setCell ⟨b, 1, none⟩ (.int .i64 n')) := by
  have g := grown_store2 w' b (.slice p' l'.length c') (.int .i64 n')
  exact ⟨store2 h.row, kept_row h.res g (by intro e; exact hbr (Option.some.inj e).symm), (o.rd.mono fun x hx => ⟨by omega, by omega⟩).grown g (by rintro x ⟨hx, _⟩ e; exact hx (Option.some.inj e)), o.pc, o.by_, grown_new h.gr g hb⟩
set_option maxRecDepth 100000 in
theorem BoxAt.fin {V : List Nat × Int × Int} (h : BoxAt W b r p c l n w') (hV : V = (l, n, 0)) (hr : W.heap.size ≤ r) :
    ((w'.setCell ⟨r, 0, none⟩ (.slice p l.length c)).setCell ⟨r, 1, none⟩ (.int .i64 n)).heap[r]? = some (.cells #[.slice p l.length c, .int .i64 n] 47 (0, 0)) ∧
      RPost V W (.returned (.tuple #[.agg #[.slice p l.length c, .int .i64 n], .int .i64 0])) ((w'.setCell ⟨r, 0, none⟩ (.slice p l.length c)).setCell ⟨r, 1, none⟩ (.int .i64 n)) := by
  have g := grown_store2 w' r (.slice p l.length c) (.int .i64 n)
  refine ⟨store2 h.res, RPost.of hV ⟨p, c, rfl, ?_, h.pc, h.by_⟩ (grown_new h.gr g hr)⟩
  exact (h.rd.grown g (by rintro x ⟨_, hx⟩ e; exact hx (Option.some.inj e))).mono fun _ _ => trivial
end
set_option maxRecDepth 100000 in
theorem and_one (v i : Nat) (hv : U64 v) : bits .and .u64 ((v : Int) / 2 ^ i) 1 = (((v.testBit i).toNat : Nat) : Int) := by
  rw [bitW v i hv, Nat.toNat_testBit]
/-- Behind j puts. -/
def PutsRel (f : Nat → Bool) (W : World) (b r N j : Nat) (w' : World) : Prop := ∃ p c, BoxAt W b r p c (pz f (N + j) ((N + j + 7) / 8)) ((N + j : Nat) : Int) w'
set_option maxRecDepth 100000 in
theorem PutsRel.open_ {f : Nat → Bool} {W w' : World} {b r N j : Nat} (h : PutsRel f W b r N j w') : ∃ p c l, Hid (l = pz f (N + j) ((N + j + 7) / 8)) ∧ BoxAt W b r p c l ((N + j : Nat) : Int) w' := by
  obtain ⟨p, c, h⟩ := h
  exact ⟨p, c, _, Lib.hid rfl, h⟩
set_option maxRecDepth 100000 in
theorem puts_next {f : Nat → Bool} {W w2 : World} {b r N j m base : Nat} {p p' : Option Addr} {c c' : Nat} {l l' : List Nat} {n : Int} (h : Hid (BoxAt W b r p c l n w2)) (hm : N + j = m) (hl : l' = pz f (m + 1) ((m + 8) / 8)) (o : Own w2 base p' c' l')
    (hb : W.heap.size ≤ b) (hbr : b ≠ r) (hb2 : b < base) (hr2 : r < base) :
    Hid (PutsRel f W b r N (j + 1) ((w2.setCell ⟨b, 0, none⟩ (.slice p' l'.length c')).setCell ⟨b, 1, none⟩ (.int .i64 ((m : Int) + 1)))) := by
  subst hm
  subst hl
  refine Lib.hid ⟨p', c', ?_⟩
  exact h.out.store o hb hbr hb2 hr2
set_option maxRecDepth 100000 in
set_option maxHeartbeats 3200000 in
theorem appendr_any (l : List Nat) (n : Int) (v : Nat) (k : Int) (q : Nat → Prop) (p : Option Addr) (c : Nat) (hl : By l) (hv64 : U64 v) (hpc : p = none → c = 0) (w : World) (hq : ∀ b, q b → b < w.heap.size) (hR : Rd w q (.slice p l.length c) (l.map nv)) :
    Calls Tryd.prog 58 #[.agg #[.slice p l.length c, .int .i64 n], .int .u64 (v : Int), .int .i64 k] w fun e w' => RPost (apV l n v k) w e w' := by
  obtain ⟨k1, k2, k3, k4⟩ := two_boxes w #[.slice p l.length c, .int .i64 n] #[.slice none 0 0, .int .i64 0] 47 47
  have hR1 := hR.keep k3
  have H0 := Lib.hid (show BoxAt w w.heap.size (w.heap.size + 1) p c l n _ from ⟨k1, k2, hR1.mono fun x hx => by have := hq x hx; exact ⟨by omega, by omega⟩, hpc, hl, k3⟩)
  have hq1 : ∀ b, q b → b < ((w.alloc (.cells #[.slice p l.length c, .int .i64 n] 47)).alloc (.cells #[.slice none 0 0, .int .i64 0] 47)).heap.size := fun b hb => Nat.lt_of_lt_of_le (hq b hb) k3.size
  have HSZ : Hid (w.heap.size + 2 ≤ ((w.alloc (.cells #[.slice p l.length c, .int .i64 n] 47)).alloc (.cells #[.slice none 0 0, .int .i64 0] 47)).heap.size) := Lib.hid (Nat.le_of_eq k4.symm)
  clear k1 k2 k3 k4 hR
  go_enter Tryd.func58, Tryd.ntmps58
  go_wp2_with fail
  generalize (w.alloc (.cells #[.slice p l.length c, .int .i64 n] 47)).alloc (.cells #[.slice none 0 0, .int .i64 0] 47) = w1 at *
  refine (validr_any l n q p c hl _ hq1 hR1).mono ?_
  rintro e w2 ⟨rfl, hg⟩
  have HB := Lib.hid (H0.out.keep hg)
  have HSZ2 : Hid (w.heap.size + 2 ≤ w2.heap.size) := Lib.hid (Nat.le_trans HSZ.out hg.size)
  obtain ⟨c0, c1, f0, f1, r0, r1, g0, g1⟩ := HB.out.limbs
  clear hg hR1 H0 hq1 HSZ
  by_cases hv : vs l n = true
  · obtain ⟨N, rfl⟩ := vs_nat hv
    obtain ⟨hN, hlen⟩ := vs_bits hv
    rw [hv]
    by_cases hw : vw k = true
    · obtain ⟨K, rfl, hK⟩ := vw_nat hw
      by_cases h3 : 2 ^ K ≤ v
      · have V := Lib.hid (apV_value hv hw h3)
        have hK64 : (K : Int) < 64 := by
          rcases Nat.lt_or_ge K 64 with h | h
          · omega
          · obtain rfl : K = 64 := by omega
            unfold U64 at hv64
            omega
        have hne : ((v : Int) / 2 ^ K == 0) = false := by
          rw [shrW]
          have := Nat.div_pos h3 (Nat.pow_pos (by decide))
          generalize v / 2 ^ K = z at *
          simp; omega
        have hne2 : ((v : Int) / 2 ^ K != 0) = true := by simp [bne, hne]
        have dk1 : decide ((K : Int) < 0) = false := by simp
        have dk2 : decide (64 < (K : Int)) = false := by simp; omega
        clear hv hlen hw
        go_wp2_with fail
        refine bodyPost_ret (res_stream_err rfl _ _ (w.heap.size + 1) _ _ rfl (store2 HB.out.res)) rfl ?_
        exact RPost.err V.out HB.out.gr (by omega)
      · have hz : (v : Int) / 2 ^ K = 0 := by
          rw [shrW, Nat.div_eq_of_lt (by omega)]; rfl
        have HL : Hid (l = pz (apf l N v K) N ((N + 7) / 8)) := by
          have e := pz_copy (M := l.length) hl hv (Nat.le_refl _) (apf_low (v := v) (K := K))
          rw [hlen] at e
          refine Lib.hid ?_
          rw [← e]; simp [hlen]
        by_cases h4 : 8192 < N + K
        · have V := Lib.hid (apV_limit hv hw h3 h4)
          have h4' : (8192 : Int) < (N : Int) + (K : Int) := by omega
          clear hv hlen hw
          rcases Nat.lt_or_ge K 64 with h | h
          · go_wp2_with fail
            refine bodyPost_ret (res_stream_err rfl _ _ (w.heap.size + 1) _ _ rfl (store2 HB.out.res)) rfl ?_
            exact RPost.err V.out HB.out.gr (by omega)
          · have hge : ¬ ((K : Int) < 64) := by omega
            go_wp2_with fail
            refine bodyPost_ret (res_stream_err rfl _ _ (w.heap.size + 1) _ _ rfl (store2 HB.out.res)) rfl ?_
            exact RPost.err V.out HB.out.gr (by omega)
        · have V := Lib.hid (apV_ok hv hw h3 h4)
          have h4' : ¬ (8192 : Int) < (N : Int) + (K : Int) := by omega
          have P0 : Hid (PutsRel (apf l N v K) w w.heap.size (w.heap.size + 1) N 0 w2) := by
            refine Lib.hid ⟨p, c, ?_⟩
            show BoxAt w w.heap.size (w.heap.size + 1) p c (pz (apf l N v K) N ((N + 7) / 8)) (N : Int) w2
            rw [← HL.out]
            exact HB.out
          have dk1 : decide ((K : Int) < 0) = false := by simp
          have dk2 : decide (64 < (K : Int)) = false := by simp; omega
          rcases Nat.lt_or_ge K 64 with h | h
          · clear hv hlen hw HL
            go_wp2_with fail
            go_loopw [8] (fun i wr => ∃ j : Nat, j ≤ K ∧ i = .int .i64 ((K : Int) - 1 - (j : Int)) ∧ PutsRel (apf l N v K) w w.heap.size (w.heap.size + 1) N j wr ∧ w.heap.size + 2 ≤ wr.heap.size) (fun i _ => (RowKit.intOf i + 1).toNat)
            case atStart => exact ⟨0, Nat.zero_le _, by simp, P0.out, HSZ2.out⟩
            case round =>
              obtain ⟨j, hj, rfl, hP, hsz⟩ := hrel
              obtain ⟨p1, c1, l1, HL1, hB1⟩ := hP.open_
              have HB1 := Lib.hid hB1
              have HZ := Lib.hid hsz
              clear hP hB1 P0 hsz
              by_cases hlt : j < K
              · obtain ⟨i, hi⟩ : ∃ i : Nat, i = K - 1 - j := ⟨_, rfl⟩
                have hii : (K : Int) - 1 - (j : Int) = (i : Int) := by omega
                have hi64 : i < 64 := by omega
                obtain ⟨m, hm⟩ : ∃ m : Nat, N + j = m := ⟨_, rfl⟩
                have hbit : bits .and .u64 ((v : Int) / 2 ^ i) 1 = (((apf l N v K m).toNat : Nat) : Int) := by
                  rw [and_one v i hv64, ← hm, apf_high j hlt, hi]
                have hbl := Bool.toNat_le (apf l N v K m)
                have C : ∀ (l1 : List Nat) (p1 : Option Addr) (c1 : Nat), l1 = pz (apf l N v K) m ((m + 7) / 8) → (p1 = none → c1 = 0) → Rd wr (fun x => x ≠ w.heap.size ∧ x ≠ w.heap.size + 1) (.slice p1 l1.length c1) (l1.map nv) → Calls Tryd.prog 61 #[.agg #[.slice p1 l1.length c1, .int .i64 (m : Int)], .int .u64 (((apf l N v K m).toNat : Nat) : Int)] wr fun e w' => StreamPost (pz (apf l N v K) (m + 1) ((m + 8) / 8)) ((m + 1 : Nat) : Int) wr e w' :=
                  fun l1 p1 c1 h1 h2 h3 => put_any (apf l N v K) m l1 _ p1 c1 (by omega) h1 h2 wr h3
                rw [hm] at HL1 HB1
                have H1 := Lib.hid (C l1 p1 c1 HL1.out HB1.out.pc HB1.out.rd)
                obtain ⟨c0, c2, f0, f1, r0, r1, g0, g1⟩ := HB1.out.limbs
                have HI := Lib.hid hi
                have HM := Lib.hid hm
                have hm9 : m ≤ 8192 := by omega
                clear C hi hm
                generalize (apf l N v K m).toNat = bb at *
                rw [hii]
                have HII := Lib.hid hii
                clear hii
                go_wp2_with fail
                refine H1.out.mono ?_
                rintro e w3 ⟨p3, c3, rfl, hown3, hg3⟩
                have hm8 : m / 8 + 1 = (m + 8) / 8 := by omega
                obtain ⟨l3, hl3⟩ : ∃ l3, l3 = pz (apf l N v K) (m + 1) ((m + 8) / 8) := ⟨_, rfl⟩
                rw [← hl3] at hown3
                rw [← hl3]
                have HB3 := Lib.hid (HB1.out.keep hg3)
                have R := puts_next (f := apf l N v K) (N := N) (j := j) HB3 HM.out hl3 hown3 (by omega) (by omega) (by have := HZ.out; omega) (by have := HZ.out; omega)
                have R2 := Nat.le_trans HZ.out hg3.size
                have R3 := Lib.hid R2
                obtain ⟨c0, c2, f0, f1, r0, r1, g0, g1⟩ := HB3.out.limbs
                clear hown3 hg3 hm8 hl3 R2
                go_wp2_with fail
                go_roundw
                case rel => exact ⟨j + 1, by omega, by congr 1; have := HI.out; omega, R.out, by simpa using R3.out⟩
                case measure => have := HI.out; simp [RowKit.intOf] <;> omega
              · obtain rfl : j = K := by omega
                obtain ⟨c0, c2, f0, f1, r0, r1, g0, g1⟩ := HB1.out.limbs
                have F := Lib.hid (HB1.out.fin (V := apV l (N : Int) v (j : Int)) (by rw [V.out, HL1.out]) (by omega))
                clear HB1
                go_wp2_with fail
                refine bodyPost_ret (res_stream_err rfl _ _ (w.heap.size + 1) _ _ rfl F.out.1) rfl ?_
                exact F.out.2
          · have hge : ¬ ((K : Int) < 64) := by omega
            clear hv hlen hw HL
            go_wp2_with fail
            go_loopw [8] (fun i wr => ∃ j : Nat, j ≤ K ∧ i = .int .i64 ((K : Int) - 1 - (j : Int)) ∧ PutsRel (apf l N v K) w w.heap.size (w.heap.size + 1) N j wr ∧ w.heap.size + 2 ≤ wr.heap.size) (fun i _ => (RowKit.intOf i + 1).toNat)
            case atStart => exact ⟨0, Nat.zero_le _, by simp, P0.out, HSZ2.out⟩
            case round =>
              obtain ⟨j, hj, rfl, hP, hsz⟩ := hrel
              obtain ⟨p1, c1, l1, HL1, hB1⟩ := hP.open_
              have HB1 := Lib.hid hB1
              have HZ := Lib.hid hsz
              clear hP hB1 P0 hsz
              by_cases hlt : j < K
              · obtain ⟨i, hi⟩ : ∃ i : Nat, i = K - 1 - j := ⟨_, rfl⟩
                have hii : (K : Int) - 1 - (j : Int) = (i : Int) := by omega
                have hi64 : i < 64 := by omega
                obtain ⟨m, hm⟩ : ∃ m : Nat, N + j = m := ⟨_, rfl⟩
                have hbit : bits .and .u64 ((v : Int) / 2 ^ i) 1 = (((apf l N v K m).toNat : Nat) : Int) := by
                  rw [and_one v i hv64, ← hm, apf_high j hlt, hi]
                have hbl := Bool.toNat_le (apf l N v K m)
                have C : ∀ (l1 : List Nat) (p1 : Option Addr) (c1 : Nat), l1 = pz (apf l N v K) m ((m + 7) / 8) → (p1 = none → c1 = 0) → Rd wr (fun x => x ≠ w.heap.size ∧ x ≠ w.heap.size + 1) (.slice p1 l1.length c1) (l1.map nv) → Calls Tryd.prog 61 #[.agg #[.slice p1 l1.length c1, .int .i64 (m : Int)], .int .u64 (((apf l N v K m).toNat : Nat) : Int)] wr fun e w' => StreamPost (pz (apf l N v K) (m + 1) ((m + 8) / 8)) ((m + 1 : Nat) : Int) wr e w' :=
                  fun l1 p1 c1 h1 h2 h3 => put_any (apf l N v K) m l1 _ p1 c1 (by omega) h1 h2 wr h3
                rw [hm] at HL1 HB1
                have H1 := Lib.hid (C l1 p1 c1 HL1.out HB1.out.pc HB1.out.rd)
                obtain ⟨c0, c2, f0, f1, r0, r1, g0, g1⟩ := HB1.out.limbs
                have HI := Lib.hid hi
                have HM := Lib.hid hm
                have hm9 : m ≤ 8192 := by omega
                clear C hi hm
                generalize (apf l N v K m).toNat = bb at *
                rw [hii]
                have HII := Lib.hid hii
                clear hii
                go_wp2_with fail
                refine H1.out.mono ?_
                rintro e w3 ⟨p3, c3, rfl, hown3, hg3⟩
                have hm8 : m / 8 + 1 = (m + 8) / 8 := by omega
                obtain ⟨l3, hl3⟩ : ∃ l3, l3 = pz (apf l N v K) (m + 1) ((m + 8) / 8) := ⟨_, rfl⟩
                rw [← hl3] at hown3
                rw [← hl3]
                have HB3 := Lib.hid (HB1.out.keep hg3)
                have R := puts_next (f := apf l N v K) (N := N) (j := j) HB3 HM.out hl3 hown3 (by omega) (by omega) (by have := HZ.out; omega) (by have := HZ.out; omega)
                have R2 := Nat.le_trans HZ.out hg3.size
                have R3 := Lib.hid R2
                obtain ⟨c0, c2, f0, f1, r0, r1, g0, g1⟩ := HB3.out.limbs
                clear hown3 hg3 hm8 hl3 R2
                go_wp2_with fail
                go_roundw
                case rel => exact ⟨j + 1, by omega, by congr 1; have := HI.out; omega, R.out, by simpa using R3.out⟩
                case measure => have := HI.out; simp [RowKit.intOf] <;> omega
              · obtain rfl : j = K := by omega
                obtain ⟨c0, c2, f0, f1, r0, r1, g0, g1⟩ := HB1.out.limbs
                have F := Lib.hid (HB1.out.fin (V := apV l (N : Int) v (j : Int)) (by rw [V.out, HL1.out]) (by omega))
                clear HB1
                go_wp2_with fail
                refine bodyPost_ret (res_stream_err rfl _ _ (w.heap.size + 1) _ _ rfl F.out.1) rfl ?_
                exact F.out.2
    · have hw0 : vw k = false := by simpa using hw
      have V := Lib.hid (apV_width (v := v) hv hw0)
      have hk : k < 0 ∨ 64 < k := by unfold vw at hw0; simp at hw0; omega
      clear hv hlen hw hw0
      rcases hk with hk | hk
      · go_wp2_with fail
        refine bodyPost_ret (res_stream_err rfl _ _ (w.heap.size + 1) _ _ rfl (store2 HB.out.res)) rfl ?_
        exact RPost.err V.out HB.out.gr (by omega)
      · have hk0 : ¬ k < 0 := by omega
        go_wp2_with fail
        refine bodyPost_ret (res_stream_err rfl _ _ (w.heap.size + 1) _ _ rfl (store2 HB.out.res)) rfl ?_
        exact RPost.err V.out HB.out.gr (by omega)
  · have hv0 : vs l n = false := by simpa using hv
    have V := Lib.hid (apV_inv (v := v) (k := k) hv0)
    rw [hv0]
    go_wp2_with fail
    refine bodyPost_ret (res_stream_err rfl _ _ (w.heap.size + 1) _ _ rfl (store2 HB.out.res)) rfl ?_
    exact RPost.err V.out HB.out.gr (by omega)
end Go.Proofs.YtpoocenooomghaaDoor

/- Slice, of the program and of the reference. -/
namespace Go.Proofs.YtpoocenooomghaaDoor
open Go.RowKit Bs
/-- What Slice returns. -/
def slV (l : List Nat) (n a b : Int) : List Nat × Int × Int :=
  if vs l n = false then ([], 0, 1) else if a < 0 then ([], 0, 2) else if b < a then ([], 0, 2) else if n < b then ([], 0, 2) else
    (pz (fun i => bt l (a.toNat + i)) (b.toNat - a.toNat) ((b.toNat - a.toNat + 7) / 8), ((b.toNat - a.toNat : Nat) : Int), 0)
set_option maxRecDepth 100000 in
theorem slV_inv {l : List Nat} {n a b : Int} (h : vs l n = false) : slV l n a b = ([], 0, 1) := by unfold slV; rw [if_pos h]
set_option maxRecDepth 100000 in
theorem slV_range {l : List Nat} {n a b : Int} (h : vs l n = true) (h2 : a < 0 ∨ b < a ∨ n < b) : slV l n a b = ([], 0, 2) := by
  unfold slV; rw [if_neg (by simp [h])]
  by_cases x1 : a < 0
  · rw [if_pos x1]
  · rw [if_neg x1]
    by_cases x2 : b < a
    · rw [if_pos x2]
    · rw [if_neg x2, if_pos (by omega)]
set_option maxRecDepth 100000 in
theorem slV_ok {l : List Nat} {N A T B : Nat} (h : vs l (N : Int) = true) (hB : A + T = B) (h2 : B ≤ N) : slV l (N : Int) (A : Int) (B : Int) = (pz (fun i => bt l (A + i)) T ((T + 7) / 8), (T : Int), 0) := by
  subst hB
  unfold slV
  rw [if_neg (by simp [h]), if_neg (by omega), if_neg (by omega), if_neg (by omega), Int.toNat_natCast, Int.toNat_natCast, show A + T - A = T by omega]
set_option maxRecDepth 100000 in
theorem pz_none (f : Nat → Bool) (M : Nat) : List.replicate M 0 = pz f 0 M := (pz_zero f M).symm
set_option maxRecDepth 100000 in
set_option maxHeartbeats 3200000 in
theorem slicep_any (l : List Nat) (n a b : Int) (q : Nat → Prop) (p : Option Addr) (c : Nat) (hl : By l) (ha : I64 a) (hb : I64 b) (w : World) (hq : ∀ b, q b → b < w.heap.size) (hR : Rd w q (.slice p l.length c) (l.map nv)) :
    Calls Tryd.prog 51 #[.agg #[.slice p l.length c, .int .i64 n], .int .i64 a, .int .i64 b] w fun e w' => SPost (slV l n a b) w e w' := by
  obtain ⟨k1, k2, k3, k4⟩ := two_boxes w #[.slice p l.length c, .int .i64 n] #[.slice none 0 0, .int .i64 0] 47 47
  have H0 := Lib.hid (And.intro k1 (And.intro k2 (And.intro k3 k4)))
  have hR1 := hR.keep k3
  unfold I64 at ha hb
  clear k1 k2 k3 k4 hR
  go_enter Tryd.func51, Tryd.ntmps51
  go_wp2_with fail
  generalize (w.alloc (.cells #[.slice p l.length c, .int .i64 n] 47)).alloc (.cells #[.slice none 0 0, .int .i64 0] 47) = w1 at *
  refine (validp_any l n q p c hl _ hR1).mono ?_
  rintro e w2 ⟨rfl, hg⟩
  have hrow := kept_row H0.out.1 hg (by simp)
  have hres := kept_row H0.out.2.1 hg (by simp)
  obtain ⟨c0, c1⟩ := row_cells hrow
  obtain ⟨r0, r1⟩ := row_cells hres
  have g0 := frozen_of_row _ _ 0 _ _ hres
  have g1 := frozen_of_row _ _ 1 _ _ hres
  have HG := Lib.hid (grown_trans H0.out.2.2.1 hg)
  have HRES := Lib.hid hres
  have HROW := Lib.hid hrow
  have HSZ : Hid (w.heap.size + 2 ≤ w2.heap.size) := Lib.hid (by rw [← H0.out.2.2.2]; exact hg.size)
  have hR2 := hR1.keep hg
  clear hrow hres hg hR1 H0
  by_cases hv : vs l n = true
  · obtain ⟨N, rfl⟩ := vs_nat hv
    obtain ⟨hN, hlen⟩ := vs_bits hv
    rw [hv]
    by_cases h1 : a < 0
    · have V := Lib.hid (slV_range (b := b) hv (.inl h1))
      clear hv hlen
      go_wp2_with fail
      refine bodyPost_ret (res_stream_err rfl _ _ (w.heap.size + 1) _ _ rfl (store2 HRES.out)) rfl ?_
      exact SPost.of V.out (err_end HG.out (by omega))
    · by_cases h2 : b < a
      · have V := Lib.hid (slV_range hv (.inr (.inl h2)))
        clear hv hlen
        go_wp2_with fail
        refine bodyPost_ret (res_stream_err rfl _ _ (w.heap.size + 1) _ _ rfl (store2 HRES.out)) rfl ?_
        exact SPost.of V.out (err_end HG.out (by omega))
      · by_cases h3 : (N : Int) < b
        · have V := Lib.hid (slV_range (a := a) hv (.inr (.inr h3)))
          clear hv hlen
          go_wp2_with fail
          refine bodyPost_ret (res_stream_err rfl _ _ (w.heap.size + 1) _ _ rfl (store2 HRES.out)) rfl ?_
          exact SPost.of V.out (err_end HG.out (by omega))
        · obtain ⟨A, rfl⟩ := Int.eq_ofNat_of_zero_le (show 0 ≤ a by omega)
          obtain ⟨B, rfl⟩ := Int.eq_ofNat_of_zero_le (show 0 ≤ b by omega)
          obtain ⟨T, hB⟩ : ∃ T : Nat, A + T = B := ⟨B - A, by omega⟩
          have hBN : B ≤ N := by omega
          have V := Lib.hid (slV_ok hv hB hBN)
          have hTi : (B : Int) - (A : Int) = (T : Int) := by omega
          have C := zeros_any T (by omega) w2
          unfold ZerosPost at C
          generalize hM : (T + 7) / 8 = M at C
          have H1 := Lib.hid C
          have HM := Lib.hid hM
          have HL := Lib.hid hlen
          have hT8 : T ≤ 8192 := by omega
          have hA8 : A ≤ 8192 := by omega
          have HAT : Hid (A + T ≤ N) := Lib.hid (by omega)
          have HB := Lib.hid hB
          have hB8 : B ≤ 8192 := by omega
          clear hv hlen C hM hB
          go_wp2_with fail
          refine H1.out.mono ?_
          rintro e w3 ⟨g, rfl, hgg, hB3, hg3⟩
          have hrow := kept_row HROW.out hg3 (by simp)
          have hres := kept_row HRES.out hg3 (by simp)
          obtain ⟨c0, c1⟩ := row_cells hrow
          obtain ⟨r0, r1⟩ := row_cells hres
          have g0 := frozen_of_row _ _ 0 _ _ hres
          have g1 := frozen_of_row _ _ 1 _ _ hres
          have hqg : ¬ q g := fun h => by have := hq g h; have := HG.out.size; omega
          have M4 := Lib.hid (made_of (W := w) (M := M) (T := (T : Int)) hB3 (by have := HG.out.size; omega) (grown_trans HG.out hg3))
          have hR4 := (hR2.keep hg3).keep (World.grownBy_alloc w3 (.cells #[.slice (some ⟨g, 0, none⟩) M M, .int .i64 (T : Int)] 47) none)
          have HR4 := Lib.hid hR4
          have n1 : ¬ w.heap.size = w3.heap.size := by have := HSZ.out; have := hg3.size; omega
          have n2 : w.heap.size ≠ w3.heap.size := n1
          have n3 : w.heap.size < w3.heap.size := by have := HSZ.out; have := hg3.size; omega
          have hgw : w.heap.size + 2 ≤ g := by have := HSZ.out; omega
          have HRES3 := Lib.hid (kept_row hres (World.grownBy_alloc w3 (.cells #[.slice (some ⟨g, 0, none⟩) M M, .int .i64 (T : Int)] 47) none) (by simp))
          clear hR4 hB3 hrow hres H1 hR2
          go_wp2_with (go_at_call 89; refine (move_any (fun i => bt l (A + i)) M g M 0 A T l q p c (by have := HM.out; omega) (by have := HM.out; omega) hl (by have := HL.out; omega) (by have := HL.out; have := HAT.out; omega) (fun t _ => by rw [Nat.zero_add]) _ (by rw [← pz_none]; exact M4.out.blk) HR4.out hqg).mono ?_; rintro e w6 ⟨rfl, hw6⟩; have M6 := Lib.hid (M4.out.next hw6.2 hw6.1); have HR6 := Lib.hid (kept_row HRES3.out hw6.2 (by intro e; have := Option.some.inj e; omega)); obtain ⟨f0, f1⟩ := row_cells M6.out.row; obtain ⟨r0, r1⟩ := row_cells HR6.out; have g0 := frozen_of_row _ _ 0 _ _ HR6.out; have g1 := frozen_of_row _ _ 1 _ _ HR6.out; clear hw6)
          refine bodyPost_ret (res_stream_err rfl _ _ (w.heap.size + 1) _ _ rfl (store2 HR6.out)) rfl ?_
          refine SPost.of V.out ?_
          rw [HM.out]
          have M6' := M6.out
          rw [Nat.zero_add] at M6'
          exact ok_end M6'.blk (by rw [pz_len]) (pz_lt _ _ _) M6'.lo M6'.gr (by omega) (by omega)
  · have hv0 : vs l n = false := by simpa using hv
    have V := Lib.hid (slV_inv (a := a) (b := b) hv0)
    rw [hv0]
    go_wp2_with fail
    refine bodyPost_ret (res_stream_err rfl _ _ (w.heap.size + 1) _ _ rfl (store2 HRES.out)) rfl ?_
    exact SPost.of V.out (err_end HG.out (by omega))
end Go.Proofs.YtpoocenooomghaaDoor

/- Join and Align of the program. -/
namespace Go.Proofs.YtpoocenooomghaaDoor
open Go.RowKit Bs
/-- The bits of a, then those of b. -/
def jnf (l : List Nat) (N : Nat) (l' : List Nat) : Nat → Bool := fun i => if i < N then bt l i else bt l' (i - N)
/-- What Join returns. -/
def jnV (l : List Nat) (n : Int) (l' : List Nat) (n' : Int) : List Nat × Int × Int :=
  if vs l n = false then ([], 0, 1) else if vs l' n' = false then ([], 0, 1) else if 8192 < n + n' then ([], 0, 3) else
    (pz (jnf l n.toNat l') (n.toNat + n'.toNat) ((n.toNat + n'.toNat + 7) / 8), ((n.toNat + n'.toNat : Nat) : Int), 0)
set_option maxRecDepth 100000 in
theorem jnV_inv {l l' : List Nat} {n n' : Int} (h : vs l n = false) : jnV l n l' n' = ([], 0, 1) := by unfold jnV; rw [if_pos h]
set_option maxRecDepth 100000 in
theorem jnV_inv2 {l l' : List Nat} {n n' : Int} (h : vs l n = true) (h2 : vs l' n' = false) : jnV l n l' n' = ([], 0, 1) := by unfold jnV; rw [if_neg (by simp [h]), if_pos h2]
set_option maxRecDepth 100000 in
theorem jnV_limit {l l' : List Nat} {N N' : Nat} (h : vs l (N : Int) = true) (h2 : vs l' (N' : Int) = true) (h3 : 8192 < N + N') : jnV l (N : Int) l' (N' : Int) = ([], 0, 3) := by
  unfold jnV; rw [if_neg (by simp [h]), if_neg (by simp [h2]), if_pos (by omega)]
set_option maxRecDepth 100000 in
theorem jnV_ok {l l' : List Nat} {N N' T : Nat} (h : vs l (N : Int) = true) (h2 : vs l' (N' : Int) = true) (hT : N + N' = T) (h3 : ¬ 8192 < T) : jnV l (N : Int) l' (N' : Int) = (pz (jnf l N l') T ((T + 7) / 8), (T : Int), 0) := by
  subst hT
  unfold jnV; rw [if_neg (by simp [h]), if_neg (by simp [h2]), if_neg (by omega), Int.toNat_natCast, Int.toNat_natCast]
set_option maxRecDepth 100000 in
theorem jnf_low {l l' : List Nat} {N : Nat} : ∀ i, i < N → jnf l N l' i = bt l i := fun i hi => by unfold jnf; rw [if_pos hi]
set_option maxRecDepth 100000 in
theorem jnf_high {l l' : List Nat} {N K : Nat} : ∀ t, t < K → jnf l N l' (N + t) = bt l' (0 + t) := fun t _ => by
  unfold jnf; rw [if_neg (by omega), show N + t - N = t by omega, Nat.zero_add]
set_option maxRecDepth 100000 in
/-- Three blocks laid one behind the other. -/
theorem three_boxes (w : World) (A B Z : Array Value) (t : TypeId) :
    (((w.alloc (.cells A t)).alloc (.cells B t)).alloc (.cells Z t)).heap[w.heap.size]? = some (.cells A t (0, 0)) ∧ (((w.alloc (.cells A t)).alloc (.cells B t)).alloc (.cells Z t)).heap[w.heap.size + 1]? = some (.cells B t (0, 0)) ∧
      (((w.alloc (.cells A t)).alloc (.cells B t)).alloc (.cells Z t)).heap[w.heap.size + 2]? = some (.cells Z t (0, 0)) ∧ w.grownBy (((w.alloc (.cells A t)).alloc (.cells B t)).alloc (.cells Z t)) none ∧ (((w.alloc (.cells A t)).alloc (.cells B t)).alloc (.cells Z t)).heap.size = w.heap.size + 3 := by
  obtain ⟨k1, k2, k3, k4⟩ := two_boxes w A B t t
  have g := World.grownBy_alloc ((w.alloc (.cells A t)).alloc (.cells B t)) (.cells Z t) none
  refine ⟨kept_row k1 g (by simp), kept_row k2 g (by simp), ?_, grown_trans k3 g, by simp⟩
  rw [← k4]; exact heap_alloc_new _ _
end Go.Proofs.YtpoocenooomghaaDoor

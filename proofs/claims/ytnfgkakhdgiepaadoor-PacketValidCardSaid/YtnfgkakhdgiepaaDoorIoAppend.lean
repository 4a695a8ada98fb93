/- The program's Append. -/
import Derived.Test.YtnfgkakhdgiepaaDoorIoTake
namespace Go.Proofs.YtnfgkakhdgiepaaDoor
open Go.RowKit Bs
/-- The bits of a stream, then the k lowest bits of v. -/
def apf (l : List Nat) (N v K : Nat) : Nat → Bool := fun i => if i < N then bt l i else v.testBit (K - 1 - (i - N))
/-- What Append returns: the bytes, the number of bits, the error. -/
def apV (l : List Nat) (n : Int) (v : Nat) (k : Int) : List Nat × Int × Int :=
  if vs l n = false then ([], 0, 1) else if vw k = false then ([], 0, 2) else if 2 ^ k.toNat ≤ v then ([], 0, 2) else if 8192 < n + k then ([], 0, 3) else
    (pz (apf l n.toNat v k.toNat) (n.toNat + k.toNat) ((n.toNat + k.toNat + 7) / 8), n + k, 0)
set_option maxRecDepth 100000 in
theorem apV_inv {l : List Nat} {n k : Int} {v : Nat} (h : vs l n = false) : apV l n v k = ([], 0, 1) := by unfold apV; rw [if_pos h]
set_option maxRecDepth 100000 in
theorem apV_width {l : List Nat} {n k : Int} {v : Nat} (h : vs l n = true) (h2 : vw k = false) : apV l n v k = ([], 0, 2) := by unfold apV; rw [if_neg (by simp [h]), if_pos h2]
set_option maxRecDepth 100000 in
theorem apV_value {l : List Nat} {n : Int} {K v : Nat} (h : vs l n = true) (h2 : vw (K : Int) = true) (h3 : 2 ^ K ≤ v) : apV l n v (K : Int) = ([], 0, 2) := by unfold apV; rw [if_neg (by simp [h]), if_neg (by simp [h2]), Int.toNat_natCast, if_pos h3]
set_option maxRecDepth 100000 in
theorem apV_limit {l : List Nat} {N K v : Nat} (h : vs l (N : Int) = true) (h2 : vw (K : Int) = true) (h3 : ¬ 2 ^ K ≤ v) (h4 : 8192 < N + K) : apV l (N : Int) v (K : Int) = ([], 0, 3) := by
  unfold apV; rw [if_neg (by simp [h]), if_neg (by simp [h2]), Int.toNat_natCast, if_neg h3, if_pos (by omega)]
set_option maxRecDepth 100000 in
theorem apV_ok {l : List Nat} {N K v : Nat} (h : vs l (N : Int) = true) (h2 : vw (K : Int) = true) (h3 : ¬ 2 ^ K ≤ v) (h4 : ¬ 8192 < N + K) : apV l (N : Int) v (K : Int) = (pz (apf l N v K) (N + K) ((N + K + 7) / 8), ((N + K : Nat) : Int), 0) := by
  unfold apV; rw [if_neg (by simp [h]), if_neg (by simp [h2]), Int.toNat_natCast, Int.toNat_natCast, if_neg h3, if_neg (by omega)]; rfl
/-- A stream and an error come back. -/
def SPost (r : List Nat × Int × Int) (w : World) (e : Ending) (w' : World) : Prop := StreamErr r.1 r.2.1 r.2.2 w e w'
set_option maxRecDepth 100000 in
theorem SPost.of {r : List Nat × Int × Int} {l : List Nat} {n x : Int} {w w' : World} {e : Ending} (h : r = (l, n, x)) (k : StreamErr l n x w e w') : SPost r w e w' := by subst h; exact k
set_option maxRecDepth 100000 in
theorem sr_nil (w : World) (q : Nat → Prop) (n : Int) : SR w q (.agg #[.slice none 0 0, .int .i64 n]) [] n := ⟨none, 0, rfl, Rd.nil_ _ _ _ _, fun _ => rfl, fun x hx => by cases hx⟩
set_option maxRecDepth 100000 in
theorem err_end {w w2 : World} {b : Nat} {x : Int} (h : w.grownBy w2 none) (hb : w.heap.size ≤ b) : StreamErr [] 0 x w (.returned (.tuple #[.agg #[.slice none 0 0, .int .i64 0], .int .i64 x])) ((w2.setCell ⟨b, 0, none⟩ (.slice none 0 0)).setCell ⟨b, 1, none⟩ (.int .i64 0)) :=
  ⟨_, rfl, sr_nil _ _ _, grown_new h (grown_store2 w2 b _ _) hb⟩
set_option maxRecDepth 100000 in
/-- copy into a block of the call's own. -/
theorem wpList_copy_into {w : World} {ops : Array Oper} {rest : List Oper} {o : Oper} {a : Act} {Q : Exit → Act → World → Prop} (hgd : o.guard = none) (d s : Operand)
    (ho : o.op = .call { callee := .builtin .copy, args := #[d, s], argTypes := #[34, 34] }) (g N c : Nat) (hd : a.eval d = .slice (some ⟨g, 0, none⟩) N c) (p : Option Addr) (k c' : Nat) (hs : a.eval s = .slice p k c')
    (L : List Nat) (hB : Blk w g L) (hL : L.length = N) (l : List Nat) (hk : k = l.length) (q : Nat → Prop) (hR : Rd w q (.slice p k c') (l.map nv)) (hle : l.length ≤ N)
    (h : ∀ w', Blk w' g (l ++ L.drop l.length) → w.grownBy w' (some g) → wpList Tryd.prog ops Q rest (a.put o.dst (goInt l.length)) w') : wpList Tryd.prog ops Q (o :: rest) a w := by
  subst hk
  have hsz : (Tryd.prog.info? 5).map (·.size) = some 1 := by
    obtain ⟨i0, hi, hz0, hz1, hz2⟩ := info_parts info_u8
    rw [hi]; simp [hz1]
  by_cases h0 : l = []
  · subst h0
    refine wpList_copy_nothing hgd d s 34 34 ho 5 Tryd.underlying34 hsz _ _ _ _ _ _ hd hs (by simp) ?_
    exact h w (by simpa using hB) (grown_refl _ _)
  · obtain ⟨p1, c1, e1, hx⟩ := id hR
    injection e1 with a1 a2 a3
    subst a1
    obtain ⟨b, off, rfl, _, _⟩ := hx (by simpa using h0)
    have hBl : w.heap[g]? = some (.cells (L.map nv).toArray 5 (0, 0)) := hB
    refine wpList_copy_own hgd d s 34 34 ho 5 Tryd.underlying34 hsz g 0 N c ⟨b, off, none⟩ l.length c' hd hs _ _ hBl (l.map nv) (by rw [List.length_map]; exact (Nat.min_eq_left hle).symm) hR.news (by simp; omega) nv_one ?_
    rw [List.length_map]
    refine h _ ?_ ⟨rfl, rfl, rfl, by simp [World.setRow], fun k _ hk => setRow_other _ _ _ _ (by intro e; exact hk (by rw [e]))⟩
    refine (setRow_heap w g _ _ _ _ hBl).trans ?_
    congr 2
    simp [List.map_drop]
set_option maxRecDepth 100000 in
theorem pz_copy {l : List Nat} {N M : Nat} {f : Nat → Bool} (hl : By l) (hv : vs l (N : Int) = true) (hM : l.length ≤ M) (hf : ∀ i, i < N → f i = bt l i) : l ++ (List.replicate M 0).drop l.length = pz f N M := by
  obtain ⟨h1, h2, h3⟩ := vs_iff.1 hv
  have e := pz_bt l N hl fun i hi hi2 => h3 i hi2 hi
  apply List.ext_getElem?
  intro j
  by_cases hj : j < M
  · rw [pz_at _ _ _ _ hj]
    by_cases hjl : j < l.length
    · rw [List.getElem?_append_left hjl]
      have e2 : l[j]? = (pz (bt l) N l.length)[j]? := congrArg (fun x : List Nat => x[j]?) e
      rw [e2, pz_at _ _ _ _ hjl]
      refine congrArg some (py_congr fun i _ _ => ?_)
      by_cases hi : i < N
      · rw [hf i hi]
      · simp [hi]
    · rw [List.getElem?_append_right (by omega), List.getElem?_drop, List.getElem?_replicate, if_pos (by omega), py_zero f (by omega)]
  · rw [List.getElem?_eq_none (by simp; omega), List.getElem?_eq_none (by rw [pz_len]; omega)]
set_option maxRecDepth 100000 in
theorem ok_end {w w6 : World} {b g M : Nat} {L : List Nat} {T : Int} (hB : Blk w6 g L) (hM : M = L.length) (hL : By L) (hg : w.heap.size ≤ g) (h : w.grownBy w6 none) (hb : w.heap.size ≤ b) (hne : b ≠ g) :
    StreamErr L T 0 w (.returned (.tuple #[.agg #[.slice (some ⟨g, 0, none⟩) M M, .int .i64 T], .int .i64 0])) ((w6.setCell ⟨b, 0, none⟩ (.slice (some ⟨g, 0, none⟩) M M)).setCell ⟨b, 1, none⟩ (.int .i64 T)) := by
  subst hM
  have gr := grown_store2 w6 b (.slice (some ⟨g, 0, none⟩) L.length L.length) (.int .i64 T)
  refine ⟨_, rfl, ⟨some ⟨g, 0, none⟩, L.length, rfl, ?_, (by intro e; cases e), hL⟩, grown_new h gr hb⟩
  exact (hB.grown gr (by intro e; exact hne (Option.some.inj e).symm)).rd _ hg _
/-- Zeros' struct has been laid into a block of its own. -/
structure Made (W : World) (g M : Nat) (T : Int) (L : List Nat) (t : Nat) (w' : World) : Prop where
  blk : Blk w' g L
  row : w'.heap[t]? = some (.cells #[.slice (some ⟨g, 0, none⟩) M M, .int .i64 T] 91 (0, 0))
  gr : W.grownBy w' none
  ne : t ≠ g
  lo : W.heap.size ≤ g
set_option maxRecDepth 100000 in
theorem made_of {W w3 : World} {g M : Nat} {T : Int} {L : List Nat} (hB : Blk w3 g L) (hg : W.heap.size ≤ g) (h : W.grownBy w3 none) :
    Made W g M T L w3.heap.size (w3.alloc (.cells #[.slice (some ⟨g, 0, none⟩) M M, .int .i64 T] 91)) := by
  have hlt := hB.lt
  exact ⟨hB.keep (World.grownBy_alloc w3 _ _), heap_alloc_new w3 _, grown_trans h (World.grownBy_alloc w3 _ _), by omega, hg⟩
set_option maxRecDepth 100000 in
theorem grown_at {W w1 w2 : World} {g : Nat} (h : W.grownBy w1 none) (k : w1.grownBy w2 (some g)) (hb : W.heap.size ≤ g) : W.grownBy w2 none := grown_new h k hb
set_option maxRecDepth 100000 in
theorem Made.next {W w1 w2 : World} {g M t : Nat} {T : Int} {L L' : List Nat} (h : Made W g M T L t w1) (k : w1.grownBy w2 (some g)) (hB : Blk w2 g L') : Made W g M T L' t w2 :=
  ⟨hB, kept_row h.row k (by intro e; exact h.ne (Option.some.inj e)), grown_at h.gr k h.lo, h.ne, h.lo⟩
set_option maxRecDepth 100000 in
theorem apf_low {l : List Nat} {N v K : Nat} : ∀ i, i < N → apf l N v K i = bt l i := fun i hi => by unfold apf; rw [if_pos hi]
set_option maxRecDepth 100000 in
theorem apf_high {l : List Nat} {N v K : Nat} : ∀ t, t < K → apf l N v K (N + t) = v.testBit (K - 1 - t) := fun t _ => by
  unfold apf; rw [if_neg (by omega), show N + t - N = t by omega]
set_option maxRecDepth 100000 in
set_option maxHeartbeats 3200000 in
theorem appendp_any (l : List Nat) (n : Int) (v : Nat) (k : Int) (q : Nat → Prop) (p : Option Addr) (c : Nat) (hl : By l) (hv64 : U64 v) (w : World) (hq : ∀ b, q b → b < w.heap.size) (hR : Rd w q (.slice p l.length c) (l.map nv)) :
    Calls Tryd.prog 69 #[.agg #[.slice p l.length c, .int .i64 n], .int .u64 (v : Int), .int .i64 k] w fun e w' => SPost (apV l n v k) w e w' := by
  obtain ⟨k1, k2, k3, k4⟩ := two_boxes w #[.slice p l.length c, .int .i64 n] #[.slice none 0 0, .int .i64 0] 91 91
  have H0 := Lib.hid (And.intro k1 (And.intro k2 (And.intro k3 k4)))
  have hR1 := hR.keep k3
  clear k1 k2 k3 k4 hR
  go_enter Tryd.func69, Tryd.ntmps69
  go_wp2_with fail
  generalize (w.alloc (.cells #[.slice p l.length c, .int .i64 n] 91)).alloc (.cells #[.slice none 0 0, .int .i64 0] 91) = w1 at *
  refine (validp_any l n q p c hl _ hR1).mono ?_
  rintro e w2 ⟨rfl, hg⟩
  have hrow := kept_row H0.out.1 hg (by simp)
  have hres := kept_row H0.out.2.1 hg (by simp)
  obtain ⟨c0, c1⟩ := row_cells hrow
  obtain ⟨r0, r1⟩ := row_cells hres
  have g0 := frozen_of_row _ _ 0 _ _ hres
  have g1 := frozen_of_row _ _ 1 _ _ hres
  have HG := Lib.hid (grown_trans H0.out.2.2.1 hg)
  have HRES := Lib.hid hres
  have HROW := Lib.hid hrow
  have HSZ : Hid (w.heap.size + 2 ≤ w2.heap.size) := Lib.hid (by rw [← H0.out.2.2.2]; exact hg.size)
  have hR2 := hR1.keep hg
  clear hrow hres hg hR1 H0
  by_cases hv : vs l n = true
  · obtain ⟨N, rfl⟩ := vs_nat hv
    obtain ⟨hN, hlen⟩ := vs_bits hv
    rw [hv]
    by_cases hw : vw k = true
    · obtain ⟨K, rfl, hK⟩ := vw_nat hw
      have hKu : (K : Int) < 65 := by omega
      by_cases h3 : 2 ^ K ≤ v
      · have V := Lib.hid (apV_value hv hw h3)
        have hne : ((v : Int) / 2 ^ K == 0) = false := by
          rw [shrW]
          have := Nat.div_pos h3 (Nat.pow_pos (by decide))
          generalize v / 2 ^ K = z at *
          simp; omega
        clear hv hlen
        go_wp2_with (go_at_call 111; refine (width_any _ _).mono ?_; rintro e w' ⟨rfl, rfl⟩; rw [hw])
        refine bodyPost_ret (res_stream_err rfl _ _ (w.heap.size + 1) _ _ rfl (store2 HRES.out)) rfl ?_
        exact SPost.of V.out (err_end HG.out (by omega))
      · have hz : (v : Int) / 2 ^ K = 0 := by
          rw [shrW, Nat.div_eq_of_lt (by omega)]; rfl
        by_cases h4 : 8192 < N + K
        · have V := Lib.hid (apV_limit hv hw h3 h4)
          have h4' : (8192 : Int) < (N : Int) + (K : Int) := by omega
          clear hv hlen
          go_wp2_with (go_at_call 111; refine (width_any _ _).mono ?_; rintro e w' ⟨rfl, rfl⟩; rw [hw])
          refine bodyPost_ret (res_stream_err rfl _ _ (w.heap.size + 1) _ _ rfl (store2 HRES.out)) rfl ?_
          exact SPost.of V.out (err_end HG.out (by omega))
        · have V := Lib.hid (apV_ok hv hw h3 h4)
          have h4' : ¬ (8192 : Int) < (N : Int) + (K : Int) := by omega
          obtain ⟨T, hT⟩ : ∃ T : Nat, N + K = T := ⟨_, rfl⟩
          have hTi : (N : Int) + (K : Int) = (T : Int) := by omega
          have hT8 : T ≤ 8192 := by omega
          have C := zeros_any T (by omega) w2
          unfold ZerosPost at C
          generalize hM : (T + 7) / 8 = M at C
          have H1 := Lib.hid C
          have HM := Lib.hid hM
          have HT := Lib.hid hT
          have HL := Lib.hid hlen
          have HV := Lib.hid hv
          clear hv hlen C hM hT
          go_wp2_with (go_at_call 111; refine (width_any _ _).mono ?_; rintro e w' ⟨rfl, rfl⟩; rw [hw])
          refine H1.out.mono ?_
          rintro e w3 ⟨g, rfl, hgg, hB3, hg3⟩
          have hrow := kept_row HROW.out hg3 (by simp)
          have hres := kept_row HRES.out hg3 (by simp)
          obtain ⟨c0, c1⟩ := row_cells hrow
          obtain ⟨r0, r1⟩ := row_cells hres
          have g0 := frozen_of_row _ _ 0 _ _ hres
          have g1 := frozen_of_row _ _ 1 _ _ hres
          have hgne : ∀ b, q b → some b ≠ some g := fun b hb e => by have := hq b hb; have := Option.some.inj e; have := HG.out.size; omega
          have M4 := Lib.hid (made_of (W := w) (M := M) (T := (T : Int)) hB3 (by have := HG.out.size; omega) (grown_trans HG.out hg3))
          have hR4 := (hR2.keep hg3).keep (World.grownBy_alloc w3 (.cells #[.slice (some ⟨g, 0, none⟩) M M, .int .i64 (T : Int)] 91) none)
          have HR4 := Lib.hid hR4
          have n1 : ¬ w.heap.size = w3.heap.size := by have := HSZ.out; have := hg3.size; omega
          have n2 : w.heap.size ≠ w3.heap.size := n1
          have n3 : w.heap.size < w3.heap.size := by have := HSZ.out; have := hg3.size; omega
          have hgw : w.heap.size + 2 ≤ g := by have := HSZ.out; omega
          have HRES3 := Lib.hid (kept_row hres (World.grownBy_alloc w3 (.cells #[.slice (some ⟨g, 0, none⟩) M M, .int .i64 (T : Int)] 91) none) (by simp))
          have HROW3 := Lib.hid (kept_row hrow (World.grownBy_alloc w3 (.cells #[.slice (some ⟨g, 0, none⟩) M M, .int .i64 (T : Int)] 91) none) (by simp))
          clear hR4 hB3 hrow hres H1 hR2
          go_wp2_with (first
            | (refine wpList_copy_into rfl _ _ rfl g M M rfl p l.length c rfl (List.replicate M 0) M4.out.blk (by simp) l rfl q HR4.out (by have := HM.out; have := HL.out; have := HT.out; omega) ?_; intro w5 hB5 hg5; rw [pz_copy (f := apf l N v K) hl HV.out (by have := HM.out; have := HL.out; have := HT.out; omega) apf_low] at hB5; have M5 := Lib.hid (M4.out.next hg5 hB5); have HR5 := Lib.hid (kept_row HRES3.out hg5 (by intro e; have := Option.some.inj e; omega)); obtain ⟨d0, d1⟩ := row_cells (kept_row HROW3.out hg5 (by intro e; have := Option.some.inj e; omega)); obtain ⟨e0, e1⟩ := row_cells M5.out.row; clear hB5 hg5)
            | (go_at_call 113; refine (write_any (apf l N v K) M g M N K v (by have := HM.out; omega) (by have := HM.out; have := HT.out; omega) hK hv64 apf_high _ M5.out.blk).mono ?_; rintro e w6 ⟨rfl, hw6⟩; have M6 := Lib.hid (M5.out.next hw6.2 hw6.1); have HR6 := Lib.hid (kept_row HR5.out hw6.2 (by intro e; have := Option.some.inj e; omega)); obtain ⟨f0, f1⟩ := row_cells M6.out.row; obtain ⟨r0, r1⟩ := row_cells HR6.out; have g0 := frozen_of_row _ _ 0 _ _ HR6.out; have g1 := frozen_of_row _ _ 1 _ _ HR6.out; clear hw6))
          refine bodyPost_ret (res_stream_err rfl _ _ (w.heap.size + 1) _ _ rfl (store2 HR6.out)) rfl ?_
          refine SPost.of V.out ?_
          rw [HT.out, HM.out]
          have M6' := M6.out
          rw [HT.out] at M6'
          exact ok_end M6'.blk (by rw [pz_len]) (pz_lt _ _ _) M6'.lo M6'.gr (by omega) (by omega)
    · have hw0 : vw k = false := by simpa using hw
      have V := Lib.hid (apV_width (v := v) hv hw0)
      clear hv hlen
      go_wp2_with (go_at_call 111; refine (width_any _ _).mono ?_; rintro e w' ⟨rfl, rfl⟩; rw [hw0])
      refine bodyPost_ret (res_stream_err rfl _ _ (w.heap.size + 1) _ _ rfl (store2 HRES.out)) rfl ?_
      exact SPost.of V.out (err_end HG.out (by omega))
  · have hv0 : vs l n = false := by simpa using hv
    have V := Lib.hid (apV_inv (v := v) (k := k) hv0)
    rw [hv0]
    go_wp2_with fail
    refine bodyPost_ret (res_stream_err rfl _ _ (w.heap.size + 1) _ _ rfl (store2 HRES.out)) rfl ?_
    exact SPost.of V.out (err_end HG.out (by omega))
end Go.Proofs.YtnfgkakhdgiepaaDoor

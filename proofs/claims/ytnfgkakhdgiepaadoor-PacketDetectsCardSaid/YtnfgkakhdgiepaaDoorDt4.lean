/- Parts of the proof, packed: IoAppendR, IoSlice, IoJoin, IoAlign, IoCheck. -/
import Derived.Test.YtnfgkakhdgiepaaDoorDt3
import Derived.WalkMore
/- The reference's Append. -/
namespace Go.Proofs.YtnfgkakhdgiepaaDoor
open Go.RowKit Bs
/-- A stream and an error come back, the bytes wherever they lie. -/
def RPost (r : List Nat × Int × Int) (w : World) (e : Ending) (w' : World) : Prop := ∃ v, e = .returned (.tuple #[v, .int .i64 r.2.2]) ∧ SR w' (fun _ => True) v r.1 r.2.1 ∧ w.grownBy w' none
set_option maxRecDepth 100000 in
theorem RPost.of {r : List Nat × Int × Int} {l : List Nat} {n x : Int} {w w' : World} {v : Value} (h : r = (l, n, x)) (k : SR w' (fun _ => True) v l n) (g : w.grownBy w' none) : RPost r w (.returned (.tuple #[v, .int .i64 x])) w' := by subst h; exact ⟨v, rfl, k, g⟩
set_option maxRecDepth 100000 in
theorem RPost.err {r : List Nat × Int × Int} {x : Int} {w w2 : World} {b : Nat} (h : r = ([], 0, x)) (hg : w.grownBy w2 none) (hb : w.heap.size ≤ b) :
    RPost r w (.returned (.tuple #[.agg #[.slice none 0 0, .int .i64 0], .int .i64 x])) ((w2.setCell ⟨b, 0, none⟩ (.slice none 0 0)).setCell ⟨b, 1, none⟩ (.int .i64 0)) :=
  RPost.of h (sr_nil _ _ _) (grown_new hg (grown_store2 w2 b _ _) hb)
/-- The box at b holds a stream whose bytes lie outside the blocks b and r; block r awaits the result. -/
structure BoxAt (W : World) (b r : Nat) (p : Option Addr) (c : Nat) (l : List Nat) (n : Int) (w' : World) : Prop where
  row : w'.heap[b]? = some (.cells #[.slice p l.length c, .int .i64 n] 91 (0, 0))
  res : w'.heap[r]? = some (.cells #[.slice none 0 0, .int .i64 0] 91 (0, 0))
  rd : Rd w' (fun x => x ≠ b ∧ x ≠ r) (.slice p l.length c) (l.map nv)
  pc : p = none → c = 0
  by_ : By l
  gr : W.grownBy w' none
section
variable {W w' w2 : World} {b r : Nat} {p : Option Addr} {c : Nat} {l : List Nat} {n : Int}
set_option maxRecDepth 100000 in
theorem BoxAt.limbs (h : BoxAt W b r p c l n w') : w'.cell? ⟨b, 0, none⟩ = some (.slice p l.length c) ∧ w'.cell? ⟨b, 1, none⟩ = some (.int .i64 n) ∧ w'.frozen? ⟨b, 0, none⟩ = false ∧ w'.frozen? ⟨b, 1, none⟩ = false ∧
    w'.cell? ⟨r, 0, none⟩ = some (.slice none 0 0) ∧ w'.cell? ⟨r, 1, none⟩ = some (.int .i64 0) ∧ w'.frozen? ⟨r, 0, none⟩ = false ∧ w'.frozen? ⟨r, 1, none⟩ = false :=
  ⟨(row_cells h.row).1, (row_cells h.row).2, frozen_of_row _ _ _ _ _ h.row, frozen_of_row _ _ _ _ _ h.row, (row_cells h.res).1, (row_cells h.res).2, frozen_of_row _ _ _ _ _ h.res, frozen_of_row _ _ _ _ _ h.res⟩
set_option maxRecDepth 100000 in
theorem BoxAt.keep (h : BoxAt W b r p c l n w') (k : w'.grownBy w2 none) : BoxAt W b r p c l n w2 := ⟨kept_row h.row k (by simp), kept_row h.res k (by simp), h.rd.keep k, h.pc, h.by_, grown_trans h.gr k⟩
set_option maxRecDepth 100000 in
theorem BoxAt.store {p' : Option Addr} {c' : Nat} {l' : List Nat} {n' : Int} {base : Nat} (h : BoxAt W b r p c l n w') (o : Own w' base p' c' l') (hb : W.heap.size ≤ b) (hbr : b ≠ r) (hb2 : b < base) (hr2 : r < base) :
    BoxAt W b r p' c' l' n' ((w'.setCell ⟨b, 0, none⟩ (.slice p' l'.length c')).setCell ⟨b, 1, none⟩ (.int .i64 n')) := by
  have g := grown_store2 w' b (.slice p' l'.length c') (.int .i64 n')
  exact ⟨store2 h.row, kept_row h.res g (by intro e; exact hbr (Option.some.inj e).symm), (o.rd.mono fun x hx => ⟨by omega, by omega⟩).grown g (by rintro x ⟨hx, _⟩ e; exact hx (Option.some.inj e)), o.pc, o.by_, grown_new h.gr g hb⟩
set_option maxRecDepth 100000 in
theorem BoxAt.fin {V : List Nat × Int × Int} (h : BoxAt W b r p c l n w') (hV : V = (l, n, 0)) (hr : W.heap.size ≤ r) :
    ((w'.setCell ⟨r, 0, none⟩ (.slice p l.length c)).setCell ⟨r, 1, none⟩ (.int .i64 n)).heap[r]? = some (.cells #[.slice p l.length c, .int .i64 n] 91 (0, 0)) ∧
      RPost V W (.returned (.tuple #[.agg #[.slice p l.length c, .int .i64 n], .int .i64 0])) ((w'.setCell ⟨r, 0, none⟩ (.slice p l.length c)).setCell ⟨r, 1, none⟩ (.int .i64 n)) := by
  have g := grown_store2 w' r (.slice p l.length c) (.int .i64 n)
  refine ⟨store2 h.res, RPost.of hV ⟨p, c, rfl, ?_, h.pc, h.by_⟩ (grown_new h.gr g hr)⟩
  exact (h.rd.grown g (by rintro x ⟨_, hx⟩ e; exact hx (Option.some.inj e))).mono fun _ _ => trivial
end
set_option maxRecDepth 100000 in
theorem and_one (v i : Nat) (hv : U64 v) : bits .and .u64 ((v : Int) / 2 ^ i) 1 = (((v.testBit i).toNat : Nat) : Int) := by
  rw [bitW v i hv, Nat.toNat_testBit]
/-- Behind j puts. -/
def PutsRel (f : Nat → Bool) (W : World) (b r N j : Nat) (w' : World) : Prop := ∃ p c, BoxAt W b r p c (pz f (N + j) ((N + j + 7) / 8)) ((N + j : Nat) : Int) w'
set_option maxRecDepth 100000 in
theorem PutsRel.open_ {f : Nat → Bool} {W w' : World} {b r N j : Nat} (h : PutsRel f W b r N j w') : ∃ p c l, Hid (l = pz f (N + j) ((N + j + 7) / 8)) ∧ BoxAt W b r p c l ((N + j : Nat) : Int) w' := by
  obtain ⟨p, c, h⟩ := h
  exact ⟨p, c, _, Lib.hid rfl, h⟩
set_option maxRecDepth 100000 in
theorem puts_next {f : Nat → Bool} {W w2 : World} {b r N j m base : Nat} {p p' : Option Addr} {c c' : Nat} {l l' : List Nat} {n : Int} (h : Hid (BoxAt W b r p c l n w2)) (hm : N + j = m) (hl : l' = pz f (m + 1) ((m + 8) / 8)) (o : Own w2 base p' c' l')
    (hb : W.heap.size ≤ b) (hbr : b ≠ r) (hb2 : b < base) (hr2 : r < base) :
    Hid (PutsRel f W b r N (j + 1) ((w2.setCell ⟨b, 0, none⟩ (.slice p' l'.length c')).setCell ⟨b, 1, none⟩ (.int .i64 ((m : Int) + 1)))) := by
  subst hm
  subst hl
  refine Lib.hid ⟨p', c', ?_⟩
  exact h.out.store o hb hbr hb2 hr2
set_option maxRecDepth 100000 in
set_option maxHeartbeats 3200000 in
theorem appendr_any (l : List Nat) (n : Int) (v : Nat) (k : Int) (q : Nat → Prop) (p : Option Addr) (c : Nat) (hl : By l) (hv64 : U64 v) (hpc : p = none → c = 0) (w : World) (hq : ∀ b, q b → b < w.heap.size) (hR : Rd w q (.slice p l.length c) (l.map nv)) :
    Calls Tryd.prog 75 #[.agg #[.slice p l.length c, .int .i64 n], .int .u64 (v : Int), .int .i64 k] w fun e w' => RPost (apV l n v k) w e w' := by
  obtain ⟨k1, k2, k3, k4⟩ := two_boxes w #[.slice p l.length c, .int .i64 n] #[.slice none 0 0, .int .i64 0] 91 91
  have hR1 := hR.keep k3
  have H0 := Lib.hid (show BoxAt w w.heap.size (w.heap.size + 1) p c l n _ from ⟨k1, k2, hR1.mono fun x hx => by have := hq x hx; exact ⟨by omega, by omega⟩, hpc, hl, k3⟩)
  have hq1 : ∀ b, q b → b < ((w.alloc (.cells #[.slice p l.length c, .int .i64 n] 91)).alloc (.cells #[.slice none 0 0, .int .i64 0] 91)).heap.size := fun b hb => Nat.lt_of_lt_of_le (hq b hb) k3.size
  have HSZ : Hid (w.heap.size + 2 ≤ ((w.alloc (.cells #[.slice p l.length c, .int .i64 n] 91)).alloc (.cells #[.slice none 0 0, .int .i64 0] 91)).heap.size) := Lib.hid (Nat.le_of_eq k4.symm)
  clear k1 k2 k3 k4 hR
  go_enter Tryd.func75, Tryd.ntmps75
  go_wp2_with fail
  generalize (w.alloc (.cells #[.slice p l.length c, .int .i64 n] 91)).alloc (.cells #[.slice none 0 0, .int .i64 0] 91) = w1 at *
  refine (validr_any l n q p c hl _ hq1 hR1).mono ?_
  rintro e w2 ⟨rfl, hg⟩
  have HB := Lib.hid (H0.out.keep hg)
  have HSZ2 : Hid (w.heap.size + 2 ≤ w2.heap.size) := Lib.hid (Nat.le_trans HSZ.out hg.size)
  obtain ⟨c0, c1, f0, f1, r0, r1, g0, g1⟩ := HB.out.limbs
  clear hg hR1 H0 hq1 HSZ
  by_cases hv : vs l n = true
  · obtain ⟨N, rfl⟩ := vs_nat hv
    obtain ⟨hN, hlen⟩ := vs_bits hv
    rw [hv]
    by_cases hw : vw k = true
    · obtain ⟨K, rfl, hK⟩ := vw_nat hw
      by_cases h3 : 2 ^ K ≤ v
      · have V := Lib.hid (apV_value hv hw h3)
        have hK64 : (K : Int) < 64 := by
          rcases Nat.lt_or_ge K 64 with h | h
          · omega
          · obtain rfl : K = 64 := by omega
            unfold U64 at hv64
            omega
        have hne : ((v : Int) / 2 ^ K == 0) = false := by
          rw [shrW]
          have := Nat.div_pos h3 (Nat.pow_pos (by decide))
          generalize v / 2 ^ K = z at *
          simp; omega
        have hne2 : ((v : Int) / 2 ^ K != 0) = true := by simp [bne, hne]
        have dk1 : decide ((K : Int) < 0) = false := by simp
        have dk2 : decide (64 < (K : Int)) = false := by simp; omega
        clear hv hlen hw
        go_wp2_with fail
        refine bodyPost_ret (res_stream_err rfl _ _ (w.heap.size + 1) _ _ rfl (store2 HB.out.res)) rfl ?_
        exact RPost.err V.out HB.out.gr (by omega)
      · have hz : (v : Int) / 2 ^ K = 0 := by
          rw [shrW, Nat.div_eq_of_lt (by omega)]; rfl
        have HL : Hid (l = pz (apf l N v K) N ((N + 7) / 8)) := by
          have e := pz_copy (M := l.length) hl hv (Nat.le_refl _) (apf_low (v := v) (K := K))
          rw [hlen] at e
          refine Lib.hid ?_
          rw [← e]; simp [hlen]
        by_cases h4 : 8192 < N + K
        · have V := Lib.hid (apV_limit hv hw h3 h4)
          have h4' : (8192 : Int) < (N : Int) + (K : Int) := by omega
          clear hv hlen hw
          rcases Nat.lt_or_ge K 64 with h | h
          · go_wp2_with fail
            refine bodyPost_ret (res_stream_err rfl _ _ (w.heap.size + 1) _ _ rfl (store2 HB.out.res)) rfl ?_
            exact RPost.err V.out HB.out.gr (by omega)
          · have hge : ¬ ((K : Int) < 64) := by omega
            go_wp2_with fail
            refine bodyPost_ret (res_stream_err rfl _ _ (w.heap.size + 1) _ _ rfl (store2 HB.out.res)) rfl ?_
            exact RPost.err V.out HB.out.gr (by omega)
        · have V := Lib.hid (apV_ok hv hw h3 h4)
          have h4' : ¬ (8192 : Int) < (N : Int) + (K : Int) := by omega
          have P0 : Hid (PutsRel (apf l N v K) w w.heap.size (w.heap.size + 1) N 0 w2) := by
            refine Lib.hid ⟨p, c, ?_⟩
            show BoxAt w w.heap.size (w.heap.size + 1) p c (pz (apf l N v K) N ((N + 7) / 8)) (N : Int) w2
            rw [← HL.out]
            exact HB.out
          have dk1 : decide ((K : Int) < 0) = false := by simp
          have dk2 : decide (64 < (K : Int)) = false := by simp; omega
          rcases Nat.lt_or_ge K 64 with h | h
          · clear hv hlen hw HL
            go_wp2_with fail
            go_loopw [8] (fun i wr => ∃ j : Nat, j ≤ K ∧ i = .int .i64 ((K : Int) - 1 - (j : Int)) ∧ PutsRel (apf l N v K) w w.heap.size (w.heap.size + 1) N j wr ∧ w.heap.size + 2 ≤ wr.heap.size) (fun i _ => (intOf i + 1).toNat)
            case atStart => exact ⟨0, Nat.zero_le _, by simp, P0.out, HSZ2.out⟩
            case round =>
              obtain ⟨j, hj, rfl, hP, hsz⟩ := hrel
              obtain ⟨p1, c1, l1, HL1, hB1⟩ := hP.open_
              have HB1 := Lib.hid hB1
              have HZ := Lib.hid hsz
              clear hP hB1 P0 hsz
              by_cases hlt : j < K
              · obtain ⟨i, hi⟩ : ∃ i : Nat, i = K - 1 - j := ⟨_, rfl⟩
                have hii : (K : Int) - 1 - (j : Int) = (i : Int) := by omega
                have hi64 : i < 64 := by omega
                obtain ⟨m, hm⟩ : ∃ m : Nat, N + j = m := ⟨_, rfl⟩
                have hbit : bits .and .u64 ((v : Int) / 2 ^ i) 1 = (((apf l N v K m).toNat : Nat) : Int) := by
                  rw [and_one v i hv64, ← hm, apf_high j hlt, hi]
                have hbl := Bool.toNat_le (apf l N v K m)
                have C : ∀ (l1 : List Nat) (p1 : Option Addr) (c1 : Nat), l1 = pz (apf l N v K) m ((m + 7) / 8) → (p1 = none → c1 = 0) → Rd wr (fun x => x ≠ w.heap.size ∧ x ≠ w.heap.size + 1) (.slice p1 l1.length c1) (l1.map nv) → Calls Tryd.prog 117 #[.agg #[.slice p1 l1.length c1, .int .i64 (m : Int)], .int .u64 (((apf l N v K m).toNat : Nat) : Int)] wr fun e w' => StreamPost (pz (apf l N v K) (m + 1) ((m + 8) / 8)) ((m + 1 : Nat) : Int) wr e w' :=
                  fun l1 p1 c1 h1 h2 h3 => put_any (apf l N v K) m l1 _ p1 c1 (by omega) h1 h2 wr h3
                rw [hm] at HL1 HB1
                have H1 := Lib.hid (C l1 p1 c1 HL1.out HB1.out.pc HB1.out.rd)
                obtain ⟨c0, c2, f0, f1, r0, r1, g0, g1⟩ := HB1.out.limbs
                have HI := Lib.hid hi
                have HM := Lib.hid hm
                have hm9 : m ≤ 8192 := by omega
                clear C hi hm
                generalize (apf l N v K m).toNat = bb at *
                rw [hii]
                have HII := Lib.hid hii
                clear hii
                go_wp2_with fail
                refine H1.out.mono ?_
                rintro e w3 ⟨p3, c3, rfl, hown3, hg3⟩
                have hm8 : m / 8 + 1 = (m + 8) / 8 := by omega
                obtain ⟨l3, hl3⟩ : ∃ l3, l3 = pz (apf l N v K) (m + 1) ((m + 8) / 8) := ⟨_, rfl⟩
                rw [← hl3] at hown3
                rw [← hl3]
                have HB3 := Lib.hid (HB1.out.keep hg3)
                have R := puts_next (f := apf l N v K) (N := N) (j := j) HB3 HM.out hl3 hown3 (by omega) (by omega) (by have := HZ.out; omega) (by have := HZ.out; omega)
                have R2 := Nat.le_trans HZ.out hg3.size
                have R3 := Lib.hid R2
                obtain ⟨c0, c2, f0, f1, r0, r1, g0, g1⟩ := HB3.out.limbs
                clear hown3 hg3 hm8 hl3 R2
                go_wp2_with fail
                go_roundw
                case rel => exact ⟨j + 1, by omega, by congr 1; have := HI.out; omega, R.out, by simpa using R3.out⟩
                case measure => have := HI.out; simp [intOf] <;> omega
              · obtain rfl : j = K := by omega
                obtain ⟨c0, c2, f0, f1, r0, r1, g0, g1⟩ := HB1.out.limbs
                have F := Lib.hid (HB1.out.fin (V := apV l (N : Int) v (j : Int)) (by rw [V.out, HL1.out]) (by omega))
                clear HB1
                go_wp2_with fail
                refine bodyPost_ret (res_stream_err rfl _ _ (w.heap.size + 1) _ _ rfl F.out.1) rfl ?_
                exact F.out.2
          · have hge : ¬ ((K : Int) < 64) := by omega
            clear hv hlen hw HL
            go_wp2_with fail
            go_loopw [8] (fun i wr => ∃ j : Nat, j ≤ K ∧ i = .int .i64 ((K : Int) - 1 - (j : Int)) ∧ PutsRel (apf l N v K) w w.heap.size (w.heap.size + 1) N j wr ∧ w.heap.size + 2 ≤ wr.heap.size) (fun i _ => (intOf i + 1).toNat)
            case atStart => exact ⟨0, Nat.zero_le _, by simp, P0.out, HSZ2.out⟩
            case round =>
              obtain ⟨j, hj, rfl, hP, hsz⟩ := hrel
              obtain ⟨p1, c1, l1, HL1, hB1⟩ := hP.open_
              have HB1 := Lib.hid hB1
              have HZ := Lib.hid hsz
              clear hP hB1 P0 hsz
              by_cases hlt : j < K
              · obtain ⟨i, hi⟩ : ∃ i : Nat, i = K - 1 - j := ⟨_, rfl⟩
                have hii : (K : Int) - 1 - (j : Int) = (i : Int) := by omega
                have hi64 : i < 64 := by omega
                obtain ⟨m, hm⟩ : ∃ m : Nat, N + j = m := ⟨_, rfl⟩
                have hbit : bits .and .u64 ((v : Int) / 2 ^ i) 1 = (((apf l N v K m).toNat : Nat) : Int) := by
                  rw [and_one v i hv64, ← hm, apf_high j hlt, hi]
                have hbl := Bool.toNat_le (apf l N v K m)
                have C : ∀ (l1 : List Nat) (p1 : Option Addr) (c1 : Nat), l1 = pz (apf l N v K) m ((m + 7) / 8) → (p1 = none → c1 = 0) → Rd wr (fun x => x ≠ w.heap.size ∧ x ≠ w.heap.size + 1) (.slice p1 l1.length c1) (l1.map nv) → Calls Tryd.prog 117 #[.agg #[.slice p1 l1.length c1, .int .i64 (m : Int)], .int .u64 (((apf l N v K m).toNat : Nat) : Int)] wr fun e w' => StreamPost (pz (apf l N v K) (m + 1) ((m + 8) / 8)) ((m + 1 : Nat) : Int) wr e w' :=
                  fun l1 p1 c1 h1 h2 h3 => put_any (apf l N v K) m l1 _ p1 c1 (by omega) h1 h2 wr h3
                rw [hm] at HL1 HB1
                have H1 := Lib.hid (C l1 p1 c1 HL1.out HB1.out.pc HB1.out.rd)
                obtain ⟨c0, c2, f0, f1, r0, r1, g0, g1⟩ := HB1.out.limbs
                have HI := Lib.hid hi
                have HM := Lib.hid hm
                have hm9 : m ≤ 8192 := by omega
                clear C hi hm
                generalize (apf l N v K m).toNat = bb at *
                rw [hii]
                have HII := Lib.hid hii
                clear hii
                go_wp2_with fail
                refine H1.out.mono ?_
                rintro e w3 ⟨p3, c3, rfl, hown3, hg3⟩
                have hm8 : m / 8 + 1 = (m + 8) / 8 := by omega
                obtain ⟨l3, hl3⟩ : ∃ l3, l3 = pz (apf l N v K) (m + 1) ((m + 8) / 8) := ⟨_, rfl⟩
                rw [← hl3] at hown3
                rw [← hl3]
                have HB3 := Lib.hid (HB1.out.keep hg3)
                have R := puts_next (f := apf l N v K) (N := N) (j := j) HB3 HM.out hl3 hown3 (by omega) (by omega) (by have := HZ.out; omega) (by have := HZ.out; omega)
                have R2 := Nat.le_trans HZ.out hg3.size
                have R3 := Lib.hid R2
                obtain ⟨c0, c2, f0, f1, r0, r1, g0, g1⟩ := HB3.out.limbs
                clear hown3 hg3 hm8 hl3 R2
                go_wp2_with fail
                go_roundw
                case rel => exact ⟨j + 1, by omega, by congr 1; have := HI.out; omega, R.out, by simpa using R3.out⟩
                case measure => have := HI.out; simp [intOf] <;> omega
              · obtain rfl : j = K := by omega
                obtain ⟨c0, c2, f0, f1, r0, r1, g0, g1⟩ := HB1.out.limbs
                have F := Lib.hid (HB1.out.fin (V := apV l (N : Int) v (j : Int)) (by rw [V.out, HL1.out]) (by omega))
                clear HB1
                go_wp2_with fail
                refine bodyPost_ret (res_stream_err rfl _ _ (w.heap.size + 1) _ _ rfl F.out.1) rfl ?_
                exact F.out.2
    · have hw0 : vw k = false := by simpa using hw
      have V := Lib.hid (apV_width (v := v) hv hw0)
      have hk : k < 0 ∨ 64 < k := by unfold vw at hw0; simp at hw0; omega
      clear hv hlen hw hw0
      rcases hk with hk | hk
      · go_wp2_with fail
        refine bodyPost_ret (res_stream_err rfl _ _ (w.heap.size + 1) _ _ rfl (store2 HB.out.res)) rfl ?_
        exact RPost.err V.out HB.out.gr (by omega)
      · have hk0 : ¬ k < 0 := by omega
        go_wp2_with fail
        refine bodyPost_ret (res_stream_err rfl _ _ (w.heap.size + 1) _ _ rfl (store2 HB.out.res)) rfl ?_
        exact RPost.err V.out HB.out.gr (by omega)
  · have hv0 : vs l n = false := by simpa using hv
    have V := Lib.hid (apV_inv (v := v) (k := k) hv0)
    rw [hv0]
    go_wp2_with fail
    refine bodyPost_ret (res_stream_err rfl _ _ (w.heap.size + 1) _ _ rfl (store2 HB.out.res)) rfl ?_
    exact RPost.err V.out HB.out.gr (by omega)
end Go.Proofs.YtnfgkakhdgiepaaDoor

/- Slice, of the program and of the reference. -/
namespace Go.Proofs.YtnfgkakhdgiepaaDoor
open Go.RowKit Bs
/-- What Slice returns. -/
def slV (l : List Nat) (n a b : Int) : List Nat × Int × Int :=
  if vs l n = false then ([], 0, 1) else if a < 0 then ([], 0, 2) else if b < a then ([], 0, 2) else if n < b then ([], 0, 2) else
    (pz (fun i => bt l (a.toNat + i)) (b.toNat - a.toNat) ((b.toNat - a.toNat + 7) / 8), ((b.toNat - a.toNat : Nat) : Int), 0)
set_option maxRecDepth 100000 in
theorem slV_inv {l : List Nat} {n a b : Int} (h : vs l n = false) : slV l n a b = ([], 0, 1) := by unfold slV; rw [if_pos h]
set_option maxRecDepth 100000 in
theorem slV_range {l : List Nat} {n a b : Int} (h : vs l n = true) (h2 : a < 0 ∨ b < a ∨ n < b) : slV l n a b = ([], 0, 2) := by
  unfold slV; rw [if_neg (by simp [h])]
  by_cases x1 : a < 0
  · rw [if_pos x1]
  · rw [if_neg x1]
    by_cases x2 : b < a
    · rw [if_pos x2]
    · rw [if_neg x2, if_pos (by omega)]
set_option maxRecDepth 100000 in
theorem slV_ok {l : List Nat} {N A T B : Nat} (h : vs l (N : Int) = true) (hB : A + T = B) (h2 : B ≤ N) : slV l (N : Int) (A : Int) (B : Int) = (pz (fun i => bt l (A + i)) T ((T + 7) / 8), (T : Int), 0) := by
  subst hB
  unfold slV
  rw [if_neg (by simp [h]), if_neg (by omega), if_neg (by omega), if_neg (by omega), Int.toNat_natCast, Int.toNat_natCast, show A + T - A = T by omega]
set_option maxRecDepth 100000 in
theorem pz_none (f : Nat → Bool) (M : Nat) : List.replicate M 0 = pz f 0 M := (pz_zero f M).symm
set_option maxRecDepth 100000 in
set_option maxHeartbeats 3200000 in
theorem slicep_any (l : List Nat) (n a b : Int) (q : Nat → Prop) (p : Option Addr) (c : Nat) (hl : By l) (ha : I64 a) (hb : I64 b) (w : World) (hq : ∀ b, q b → b < w.heap.size) (hR : Rd w q (.slice p l.length c) (l.map nv)) :
    Calls Tryd.prog 120 #[.agg #[.slice p l.length c, .int .i64 n], .int .i64 a, .int .i64 b] w fun e w' => SPost (slV l n a b) w e w' := by
  obtain ⟨k1, k2, k3, k4⟩ := two_boxes w #[.slice p l.length c, .int .i64 n] #[.slice none 0 0, .int .i64 0] 91 91
  have H0 := Lib.hid (And.intro k1 (And.intro k2 (And.intro k3 k4)))
  have hR1 := hR.keep k3
  unfold I64 at ha hb
  clear k1 k2 k3 k4 hR
  go_enter Tryd.func120, Tryd.ntmps120
  go_wp2_with fail
  generalize (w.alloc (.cells #[.slice p l.length c, .int .i64 n] 91)).alloc (.cells #[.slice none 0 0, .int .i64 0] 91) = w1 at *
  refine (validp_any l n q p c hl _ hR1).mono ?_
  rintro e w2 ⟨rfl, hg⟩
  have hrow := kept_row H0.out.1 hg (by simp)
  have hres := kept_row H0.out.2.1 hg (by simp)
  obtain ⟨c0, c1⟩ := row_cells hrow
  obtain ⟨r0, r1⟩ := row_cells hres
  have g0 := frozen_of_row _ _ 0 _ _ hres
  have g1 := frozen_of_row _ _ 1 _ _ hres
  have HG := Lib.hid (grown_trans H0.out.2.2.1 hg)
  have HRES := Lib.hid hres
  have HROW := Lib.hid hrow
  have HSZ : Hid (w.heap.size + 2 ≤ w2.heap.size) := Lib.hid (by rw [← H0.out.2.2.2]; exact hg.size)
  have hR2 := hR1.keep hg
  clear hrow hres hg hR1 H0
  by_cases hv : vs l n = true
  · obtain ⟨N, rfl⟩ := vs_nat hv
    obtain ⟨hN, hlen⟩ := vs_bits hv
    rw [hv]
    by_cases h1 : a < 0
    · have V := Lib.hid (slV_range (b := b) hv (.inl h1))
      clear hv hlen
      go_wp2_with fail
      refine bodyPost_ret (res_stream_err rfl _ _ (w.heap.size + 1) _ _ rfl (store2 HRES.out)) rfl ?_
      exact SPost.of V.out (err_end HG.out (by omega))
    · by_cases h2 : b < a
      · have V := Lib.hid (slV_range hv (.inr (.inl h2)))
        clear hv hlen
        go_wp2_with fail
        refine bodyPost_ret (res_stream_err rfl _ _ (w.heap.size + 1) _ _ rfl (store2 HRES.out)) rfl ?_
        exact SPost.of V.out (err_end HG.out (by omega))
      · by_cases h3 : (N : Int) < b
        · have V := Lib.hid (slV_range (a := a) hv (.inr (.inr h3)))
          clear hv hlen
          go_wp2_with fail
          refine bodyPost_ret (res_stream_err rfl _ _ (w.heap.size + 1) _ _ rfl (store2 HRES.out)) rfl ?_
          exact SPost.of V.out (err_end HG.out (by omega))
        · obtain ⟨A, rfl⟩ := Int.eq_ofNat_of_zero_le (show 0 ≤ a by omega)
          obtain ⟨B, rfl⟩ := Int.eq_ofNat_of_zero_le (show 0 ≤ b by omega)
          obtain ⟨T, hB⟩ : ∃ T : Nat, A + T = B := ⟨B - A, by omega⟩
          have hBN : B ≤ N := by omega
          have V := Lib.hid (slV_ok hv hB hBN)
          have hTi : (B : Int) - (A : Int) = (T : Int) := by omega
          have C := zeros_any T (by omega) w2
          unfold ZerosPost at C
          generalize hM : (T + 7) / 8 = M at C
          have H1 := Lib.hid C
          have HM := Lib.hid hM
          have HL := Lib.hid hlen
          have hT8 : T ≤ 8192 := by omega
          have hA8 : A ≤ 8192 := by omega
          have HAT : Hid (A + T ≤ N) := Lib.hid (by omega)
          have HB := Lib.hid hB
          have hB8 : B ≤ 8192 := by omega
          clear hv hlen C hM hB
          go_wp2_with fail
          refine H1.out.mono ?_
          rintro e w3 ⟨g, rfl, hgg, hB3, hg3⟩
          have hrow := kept_row HROW.out hg3 (by simp)
          have hres := kept_row HRES.out hg3 (by simp)
          obtain ⟨c0, c1⟩ := row_cells hrow
          obtain ⟨r0, r1⟩ := row_cells hres
          have g0 := frozen_of_row _ _ 0 _ _ hres
          have g1 := frozen_of_row _ _ 1 _ _ hres
          have hqg : ¬ q g := fun h => by have := hq g h; have := HG.out.size; omega
          have M4 := Lib.hid (made_of (W := w) (M := M) (T := (T : Int)) hB3 (by have := HG.out.size; omega) (grown_trans HG.out hg3))
          have hR4 := (hR2.keep hg3).keep (World.grownBy_alloc w3 (.cells #[.slice (some ⟨g, 0, none⟩) M M, .int .i64 (T : Int)] 91) none)
          have HR4 := Lib.hid hR4
          have n1 : ¬ w.heap.size = w3.heap.size := by have := HSZ.out; have := hg3.size; omega
          have n2 : w.heap.size ≠ w3.heap.size := n1
          have n3 : w.heap.size < w3.heap.size := by have := HSZ.out; have := hg3.size; omega
          have hgw : w.heap.size + 2 ≤ g := by have := HSZ.out; omega
          have HRES3 := Lib.hid (kept_row hres (World.grownBy_alloc w3 (.cells #[.slice (some ⟨g, 0, none⟩) M M, .int .i64 (T : Int)] 91) none) (by simp))
          clear hR4 hB3 hrow hres H1 hR2
          go_wp2_with (go_at_call 114; refine (move_any (fun i => bt l (A + i)) M g M 0 A T l q p c (by have := HM.out; omega) (by have := HM.out; omega) hl (by have := HL.out; omega) (by have := HL.out; have := HAT.out; omega) (fun t _ => by rw [Nat.zero_add]) _ (by rw [← pz_none]; exact M4.out.blk) HR4.out hqg).mono ?_; rintro e w6 ⟨rfl, hw6⟩; have M6 := Lib.hid (M4.out.next hw6.2 hw6.1); have HR6 := Lib.hid (kept_row HRES3.out hw6.2 (by intro e; have := Option.some.inj e; omega)); obtain ⟨f0, f1⟩ := row_cells M6.out.row; obtain ⟨r0, r1⟩ := row_cells HR6.out; have g0 := frozen_of_row _ _ 0 _ _ HR6.out; have g1 := frozen_of_row _ _ 1 _ _ HR6.out; clear hw6)
          refine bodyPost_ret (res_stream_err rfl _ _ (w.heap.size + 1) _ _ rfl (store2 HR6.out)) rfl ?_
          refine SPost.of V.out ?_
          rw [HM.out]
          have M6' := M6.out
          rw [Nat.zero_add] at M6'
          exact ok_end M6'.blk (by rw [pz_len]) (pz_lt _ _ _) M6'.lo M6'.gr (by omega) (by omega)
  · have hv0 : vs l n = false := by simpa using hv
    have V := Lib.hid (slV_inv (a := a) (b := b) hv0)
    rw [hv0]
    go_wp2_with fail
    refine bodyPost_ret (res_stream_err rfl _ _ (w.heap.size + 1) _ _ rfl (store2 HRES.out)) rfl ?_
    exact SPost.of V.out (err_end HG.out (by omega))
end Go.Proofs.YtnfgkakhdgiepaaDoor

/- Join and Align of the program. -/
namespace Go.Proofs.YtnfgkakhdgiepaaDoor
open Go.RowKit Bs
/-- The bits of a, then those of b. -/
def jnf (l : List Nat) (N : Nat) (l' : List Nat) : Nat → Bool := fun i => if i < N then bt l i else bt l' (i - N)
/-- What Join returns. -/
def jnV (l : List Nat) (n : Int) (l' : List Nat) (n' : Int) : List Nat × Int × Int :=
  if vs l n = false then ([], 0, 1) else if vs l' n' = false then ([], 0, 1) else if 8192 < n + n' then ([], 0, 3) else
    (pz (jnf l n.toNat l') (n.toNat + n'.toNat) ((n.toNat + n'.toNat + 7) / 8), ((n.toNat + n'.toNat : Nat) : Int), 0)
set_option maxRecDepth 100000 in
theorem jnV_inv {l l' : List Nat} {n n' : Int} (h : vs l n = false) : jnV l n l' n' = ([], 0, 1) := by unfold jnV; rw [if_pos h]
set_option maxRecDepth 100000 in
theorem jnV_inv2 {l l' : List Nat} {n n' : Int} (h : vs l n = true) (h2 : vs l' n' = false) : jnV l n l' n' = ([], 0, 1) := by unfold jnV; rw [if_neg (by simp [h]), if_pos h2]
set_option maxRecDepth 100000 in
theorem jnV_limit {l l' : List Nat} {N N' : Nat} (h : vs l (N : Int) = true) (h2 : vs l' (N' : Int) = true) (h3 : 8192 < N + N') : jnV l (N : Int) l' (N' : Int) = ([], 0, 3) := by
  unfold jnV; rw [if_neg (by simp [h]), if_neg (by simp [h2]), if_pos (by omega)]
set_option maxRecDepth 100000 in
theorem jnV_ok {l l' : List Nat} {N N' T : Nat} (h : vs l (N : Int) = true) (h2 : vs l' (N' : Int) = true) (hT : N + N' = T) (h3 : ¬ 8192 < T) : jnV l (N : Int) l' (N' : Int) = (pz (jnf l N l') T ((T + 7) / 8), (T : Int), 0) := by
  subst hT
  unfold jnV; rw [if_neg (by simp [h]), if_neg (by simp [h2]), if_neg (by omega), Int.toNat_natCast, Int.toNat_natCast]
set_option maxRecDepth 100000 in
theorem jnf_low {l l' : List Nat} {N : Nat} : ∀ i, i < N → jnf l N l' i = bt l i := fun i hi => by unfold jnf; rw [if_pos hi]
set_option maxRecDepth 100000 in
theorem jnf_high {l l' : List Nat} {N K : Nat} : ∀ t, t < K → jnf l N l' (N + t) = bt l' (0 + t) := fun t _ => by
  unfold jnf; rw [if_neg (by omega), show N + t - N = t by omega, Nat.zero_add]
set_option maxRecDepth 100000 in
/-- Three blocks laid one behind the other. -/
theorem three_boxes (w : World) (A B Z : Array Value) (t : TypeId) :
    (((w.alloc (.cells A t)).alloc (.cells B t)).alloc (.cells Z t)).heap[w.heap.size]? = some (.cells A t (0, 0)) ∧ (((w.alloc (.cells A t)).alloc (.cells B t)).alloc (.cells Z t)).heap[w.heap.size + 1]? = some (.cells B t (0, 0)) ∧
      (((w.alloc (.cells A t)).alloc (.cells B t)).alloc (.cells Z t)).heap[w.heap.size + 2]? = some (.cells Z t (0, 0)) ∧ w.grownBy (((w.alloc (.cells A t)).alloc (.cells B t)).alloc (.cells Z t)) none ∧ (((w.alloc (.cells A t)).alloc (.cells B t)).alloc (.cells Z t)).heap.size = w.heap.size + 3 := by
  obtain ⟨k1, k2, k3, k4⟩ := two_boxes w A B t t
  have g := World.grownBy_alloc ((w.alloc (.cells A t)).alloc (.cells B t)) (.cells Z t) none
  refine ⟨kept_row k1 g (by simp), kept_row k2 g (by simp), ?_, grown_trans k3 g, by simp⟩
  rw [← k4]; exact heap_alloc_new _ _
set_option maxRecDepth 100000 in
set_option maxHeartbeats 3200000 in
theorem joinp_any (l l' : List Nat) (n n' : Int) (q : Nat → Prop) (p p' : Option Addr) (c c' : Nat) (hl : By l) (hl' : By l') (w : World) (hq : ∀ b, q b → b < w.heap.size) (hR : Rd w q (.slice p l.length c) (l.map nv)) (hR' : Rd w q (.slice p' l'.length c') (l'.map nv)) :
    Calls Tryd.prog 70 #[.agg #[.slice p l.length c, .int .i64 n], .agg #[.slice p' l'.length c', .int .i64 n']] w fun e w' => SPost (jnV l n l' n') w e w' := by
  obtain ⟨k1, k2, k2', k3, k4⟩ := three_boxes w #[.slice p l.length c, .int .i64 n] #[.slice p' l'.length c', .int .i64 n'] #[.slice none 0 0, .int .i64 0] 91
  have H0 := Lib.hid (And.intro k1 (And.intro k2 (And.intro k2' (And.intro k3 k4))))
  have hR1 := hR.keep k3
  have hR1' := hR'.keep k3
  clear k1 k2 k2' k3 k4 hR hR'
  go_enter Tryd.func70, Tryd.ntmps70
  go_wp2_with fail
  generalize ((w.alloc (.cells #[.slice p l.length c, .int .i64 n] 91)).alloc (.cells #[.slice p' l'.length c', .int .i64 n'] 91)).alloc (.cells #[.slice none 0 0, .int .i64 0] 91) = w1 at *
  refine (validp_any l n q p c hl _ hR1).mono ?_
  rintro e wa ⟨rfl, hga⟩
  have A0 := Lib.hid (kept_row H0.out.1 hga (by simp))
  have B0 := Lib.hid (kept_row H0.out.2.1 hga (by simp))
  have C0 := Lib.hid (kept_row H0.out.2.2.1 hga (by simp))
  have GA := Lib.hid (grown_trans H0.out.2.2.2.1 hga)
  have ZA : Hid (w.heap.size + 3 ≤ wa.heap.size) := Lib.hid (by rw [← H0.out.2.2.2.2]; exact hga.size)
  have hRa := hR1.keep hga
  have hRa' := hR1'.keep hga
  clear hga hR1 hR1' H0
  by_cases hv : vs l n = true
  · obtain ⟨N, rfl⟩ := vs_nat hv
    obtain ⟨hN, hlen⟩ := vs_bits hv
    rw [hv]
    obtain ⟨c0, c1⟩ := row_cells A0.out
    obtain ⟨d0, d1⟩ := row_cells B0.out
    have HV := Lib.hid hv
    have HL := Lib.hid hlen
    clear hv hlen
    go_wp2_with fail
    refine (validp_any l' n' q p' c' hl' _ hRa').mono ?_
    rintro e w2 ⟨rfl, hg⟩
    have A2 := Lib.hid (kept_row A0.out hg (by simp))
    have B2 := Lib.hid (kept_row B0.out hg (by simp))
    have HRES := Lib.hid (kept_row C0.out hg (by simp))
    have HG := Lib.hid (grown_trans GA.out hg)
    have HSZ : Hid (w.heap.size + 3 ≤ w2.heap.size) := Lib.hid (Nat.le_trans ZA.out hg.size)
    have hR2 := hRa.keep hg
    have hR2' := hRa'.keep hg
    clear c0 c1 d0 d1 A0 B0 C0 GA ZA hRa hRa' hg
    obtain ⟨c0, c1⟩ := row_cells A2.out
    obtain ⟨d0, d1⟩ := row_cells B2.out
    obtain ⟨r0, r1⟩ := row_cells HRES.out
    have g0 := frozen_of_row _ _ 0 _ _ HRES.out
    have g1 := frozen_of_row _ _ 1 _ _ HRES.out
    by_cases hv' : vs l' n' = true
    · obtain ⟨N', rfl⟩ := vs_nat hv'
      obtain ⟨hN', hlen'⟩ := vs_bits hv'
      rw [hv']
      obtain ⟨T, hT⟩ : ∃ T : Nat, N + N' = T := ⟨_, rfl⟩
      have hTi : (N : Int) + (N' : Int) = (T : Int) := by omega
      by_cases h4 : 8192 < T
      · have V := Lib.hid (jnV_limit HV.out hv' (by omega))
        clear hv' hlen'
        go_wp2_with fail
        refine bodyPost_ret (res_stream_err rfl _ _ (w.heap.size + 2) _ _ rfl (store2 HRES.out)) rfl ?_
        exact SPost.of V.out (err_end HG.out (by omega))
      · have V := Lib.hid (jnV_ok HV.out hv' hT h4)
        have hT8 : T ≤ 8192 := by omega
        have C := zeros_any T (by omega) w2
        unfold ZerosPost at C
        generalize hM : (T + 7) / 8 = M at C
        have H1 := Lib.hid C
        have HM := Lib.hid hM
        have HT := Lib.hid hT
        have HL' := Lib.hid hlen'
        clear hv' hlen' C hM hT
        go_wp2_with fail
        refine H1.out.mono ?_
        rintro e w3 ⟨g, rfl, hgg, hB3, hg3⟩
        have hrow := kept_row A2.out hg3 (by simp)
        have hrow' := kept_row B2.out hg3 (by simp)
        have hres := kept_row HRES.out hg3 (by simp)
        clear c0 c1 d0 d1 r0 r1 g0 g1
        obtain ⟨c0, c1⟩ := row_cells hrow
        obtain ⟨d0, d1⟩ := row_cells hrow'
        have hqg : ¬ q g := fun h => by have := hq g h; have := HG.out.size; omega
        have hqg2 : ∀ b, q b → some b ≠ some g := fun b hb e => hqg (by rw [← Option.some.inj e]; exact hb)
        have HQ2 := Lib.hid hqg2
        have M4 := Lib.hid (made_of (W := w) (M := M) (T := (T : Int)) hB3 (by have := HG.out.size; omega) (grown_trans HG.out hg3))
        have HR4 := Lib.hid ((hR2.keep hg3).keep (World.grownBy_alloc w3 (.cells #[.slice (some ⟨g, 0, none⟩) M M, .int .i64 (T : Int)] 91) none))
        have HR4' := Lib.hid ((hR2'.keep hg3).keep (World.grownBy_alloc w3 (.cells #[.slice (some ⟨g, 0, none⟩) M M, .int .i64 (T : Int)] 91) none))
        have n1 : ¬ w.heap.size = w3.heap.size := by have := HSZ.out; have := hg3.size; omega
        have n2 : w.heap.size ≠ w3.heap.size := n1
        have n3 : w.heap.size < w3.heap.size := by have := HSZ.out; have := hg3.size; omega
        have hgw : w.heap.size + 3 ≤ g := by have := HSZ.out; omega
        have HRES3 := Lib.hid (kept_row hres (World.grownBy_alloc w3 (.cells #[.slice (some ⟨g, 0, none⟩) M M, .int .i64 (T : Int)] 91) none) (by simp))
        have HROW3 := Lib.hid (kept_row hrow (World.grownBy_alloc w3 (.cells #[.slice (some ⟨g, 0, none⟩) M M, .int .i64 (T : Int)] 91) none) (by simp))
        have HROW3' := Lib.hid (kept_row hrow' (World.grownBy_alloc w3 (.cells #[.slice (some ⟨g, 0, none⟩) M M, .int .i64 (T : Int)] 91) none) (by simp))
        clear hB3 hrow hrow' hres H1 hR2 hR2' hqg2
        go_wp2_with (first
          | (refine wpList_copy_into rfl _ _ rfl g M M rfl p l.length c rfl (List.replicate M 0) M4.out.blk (by simp) l rfl q HR4.out (by have := HM.out; have := HL.out; have := HT.out; omega) ?_; intro w5 hB5 hg5; rw [pz_copy (f := jnf l N l') hl HV.out (by have := HM.out; have := HL.out; have := HT.out; omega) jnf_low] at hB5; have M5 := Lib.hid (M4.out.next hg5 hB5); have HR5 := Lib.hid (kept_row HRES3.out hg5 (by intro e; have := Option.some.inj e; omega)); have RD5 := Lib.hid (HR4'.out.grown hg5 HQ2.out); obtain ⟨d0, d1⟩ := row_cells (kept_row HROW3.out hg5 (by intro e; have := Option.some.inj e; omega)); obtain ⟨x0, x1⟩ := row_cells (kept_row HROW3'.out hg5 (by intro e; have := Option.some.inj e; omega)); obtain ⟨e0, e1⟩ := row_cells M5.out.row; clear hB5 hg5)
          | (go_at_call 114; refine (move_any (jnf l N l') M g M N 0 N' l' q p' c' (by have := HM.out; omega) (by have := HM.out; have := HT.out; omega) hl' (by have := HL'.out; omega) (by have := HL'.out; omega) jnf_high _ M5.out.blk RD5.out hqg).mono ?_; rintro e w6 ⟨rfl, hw6⟩; have M6 := Lib.hid (M5.out.next hw6.2 hw6.1); have HR6 := Lib.hid (kept_row HR5.out hw6.2 (by intro e; have := Option.some.inj e; omega)); obtain ⟨f0, f1⟩ := row_cells M6.out.row; obtain ⟨r0, r1⟩ := row_cells HR6.out; have g0 := frozen_of_row _ _ 0 _ _ HR6.out; have g1 := frozen_of_row _ _ 1 _ _ HR6.out; clear hw6))
        refine bodyPost_ret (res_stream_err rfl _ _ (w.heap.size + 2) _ _ rfl (store2 HR6.out)) rfl ?_
        refine SPost.of V.out ?_
        rw [HM.out]
        have M6' := M6.out
        rw [HT.out] at M6'
        exact ok_end M6'.blk (by rw [pz_len]) (pz_lt _ _ _) M6'.lo M6'.gr (by omega) (by omega)
    · have hv0 : vs l' n' = false := by simpa using hv'
      have V := Lib.hid (jnV_inv2 HV.out hv0)
      rw [hv0]
      clear hv'
      go_wp2_with fail
      refine bodyPost_ret (res_stream_err rfl _ _ (w.heap.size + 2) _ _ rfl (store2 HRES.out)) rfl ?_
      exact SPost.of V.out (err_end HG.out (by omega))
  · have hv0 : vs l n = false := by simpa using hv
    have V := Lib.hid (jnV_inv (l' := l') (n' := n') hv0)
    rw [hv0]
    obtain ⟨r0, r1⟩ := row_cells C0.out
    have g0 := frozen_of_row _ _ 0 _ _ C0.out
    have g1 := frozen_of_row _ _ 1 _ _ C0.out
    clear hv
    go_wp2_with fail
    refine bodyPost_ret (res_stream_err rfl _ _ (w.heap.size + 2) _ _ rfl (store2 C0.out)) rfl ?_
    exact SPost.of V.out (err_end GA.out (by omega))
end Go.Proofs.YtnfgkakhdgiepaaDoor

/- Align of the program. -/
namespace Go.Proofs.YtnfgkakhdgiepaaDoor
open Go.RowKit Bs
/-- What Align returns. -/
def alV (l : List Nat) (n : Int) : List Nat × Int × Int := if vs l n = false then ([], 0, 1) else (l, ((8 * l.length : Nat) : Int), 0)
set_option maxRecDepth 100000 in
theorem alV_inv {l : List Nat} {n : Int} (h : vs l n = false) : alV l n = ([], 0, 1) := by unfold alV; rw [if_pos h]
set_option maxRecDepth 100000 in
theorem alV_ok {l : List Nat} {n : Int} (h : vs l n = true) : alV l n = (l, ((8 * l.length : Nat) : Int), 0) := by unfold alV; rw [if_neg (by simp [h])]
set_option maxRecDepth 100000 in
set_option maxHeartbeats 3200000 in
theorem alignp_any (l : List Nat) (n : Int) (q : Nat → Prop) (p : Option Addr) (c : Nat) (hl : By l) (w : World) (hR : Rd w q (.slice p l.length c) (l.map nv)) :
    Calls Tryd.prog 72 #[.agg #[.slice p l.length c, .int .i64 n]] w fun e w' => SPost (alV l n) w e w' := by
  obtain ⟨k1, k2, k3, k4⟩ := two_boxes w #[.slice p l.length c, .int .i64 n] #[.slice none 0 0, .int .i64 0] 91 91
  have H0 := Lib.hid (And.intro k1 (And.intro k2 (And.intro k3 k4)))
  have hR1 := hR.keep k3
  clear k1 k2 k3 k4 hR
  go_enter Tryd.func72, Tryd.ntmps72
  go_wp2_with fail
  generalize (w.alloc (.cells #[.slice p l.length c, .int .i64 n] 91)).alloc (.cells #[.slice none 0 0, .int .i64 0] 91) = w1 at *
  refine (validp_any l n q p c hl _ hR1).mono ?_
  rintro e w2 ⟨rfl, hg⟩
  have hrow := kept_row H0.out.1 hg (by simp)
  have hres := kept_row H0.out.2.1 hg (by simp)
  obtain ⟨c0, c1⟩ := row_cells hrow
  obtain ⟨r0, r1⟩ := row_cells hres
  have g0 := frozen_of_row _ _ 0 _ _ hres
  have g1 := frozen_of_row _ _ 1 _ _ hres
  have HG := Lib.hid (grown_trans H0.out.2.2.1 hg)
  have HRES := Lib.hid hres
  have HROW := Lib.hid hrow
  have HSZ : Hid (w.heap.size + 2 ≤ w2.heap.size) := Lib.hid (by rw [← H0.out.2.2.2]; exact hg.size)
  have hR2 := hR1.keep hg
  clear hrow hres hg hR1 H0
  by_cases hv : vs l n = true
  · have V := Lib.hid (alV_ok hv)
    obtain ⟨N, rfl⟩ := vs_nat hv
    obtain ⟨hN, hlen⟩ := vs_bits hv
    rw [hv]
    have hB := bytesFor_any N (by omega) w2
    rw [← hlen] at hB
    have H2 := Lib.hid hB
    have hl2 : l.length ≤ 1024 := by omega
    have hTi : 8 * (l.length : Int) = ((8 * l.length : Nat) : Int) := by omega
    have C := zeros_any (8 * l.length) (by omega) w2
    unfold ZerosPost at C
    rw [show (8 * l.length + 7) / 8 = l.length by omega] at C
    obtain ⟨T, hT⟩ : ∃ T : Nat, T = 8 * l.length := ⟨_, rfl⟩
    rw [← hT] at hTi C V
    have H1 := Lib.hid C
    have HT := Lib.hid hT
    have hT8 : T ≤ 8192 := by omega
    clear hv hlen C hB hT
    go_wp2_with (first | (go_at_call 115; refine H2.out.mono ?_; rintro e w' ⟨rfl, rfl⟩))
    refine H1.out.mono ?_
    rintro e w3 ⟨g, rfl, hgg, hB3, hg3⟩
    have hrow := kept_row HROW.out hg3 (by simp)
    have hres := kept_row HRES.out hg3 (by simp)
    clear c0 c1 r0 r1 g0 g1
    obtain ⟨c0, c1⟩ := row_cells hrow
    have M4 := Lib.hid (made_of (W := w) (M := l.length) (T := (T : Int)) hB3 (by have := HG.out.size; omega) (grown_trans HG.out hg3))
    have HR4 := Lib.hid ((hR2.keep hg3).keep (World.grownBy_alloc w3 (.cells #[.slice (some ⟨g, 0, none⟩) l.length l.length, .int .i64 (T : Int)] 91) none))
    have n1 : ¬ w.heap.size = w3.heap.size := by have := HSZ.out; have := hg3.size; omega
    have n2 : w.heap.size ≠ w3.heap.size := n1
    have n3 : w.heap.size < w3.heap.size := by have := HSZ.out; have := hg3.size; omega
    have hgw : w.heap.size + 2 ≤ g := by have := HSZ.out; omega
    have HRES3 := Lib.hid (kept_row hres (World.grownBy_alloc w3 (.cells #[.slice (some ⟨g, 0, none⟩) l.length l.length, .int .i64 (T : Int)] 91) none) (by simp))
    clear hB3 hrow hres H1 hR2
    go_wp2_with (refine wpList_copy_into rfl _ _ rfl g l.length l.length rfl p l.length c rfl (List.replicate l.length 0) M4.out.blk (by simp) l rfl q HR4.out (Nat.le_refl _) ?_; intro w5 hB5 hg5; rw [List.drop_of_length_le (by simp), List.append_nil] at hB5; have M5 := Lib.hid (M4.out.next hg5 hB5); have HR5 := Lib.hid (kept_row HRES3.out hg5 (by intro e; have := Option.some.inj e; omega)); obtain ⟨e0, e1⟩ := row_cells M5.out.row; obtain ⟨r0, r1⟩ := row_cells HR5.out; have g0 := frozen_of_row _ _ 0 _ _ HR5.out; have g1 := frozen_of_row _ _ 1 _ _ HR5.out; clear hB5 hg5)
    refine bodyPost_ret (res_stream_err rfl _ _ (w.heap.size + 1) _ _ rfl (store2 HR5.out)) rfl ?_
    refine SPost.of V.out ?_
    exact ok_end M5.out.blk rfl hl M5.out.lo M5.out.gr (by omega) (by omega)
  · have hv0 : vs l n = false := by simpa using hv
    have V := Lib.hid (alV_inv hv0)
    rw [hv0]
    go_wp2_with fail
    refine bodyPost_ret (res_stream_err rfl _ _ (w.heap.size + 1) _ _ rfl (store2 HRES.out)) rfl ?_
    exact SPost.of V.out (err_end HG.out (by omega))
end Go.Proofs.YtnfgkakhdgiepaaDoor

/- The program's check number. -/
namespace Go.Proofs.YtnfgkakhdgiepaaDoor
open Go.RowKit Bs
namespace Bs
/-- The register behind one bit. -/
def stp (r : Nat) (b : Bool) : Nat := if (r.testBit 15 != b) = true then (2 * r % 65536) ^^^ 4129 else 2 * r % 65536
/-- The register behind k bits. -/
def chk (f : Nat → Bool) : Nat → Nat
  | 0 => 65535
  | k + 1 => stp (chk f k) (f k)
set_option maxRecDepth 100000 in
theorem stp_lt (r : Nat) (b : Bool) : stp r b < 65536 := by
  have h : 2 * r % 65536 < 65536 := Nat.mod_lt _ (by decide)
  unfold stp
  split
  · exact Nat.xor_lt_two_pow (n := 16) h (by decide)
  · exact h
set_option maxRecDepth 100000 in
theorem chk_lt (f : Nat → Bool) : ∀ k, chk f k < 65536
  | 0 => by simp [chk]
  | k + 1 => stp_lt _ _
set_option maxRecDepth 100000 in
theorem stp_diff {r : Nat} {b : Bool} (h : (r.testBit 15 != b) = true) : stp r b = (2 * r % 65536) ^^^ 4129 := by unfold stp; rw [if_pos h]
set_option maxRecDepth 100000 in
theorem stp_same {r : Nat} {b : Bool} (h : (r.testBit 15 != b) = false) : stp r b = 2 * r % 65536 := by unfold stp; rw [if_neg (by simp [h])]
set_option maxRecDepth 100000 in
theorem bit15 {r : Nat} (h : r < 65536) : r / 32768 = (r.testBit 15).toNat := by
  rw [Nat.toNat_testBit, show (2 : Nat) ^ 15 = 32768 from rfl]; omega
end Bs
/-- What Check returns. -/
def chkV (l : List Nat) (n : Int) : Nat × Int := if vs l n = false then (0, 1) else (chk (bt l) n.toNat, 0)
set_option maxRecDepth 100000 in
theorem chkV_inv {l : List Nat} {n : Int} (h : vs l n = false) : chkV l n = (0, 1) := by unfold chkV; rw [if_pos h]
set_option maxRecDepth 100000 in
theorem chkV_ok {l : List Nat} {N : Nat} (h : vs l (N : Int) = true) : chkV l (N : Int) = (chk (bt l) N, 0) := by unfold chkV; rw [if_neg (by simp [h]), Int.toNat_natCast]
def CheckPost (l : List Nat) (n : Int) (w : World) (e : Ending) (w' : World) : Prop := e = .returned (.tuple #[.int .u64 (((chkV l n).1 : Nat) : Int), .int .i64 (chkV l n).2]) ∧ w.grownBy w' none
set_option maxRecDepth 100000 in
theorem check_end {l : List Nat} {n : Int} {x : Nat} {y : Int} {w w' : World} (h : chkV l n = (x, y)) (g : w.grownBy w' none) : CheckPost l n w (.returned (.tuple #[.int .u64 (x : Int), .int .i64 y])) w' := ⟨by rw [h], g⟩
set_option maxRecDepth 100000 in
theorem ne_bits (a b : Bool) : ((((a.toNat : Nat) : Int)) != ((b.toNat : Nat) : Int)) = (a != b) := by cases a <;> cases b <;> rfl
set_option maxRecDepth 100000 in
theorem diff_word {r x s : Nat} (hr : r < 65536) (hx : x < 256) : ((r : Int) / 32768 != bits .and .u8 ((x : Int) / 2 ^ s) 1) = (r.testBit 15 != x.testBit s) := by
  have e1 : ((r : Int) / 32768) = (((r.testBit 15).toNat : Nat) : Int) := by rw [← bit15 hr]; omega
  have h2 : x / 2 ^ s ≤ x := Nat.div_le_self _ _
  have e2 : bits .and .u8 ((x : Int) / 2 ^ s) 1 = (((x.testBit s).toNat : Nat) : Int) := by
    rw [shrW, show (1 : Int) = ((1 : Nat) : Int) from rfl, u8_and_nat _ 1 (by omega) (by omega), nat_mask1, Nat.toNat_testBit]
  rw [e1, e2, ne_bits]
set_option maxRecDepth 100000 in
theorem shift16 {r : Nat} (hr : r < 65536) : IntKind.u16.wrap ((r : Int) * 2) = ((2 * r % 65536 : Nat) : Int) := by rw [IntKind.wrap_u16]; omega
set_option maxRecDepth 100000 in
theorem xor16 {r : Nat} (hr : r < 65536) : bits .xor .u16 (IntKind.u16.wrap ((r : Int) * 2)) 4129 = (((2 * r % 65536) ^^^ 4129 : Nat) : Int) := by
  rw [shift16 hr, show (4129 : Int) = ((4129 : Nat) : Int) from rfl, u16_xor_nat _ _ (Nat.mod_lt _ (by decide)) (by decide)]
set_option maxRecDepth 100000 in
set_option maxHeartbeats 3200000 in
theorem checkp_any (l : List Nat) (n : Int) (q : Nat → Prop) (p : Option Addr) (c : Nat) (hl : By l) (w : World) (hR : Rd w q (.slice p l.length c) (l.map nv)) :
    Calls Tryd.prog 71 #[.agg #[.slice p l.length c, .int .i64 n]] w fun e w' => CheckPost l n w e w' := by
  obtain ⟨k1, k2⟩ := one_box w #[.slice p l.length c, .int .i64 n] 91
  have H0 := Lib.hid (And.intro k1 k2)
  have hR1 := hR.keep k2
  clear k1 k2 hR
  go_enter Tryd.func71, Tryd.ntmps71
  go_wp2_with fail
  generalize w.alloc (.cells #[.slice p l.length c, .int .i64 n] 91) = w1 at *
  obtain ⟨c0, c1⟩ := row_cells H0.out.1
  go_step3
  go_wp2_with fail
  refine (validp_any l n q p c hl _ hR1).mono ?_
  rintro e w2 ⟨rfl, hg⟩
  have hrow := kept_row H0.out.1 hg (by simp)
  clear c0 c1
  obtain ⟨c0, c1⟩ := row_cells hrow
  have HG := Lib.hid (grown_trans H0.out.2 hg)
  have hR2 := hR1.keep hg
  clear hrow hg hR1 H0
  by_cases hv : vs l n = true
  · obtain ⟨N, rfl⟩ := vs_nat hv
    obtain ⟨hN, hlen⟩ := vs_bits hv
    rw [hv]
    have V := Lib.hid (chkV_ok hv)
    have HLEN := Lib.hid hlen
    have hl2 : l.length ≤ 1024 := by omega
    have hr0 := chk_lt (bt l) 0
    clear hv hlen
    go_wp2_with fail
    go_step3
    go_wp2_with fail
    go_loop [4, 5, 18] (fun r x i => ∃ j y : Nat, j ≤ l.length ∧ i = .int .i64 (j : Int) ∧ x = .int .i64 (y : Int) ∧ y + 8 * j = N ∧ r = .int .u16 ((chk (bt l) (8 * j) : Nat) : Int)) (fun _ _ i => (l.length - (intOf i).toNat))
    case atStart => exact ⟨0, N, Nat.zero_le _, rfl, rfl, rfl, rfl⟩
    case round =>
      obtain ⟨j, y, hj, rfl, rfl, hy, rfl⟩ := hrel
      have HY := Lib.hid hy
      clear hy
      by_cases hlt : j < l.length
      · obtain ⟨g, off, rfl, _, hcell⟩ := hR2.at_ (nv_at hlt)
        have hx := hl.at_ hlt
        generalize hX : l.getD j 0 = x at *
        have HX := Lib.hid hX
        clear hX
        go_wp2_with fail
        go_loop [4, 5, 8] (fun r z k => ∃ t y : Nat, t ≤ 8 ∧ k = .int .i64 (7 - (t : Int)) ∧ z = .int .i64 (y : Int) ∧ y + (8 * j + t) = N ∧ r = .int .u16 ((chk (bt l) (8 * j + t) : Nat) : Int)) (fun _ _ k => (intOf k + 1).toNat)
        case atStart => exact ⟨0, y, by omega, rfl, rfl, by have := HY.out; omega, rfl⟩
        case round =>
          obtain ⟨t, y', ht, rfl, rfl, hy', rfl⟩ := hrel
          have HY2 := Lib.hid hy'
          clear hy'
          have hrlt := chk_lt (bt l) (8 * j + t)
          generalize hrr : chk (bt l) (8 * j + t) = r at *
          have HRR := Lib.hid hrr
          clear hrr
          by_cases ht8 : t < 8
          · obtain ⟨s, hs⟩ : ∃ s : Nat, s = 7 - t := ⟨_, rfl⟩
            have hsi : 7 - (t : Int) = (s : Int) := by omega
            rw [hsi]
            by_cases hy0 : y' = 0
            · subst hy0
              clear hs
              go_wp2_with fail
              go_ret2
              exact check_end (by rw [V.out, ← HRR.out]; have := HY2.out; rw [show 8 * j + t = N by omega]) HG.out
            · have hy1 : ((y' : Int) == 0) = false := by simp; omega
              have hs8 : s < 8 := by omega
              have hy9 : y' ≤ 8192 := by have := HY2.out; omega
              have D := diff_word (s := s) hrlt hx
              have hb : bt l (8 * j + t) = x.testBit s := by
                unfold bt
                rw [show (8 * j + t) / 8 = j by omega, HX.out, show 7 - (8 * j + t) % 8 = s by omega]
              have HC : Hid (chk (bt l) (8 * j + (t + 1)) = stp r (x.testBit s)) := by
                show chk (bt l) ((8 * j + t) + 1) = _
                rw [chk, HRR.out, hb]
              have HS := Lib.hid hs
              have HSI := Lib.hid hsi
              clear hs hb hsi
              by_cases hd : (r.testBit 15 != x.testBit s) = true
              · rw [hd] at D
                have S : Hid (bits .xor .u16 (IntKind.u16.wrap ((r : Int) * 2)) 4129 = ((chk (bt l) (8 * j + (t + 1)) : Nat) : Int)) := by
                  show _ = _
                  rw [HC.out, stp_diff hd, xor16 hrlt]
                go_wp2_with fail
                go_round
                case rel => exact ⟨t + 1, y' - 1, by omega, by congr 1; have := HS.out; omega, by congr 1; omega, by have := HY2.out; omega, by rw [S.out]⟩
                case measure => have := HS.out; simp [intOf] <;> omega
              · have hd0 : (r.testBit 15 != x.testBit s) = false := by simpa using hd
                rw [hd0] at D
                have S : Hid (IntKind.u16.wrap ((r : Int) * 2) = ((chk (bt l) (8 * j + (t + 1)) : Nat) : Int)) := by
                  show _ = _
                  rw [HC.out, stp_same hd0, shift16 hrlt]
                clear hd
                go_wp2_with fail
                go_round
                case rel => exact ⟨t + 1, y' - 1, by omega, by congr 1; have := HS.out; omega, by congr 1; omega, by have := HY2.out; omega, by rw [S.out]⟩
                case measure => have := HS.out; simp [intOf] <;> omega
          · obtain rfl : t = 8 := by omega
            go_wp2_with fail
            go_round
            case rel => exact ⟨j + 1, y', by omega, by go_num, rfl, by have := HY2.out; omega, by rw [← HRR.out]; rfl⟩
            case measure => simp [intOf]; omega
      · obtain rfl : j = l.length := by omega
        have hr := chk_lt (bt l) (8 * l.length)
        have HE : Hid (8 * l.length = N) := by have := HY.out; have := HLEN.out; show 8 * l.length = N; omega
        rw [HE.out] at hr ⊢
        generalize hrr : chk (bt l) N = r at *
        have HRR := Lib.hid hrr
        clear hrr
        go_wp2_with fail
        go_ret2
        exact check_end V.out HG.out
  · have hv0 : vs l n = false := by simpa using hv
    have V := Lib.hid (chkV_inv hv0)
    rw [hv0]
    go_wp2_with fail
    go_ret2
    exact check_end V.out HG.out
end Go.Proofs.YtnfgkakhdgiepaaDoor

/- The reference's Append. -/
import Derived.Test.YtnfgkakhdgiepaaDoorIoAppend
namespace Go.Proofs.YtnfgkakhdgiepaaDoor
open Go.RowKit Bs
/-- A stream and an error come back, the bytes wherever they lie. -/
def RPost (r : List Nat × Int × Int) (w : World) (e : Ending) (w' : World) : Prop := ∃ v, e = .returned (.tuple #[v, .int .i64 r.2.2]) ∧ SR w' (fun _ => True) v r.1 r.2.1 ∧ w.grownBy w' none
set_option maxRecDepth 100000 in
theorem RPost.of {r : List Nat × Int × Int} {l : List Nat} {n x : Int} {w w' : World} {v : Value} (h : r = (l, n, x)) (k : SR w' (fun _ => True) v l n) (g : w.grownBy w' none) : RPost r w (.returned (.tuple #[v, .int .i64 x])) w' := by subst h; exact ⟨v, rfl, k, g⟩
set_option maxRecDepth 100000 in
theorem RPost.err {r : List Nat × Int × Int} {x : Int} {w w2 : World} {b : Nat} (h : r = ([], 0, x)) (hg : w.grownBy w2 none) (hb : w.heap.size ≤ b) :
    RPost r w (.returned (.tuple #[.agg #[.slice none 0 0, .int .i64 0], .int .i64 x])) ((w2.setCell ⟨b, 0, none⟩ (.slice none 0 0)).setCell ⟨b, 1, none⟩ (.int .i64 0)) :=
  RPost.of h (sr_nil _ _ _) (grown_new hg (grown_store2 w2 b _ _) hb)
/-- The box at b holds a stream whose bytes lie outside the blocks b and r; block r awaits the result. -/
structure BoxAt (W : World) (b r : Nat) (p : Option Addr) (c : Nat) (l : List Nat) (n : Int) (w' : World) : Prop where
  row : w'.heap[b]? = some (.cells #[.slice p l.length c, .int .i64 n] 91 (0, 0))
  res : w'.heap[r]? = some (.cells #[.slice none 0 0, .int .i64 0] 91 (0, 0))
  rd : Rd w' (fun x => x ≠ b ∧ x ≠ r) (.slice p l.length c) (l.map nv)
  pc : p = none → c = 0
  by_ : By l
  gr : W.grownBy w' none
section
variable {W w' w2 : World} {b r : Nat} {p : Option Addr} {c : Nat} {l : List Nat} {n : Int}
set_option maxRecDepth 100000 in
theorem BoxAt.limbs (h : BoxAt W b r p c l n w') : w'.cell? ⟨b, 0, none⟩ = some (.slice p l.length c) ∧ w'.cell? ⟨b, 1, none⟩ = some (.int .i64 n) ∧ w'.frozen? ⟨b, 0, none⟩ = false ∧ w'.frozen? ⟨b, 1, none⟩ = false ∧
    w'.cell? ⟨r, 0, none⟩ = some (.slice none 0 0) ∧ w'.cell? ⟨r, 1, none⟩ = some (.int .i64 0) ∧ w'.frozen? ⟨r, 0, none⟩ = false ∧ w'.frozen? ⟨r, 1, none⟩ = false :=
  ⟨(row_cells h.row).1, (row_cells h.row).2, frozen_of_row _ _ _ _ _ h.row, frozen_of_row _ _ _ _ _ h.row, (row_cells h.res).1, (row_cells h.res).2, frozen_of_row _ _ _ _ _ h.res, frozen_of_row _ _ _ _ _ h.res⟩
set_option maxRecDepth 100000 in
theorem BoxAt.keep (h : BoxAt W b r p c l n w') (k : w'.grownBy w2 none) : BoxAt W b r p c l n w2 := ⟨kept_row h.row k (by simp), kept_row h.res k (by simp), h.rd.keep k, h.pc, h.by_, grown_trans h.gr k⟩
set_option maxRecDepth 100000 in
theorem BoxAt.store {p' : Option Addr} {c' : Nat} {l' : List Nat} {n' : Int} {base : Nat} (h : BoxAt W b r p c l n w') (o : Own w' base p' c' l') (hb : W.heap.size ≤ b) (hbr : b ≠ r) (hb2 : b < base) (hr2 : r < base) :
    BoxAt W b r p' c' l' n' ((w'.setCell ⟨b, 0, none⟩ (.slice p' l'.length c')).setCell ⟨b, 1, none⟩ (.int .i64 n')) := by
  have g := grown_store2 w' b (.slice p' l'.length c') (.int .i64 n')
  exact ⟨store2 h.row, kept_row h.res g (by intro e; exact hbr (Option.some.inj e).symm), (o.rd.mono fun x hx => ⟨by omega, by omega⟩).grown g (by rintro x ⟨hx, _⟩ e; exact hx (Option.some.inj e)), o.pc, o.by_, grown_new h.gr g hb⟩
set_option maxRecDepth 100000 in
theorem BoxAt.fin {V : List Nat × Int × Int} (h : BoxAt W b r p c l n w') (hV : V = (l, n, 0)) (hr : W.heap.size ≤ r) :
    ((w'.setCell ⟨r, 0, none⟩ (.slice p l.length c)).setCell ⟨r, 1, none⟩ (.int .i64 n)).heap[r]? = some (.cells #[.slice p l.length c, .int .i64 n] 91 (0, 0)) ∧
      RPost V W (.returned (.tuple #[.agg #[.slice p l.length c, .int .i64 n], .int .i64 0])) ((w'.setCell ⟨r, 0, none⟩ (.slice p l.length c)).setCell ⟨r, 1, none⟩ (.int .i64 n)) := by
  have g := grown_store2 w' r (.slice p l.length c) (.int .i64 n)
  refine ⟨store2 h.res, RPost.of hV ⟨p, c, rfl, ?_, h.pc, h.by_⟩ (grown_new h.gr g hr)⟩
  exact (h.rd.grown g (by rintro x ⟨_, hx⟩ e; exact hx (Option.some.inj e))).mono fun _ _ => trivial
end
set_option maxRecDepth 100000 in
theorem and_one (v i : Nat) (hv : U64 v) : bits .and .u64 ((v : Int) / 2 ^ i) 1 = (((v.testBit i).toNat : Nat) : Int) := by
  rw [bitW v i hv, Nat.toNat_testBit]
/-- Behind j puts. -/
def PutsRel (f : Nat → Bool) (W : World) (b r N j : Nat) (w' : World) : Prop := ∃ p c, BoxAt W b r p c (pz f (N + j) ((N + j + 7) / 8)) ((N + j : Nat) : Int) w'
set_option maxRecDepth 100000 in
theorem PutsRel.open_ {f : Nat → Bool} {W w' : World} {b r N j : Nat} (h : PutsRel f W b r N j w') : ∃ p c l, Hid (l = pz f (N + j) ((N + j + 7) / 8)) ∧ BoxAt W b r p c l ((N + j : Nat) : Int) w' := by
  obtain ⟨p, c, h⟩ := h
  exact ⟨p, c, _, Lib.hid rfl, h⟩
set_option maxRecDepth 100000 in
theorem puts_next {f : Nat → Bool} {W w2 : World} {b r N j m base : Nat} {p p' : Option Addr} {c c' : Nat} {l l' : List Nat} {n : Int} (h : Hid (BoxAt W b r p c l n w2)) (hm : N + j = m) (hl : l' = pz f (m + 1) ((m + 8) / 8)) (o : Own w2 base p' c' l')
    (hb : W.heap.size ≤ b) (hbr : b ≠ r) (hb2 : b < base) (hr2 : r < base) :
    Hid (PutsRel f W b r N (j + 1) ((w2.setCell ⟨b, 0, none⟩ (.slice p' l'.length c')).setCell ⟨b, 1, none⟩ (.int .i64 ((m : Int) + 1)))) := by
  subst hm
  subst hl
  refine Lib.hid ⟨p', c', ?_⟩
  exact h.out.store o hb hbr hb2 hr2
set_option maxRecDepth 100000 in
set_option maxHeartbeats 3200000 in
theorem appendr_any (l : List Nat) (n : Int) (v : Nat) (k : Int) (q : Nat → Prop) (p : Option Addr) (c : Nat) (hl : By l) (hv64 : U64 v) (hpc : p = none → c = 0) (w : World) (hq : ∀ b, q b → b < w.heap.size) (hR : Rd w q (.slice p l.length c) (l.map nv)) :
    Calls Tryd.prog 75 #[.agg #[.slice p l.length c, .int .i64 n], .int .u64 (v : Int), .int .i64 k] w fun e w' => RPost (apV l n v k) w e w' := by
  obtain ⟨k1, k2, k3, k4⟩ := two_boxes w #[.slice p l.length c, .int .i64 n] #[.slice none 0 0, .int .i64 0] 91 91
  have hR1 := hR.keep k3
  have H0 := Lib.hid (show BoxAt w w.heap.size (w.heap.size + 1) p c l n _ from ⟨k1, k2, hR1.mono fun x hx => by have := hq x hx; exact ⟨by omega, by omega⟩, hpc, hl, k3⟩)
  have hq1 : ∀ b, q b → b < ((w.alloc (.cells #[.slice p l.length c, .int .i64 n] 91)).alloc (.cells #[.slice none 0 0, .int .i64 0] 91)).heap.size := fun b hb => Nat.lt_of_lt_of_le (hq b hb) k3.size
  have HSZ : Hid (w.heap.size + 2 ≤ ((w.alloc (.cells #[.slice p l.length c, .int .i64 n] 91)).alloc (.cells #[.slice none 0 0, .int .i64 0] 91)).heap.size) := Lib.hid (Nat.le_of_eq k4.symm)
  clear k1 k2 k3 k4 hR
  go_enter Tryd.func75, Tryd.ntmps75
  go_wp2_with fail
  generalize (w.alloc (.cells #[.slice p l.length c, .int .i64 n] 91)).alloc (.cells #[.slice none 0 0, .int .i64 0] 91) = w1 at *
  refine (validr_any l n q p c hl _ hq1 hR1).mono ?_
  rintro e w2 ⟨rfl, hg⟩
  have HB := Lib.hid (H0.out.keep hg)
  have HSZ2 : Hid (w.heap.size + 2 ≤ w2.heap.size) := Lib.hid (Nat.le_trans HSZ.out hg.size)
  obtain ⟨c0, c1, f0, f1, r0, r1, g0, g1⟩ := HB.out.limbs
  clear hg hR1 H0 hq1 HSZ
  by_cases hv : vs l n = true
  · obtain ⟨N, rfl⟩ := vs_nat hv
    obtain ⟨hN, hlen⟩ := vs_bits hv
    rw [hv]
    by_cases hw : vw k = true
    · obtain ⟨K, rfl, hK⟩ := vw_nat hw
      by_cases h3 : 2 ^ K ≤ v
      · have V := Lib.hid (apV_value hv hw h3)
        have hK64 : (K : Int) < 64 := by
          rcases Nat.lt_or_ge K 64 with h | h
          · omega
          · obtain rfl : K = 64 := by omega
            unfold U64 at hv64
            omega
        have hne : ((v : Int) / 2 ^ K == 0) = false := by
          rw [shrW]
          have := Nat.div_pos h3 (Nat.pow_pos (by decide))
          generalize v / 2 ^ K = z at *
          simp; omega
        have hne2 : ((v : Int) / 2 ^ K != 0) = true := by simp [bne, hne]
        have dk1 : decide ((K : Int) < 0) = false := by simp
        have dk2 : decide (64 < (K : Int)) = false := by simp; omega
        clear hv hlen hw
        go_wp2_with fail
        refine bodyPost_ret (res_stream_err rfl _ _ (w.heap.size + 1) _ _ rfl (store2 HB.out.res)) rfl ?_
        exact RPost.err V.out HB.out.gr (by omega)
      · have hz : (v : Int) / 2 ^ K = 0 := by
          rw [shrW, Nat.div_eq_of_lt (by omega)]; rfl
        have HL : Hid (l = pz (apf l N v K) N ((N + 7) / 8)) := by
          have e := pz_copy (M := l.length) hl hv (Nat.le_refl _) (apf_low (v := v) (K := K))
          rw [hlen] at e
          refine Lib.hid ?_
          rw [← e]; simp [hlen]
        by_cases h4 : 8192 < N + K
        · have V := Lib.hid (apV_limit hv hw h3 h4)
          have h4' : (8192 : Int) < (N : Int) + (K : Int) := by omega
          clear hv hlen hw
          rcases Nat.lt_or_ge K 64 with h | h
          · go_wp2_with fail
            refine bodyPost_ret (res_stream_err rfl _ _ (w.heap.size + 1) _ _ rfl (store2 HB.out.res)) rfl ?_
            exact RPost.err V.out HB.out.gr (by omega)
          · have hge : ¬ ((K : Int) < 64) := by omega
            go_wp2_with fail
            refine bodyPost_ret (res_stream_err rfl _ _ (w.heap.size + 1) _ _ rfl (store2 HB.out.res)) rfl ?_
            exact RPost.err V.out HB.out.gr (by omega)
        · have V := Lib.hid (apV_ok hv hw h3 h4)
          have h4' : ¬ (8192 : Int) < (N : Int) + (K : Int) := by omega
          have P0 : Hid (PutsRel (apf l N v K) w w.heap.size (w.heap.size + 1) N 0 w2) := by
            refine Lib.hid ⟨p, c, ?_⟩
            show BoxAt w w.heap.size (w.heap.size + 1) p c (pz (apf l N v K) N ((N + 7) / 8)) (N : Int) w2
            rw [← HL.out]
            exact HB.out
          have dk1 : decide ((K : Int) < 0) = false := by simp
          have dk2 : decide (64 < (K : Int)) = false := by simp; omega
          rcases Nat.lt_or_ge K 64 with h | h
          · clear hv hlen hw HL
            go_wp2_with fail
            go_loopw [8] (fun i wr => ∃ j : Nat, j ≤ K ∧ i = .int .i64 ((K : Int) - 1 - (j : Int)) ∧ PutsRel (apf l N v K) w w.heap.size (w.heap.size + 1) N j wr ∧ w.heap.size + 2 ≤ wr.heap.size) (fun i _ => (intOf i + 1).toNat)
            case atStart => exact ⟨0, Nat.zero_le _, by simp, P0.out, HSZ2.out⟩
            case round =>
              obtain ⟨j, hj, rfl, hP, hsz⟩ := hrel
              obtain ⟨p1, c1, l1, HL1, hB1⟩ := hP.open_
              have HB1 := Lib.hid hB1
              have HZ := Lib.hid hsz
              clear hP hB1 P0 hsz
              by_cases hlt : j < K
              · obtain ⟨i, hi⟩ : ∃ i : Nat, i = K - 1 - j := ⟨_, rfl⟩
                have hii : (K : Int) - 1 - (j : Int) = (i : Int) := by omega
                have hi64 : i < 64 := by omega
                obtain ⟨m, hm⟩ : ∃ m : Nat, N + j = m := ⟨_, rfl⟩
                have hbit : bits .and .u64 ((v : Int) / 2 ^ i) 1 = (((apf l N v K m).toNat : Nat) : Int) := by
                  rw [and_one v i hv64, ← hm, apf_high j hlt, hi]
                have hbl := Bool.toNat_le (apf l N v K m)
                have C : ∀ (l1 : List Nat) (p1 : Option Addr) (c1 : Nat), l1 = pz (apf l N v K) m ((m + 7) / 8) → (p1 = none → c1 = 0) → Rd wr (fun x => x ≠ w.heap.size ∧ x ≠ w.heap.size + 1) (.slice p1 l1.length c1) (l1.map nv) → Calls Tryd.prog 117 #[.agg #[.slice p1 l1.length c1, .int .i64 (m : Int)], .int .u64 (((apf l N v K m).toNat : Nat) : Int)] wr fun e w' => StreamPost (pz (apf l N v K) (m + 1) ((m + 8) / 8)) ((m + 1 : Nat) : Int) wr e w' :=
                  fun l1 p1 c1 h1 h2 h3 => put_any (apf l N v K) m l1 _ p1 c1 (by omega) h1 h2 wr h3
                rw [hm] at HL1 HB1
                have H1 := Lib.hid (C l1 p1 c1 HL1.out HB1.out.pc HB1.out.rd)
                obtain ⟨c0, c2, f0, f1, r0, r1, g0, g1⟩ := HB1.out.limbs
                have HI := Lib.hid hi
                have HM := Lib.hid hm
                have hm9 : m ≤ 8192 := by omega
                clear C hi hm
                generalize (apf l N v K m).toNat = bb at *
                rw [hii]
                have HII := Lib.hid hii
                clear hii
                go_wp2_with fail
                refine H1.out.mono ?_
                rintro e w3 ⟨p3, c3, rfl, hown3, hg3⟩
                have hm8 : m / 8 + 1 = (m + 8) / 8 := by omega
                obtain ⟨l3, hl3⟩ : ∃ l3, l3 = pz (apf l N v K) (m + 1) ((m + 8) / 8) := ⟨_, rfl⟩
                rw [← hl3] at hown3
                rw [← hl3]
                have HB3 := Lib.hid (HB1.out.keep hg3)
                have R := puts_next (f := apf l N v K) (N := N) (j := j) HB3 HM.out hl3 hown3 (by omega) (by omega) (by have := HZ.out; omega) (by have := HZ.out; omega)
                have R2 := Nat.le_trans HZ.out hg3.size
                have R3 := Lib.hid R2
                obtain ⟨c0, c2, f0, f1, r0, r1, g0, g1⟩ := HB3.out.limbs
                clear hown3 hg3 hm8 hl3 R2
                go_wp2_with fail
                go_roundw
                case rel => exact ⟨j + 1, by omega, by congr 1; have := HI.out; omega, R.out, by simpa using R3.out⟩
                case measure => have := HI.out; simp [intOf] <;> omega
              · obtain rfl : j = K := by omega
                obtain ⟨c0, c2, f0, f1, r0, r1, g0, g1⟩ := HB1.out.limbs
                have F := Lib.hid (HB1.out.fin (V := apV l (N : Int) v (j : Int)) (by rw [V.out, HL1.out]) (by omega))
                clear HB1
                go_wp2_with fail
                refine bodyPost_ret (res_stream_err rfl _ _ (w.heap.size + 1) _ _ rfl F.out.1) rfl ?_
                exact F.out.2
          · have hge : ¬ ((K : Int) < 64) := by omega
            clear hv hlen hw HL
            go_wp2_with fail
            go_loopw [8] (fun i wr => ∃ j : Nat, j ≤ K ∧ i = .int .i64 ((K : Int) - 1 - (j : Int)) ∧ PutsRel (apf l N v K) w w.heap.size (w.heap.size + 1) N j wr ∧ w.heap.size + 2 ≤ wr.heap.size) (fun i _ => (intOf i + 1).toNat)
            case atStart => exact ⟨0, Nat.zero_le _, by simp, P0.out, HSZ2.out⟩
            case round =>
              obtain ⟨j, hj, rfl, hP, hsz⟩ := hrel
              obtain ⟨p1, c1, l1, HL1, hB1⟩ := hP.open_
              have HB1 := Lib.hid hB1
              have HZ := Lib.hid hsz
              clear hP hB1 P0 hsz
              by_cases hlt : j < K
              · obtain ⟨i, hi⟩ : ∃ i : Nat, i = K - 1 - j := ⟨_, rfl⟩
                have hii : (K : Int) - 1 - (j : Int) = (i : Int) := by omega
                have hi64 : i < 64 := by omega
                obtain ⟨m, hm⟩ : ∃ m : Nat, N + j = m := ⟨_, rfl⟩
                have hbit : bits .and .u64 ((v : Int) / 2 ^ i) 1 = (((apf l N v K m).toNat : Nat) : Int) := by
                  rw [and_one v i hv64, ← hm, apf_high j hlt, hi]
                have hbl := Bool.toNat_le (apf l N v K m)
                have C : ∀ (l1 : List Nat) (p1 : Option Addr) (c1 : Nat), l1 = pz (apf l N v K) m ((m + 7) / 8) → (p1 = none → c1 = 0) → Rd wr (fun x => x ≠ w.heap.size ∧ x ≠ w.heap.size + 1) (.slice p1 l1.length c1) (l1.map nv) → Calls Tryd.prog 117 #[.agg #[.slice p1 l1.length c1, .int .i64 (m : Int)], .int .u64 (((apf l N v K m).toNat : Nat) : Int)] wr fun e w' => StreamPost (pz (apf l N v K) (m + 1) ((m + 8) / 8)) ((m + 1 : Nat) : Int) wr e w' :=
                  fun l1 p1 c1 h1 h2 h3 => put_any (apf l N v K) m l1 _ p1 c1 (by omega) h1 h2 wr h3
                rw [hm] at HL1 HB1
                have H1 := Lib.hid (C l1 p1 c1 HL1.out HB1.out.pc HB1.out.rd)
                obtain ⟨c0, c2, f0, f1, r0, r1, g0, g1⟩ := HB1.out.limbs
                have HI := Lib.hid hi
                have HM := Lib.hid hm
                have hm9 : m ≤ 8192 := by omega
                clear C hi hm
                generalize (apf l N v K m).toNat = bb at *
                rw [hii]
                have HII := Lib.hid hii
                clear hii
                go_wp2_with fail
                refine H1.out.mono ?_
                rintro e w3 ⟨p3, c3, rfl, hown3, hg3⟩
                have hm8 : m / 8 + 1 = (m + 8) / 8 := by omega
                obtain ⟨l3, hl3⟩ : ∃ l3, l3 = pz (apf l N v K) (m + 1) ((m + 8) / 8) := ⟨_, rfl⟩
                rw [← hl3] at hown3
                rw [← hl3]
                have HB3 := Lib.hid (HB1.out.keep hg3)
                have R := puts_next (f := apf l N v K) (N := N) (j := j) HB3 HM.out hl3 hown3 (by omega) (by omega) (by have := HZ.out; omega) (by have := HZ.out; omega)
                have R2 := Nat.le_trans HZ.out hg3.size
                have R3 := Lib.hid R2
                obtain ⟨c0, c2, f0, f1, r0, r1, g0, g1⟩ := HB3.out.limbs
                clear hown3 hg3 hm8 hl3 R2
                go_wp2_with fail
                go_roundw
                case rel => exact ⟨j + 1, by omega, by congr 1; have := HI.out; omega, R.out, by simpa using R3.out⟩
                case measure => have := HI.out; simp [intOf] <;> omega
              · obtain rfl : j = K := by omega
                obtain ⟨c0, c2, f0, f1, r0, r1, g0, g1⟩ := HB1.out.limbs
                have F := Lib.hid (HB1.out.fin (V := apV l (N : Int) v (j : Int)) (by rw [V.out, HL1.out]) (by omega))
                clear HB1
                go_wp2_with fail
                refine bodyPost_ret (res_stream_err rfl _ _ (w.heap.size + 1) _ _ rfl F.out.1) rfl ?_
                exact F.out.2
    · have hw0 : vw k = false := by simpa using hw
      have V := Lib.hid (apV_width (v := v) hv hw0)
      have hk : k < 0 ∨ 64 < k := by unfold vw at hw0; simp at hw0; omega
      clear hv hlen hw hw0
      rcases hk with hk | hk
      · go_wp2_with fail
        refine bodyPost_ret (res_stream_err rfl _ _ (w.heap.size + 1) _ _ rfl (store2 HB.out.res)) rfl ?_
        exact RPost.err V.out HB.out.gr (by omega)
      · have hk0 : ¬ k < 0 := by omega
        go_wp2_with fail
        refine bodyPost_ret (res_stream_err rfl _ _ (w.heap.size + 1) _ _ rfl (store2 HB.out.res)) rfl ?_
        exact RPost.err V.out HB.out.gr (by omega)
  · have hv0 : vs l n = false := by simpa using hv
    have V := Lib.hid (apV_inv (v := v) (k := k) hv0)
    rw [hv0]
    go_wp2_with fail
    refine bodyPost_ret (res_stream_err rfl _ _ (w.heap.size + 1) _ _ rfl (store2 HB.out.res)) rfl ?_
    exact RPost.err V.out HB.out.gr (by omega)
end Go.Proofs.YtnfgkakhdgiepaaDoor

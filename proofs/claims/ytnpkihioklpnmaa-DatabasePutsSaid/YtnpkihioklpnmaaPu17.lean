/- Parts of the proof, packed: AdREn. -/
import Derived.Test.YtnpkihioklpnmaaPu16
import Derived.Test.YtnpkihioklpnmaaPu5
import Derived.Test.YtnpkihioklpnmaaPu4
import Derived.Deep.CutBlock
import Derived.Deep.CutRange
/- The reference's Encode of adverts. -/
namespace Go.Proofs.Ytnpkihioklpnmaa
open Go.RowKit Bs
/-- A stream of these bits is returned. -/
def SPR (B : List Bool) (w : World) (e : Ending) (w' : World) : Prop := ∃ p c, e = .returned (.agg #[.slice p (pk B).length c, .int .i64 (B.length : Int)]) ∧ Rd w' (fun _ => True) (.slice p (pk B).length c) ((pk B).map nv) ∧ (p = none → c = 0) ∧ w.grownBy w' none
set_option maxRecDepth 100000 in
set_option maxHeartbeats 3200000 in
theorem rput_any (B : List Bool) (n : Int) (k : Nat) (p : Option Addr) (c : Nat) (q : Nat → Prop) (w : World) (h0 : 0 ≤ n) (hn : n.toNat < 2 ^ k) (hk : k ≤ 20) (hl : B.length + k ≤ 8192) (hpc : p = none → c = 0) (hR : Rd w q (.slice p (pk B).length c) ((pk B).map nv)) :
    Calls Try.prog 91 #[.agg #[.slice p (pk B).length c, .int .i64 (B.length : Int)], .int .i64 n, .int .i64 (k : Int)] w fun e w' => SPR (B ++ nb n.toNat k) w e w' := by
  obtain ⟨m, rfl⟩ := Int.eq_ofNat_of_zero_le h0
  rw [Int.toNat_natCast] at hn ⊢
  obtain ⟨k1, k2, k3, k4⟩ := two_boxes w #[.slice p (pk B).length c, .int .i64 (B.length : Int)] #[.slice none 0 0, .int .i64 0] 123 123
  have HX : Hid (IntKind.u64.wrap (m : Int) = (m : Int)) := Lib.hid (by have : m < 2 ^ 20 := Nat.lt_of_lt_of_le hn (Nat.pow_le_pow_right (by decide) hk); rw [IntKind.wrap_u64]; omega)
  have hm20 : m < 1048576 := Nat.lt_of_lt_of_le hn (Nat.pow_le_pow_right (n := 2) (by decide) hk)
  have HA := Lib.hid (append_bitsr (B := B) (v := m) (k := k) (Nat.le_trans hk (by decide)) hn hl hpc (hR.keep k3))
  have H0 := Lib.hid (And.intro k1 (And.intro k2 (And.intro k3 k4)))
  clear k1 k2 k3 k4 hR hpc hn h0
  obtain ⟨B2, hB2⟩ : ∃ B2, B ++ nb m k = B2 := ⟨_, rfl⟩
  rw [hB2] at HA ⊢
  clear hB2
  go_enter Try.func91, Try.ntmps91
  go_upto_region 1 with fail
  generalize ((w.alloc _).alloc _) = wa at *
  obtain ⟨c0, c1⟩ := row_cells H0.out.1
  go_wp2_with fail
  refine HA.out.mono ?_
  rintro e w1 ⟨p2, c2, rfl, hR2, hp2, hg⟩
  have hk1 := World.grownBy_alloc w1 (.cells #[.slice p2 (pk B2).length c2, .int .i64 (B2.length : Int)] 123) none
  have H1 := Lib.hid (And.intro (kept_row H0.out.2.1 (grown_trans hg hk1) (by simp)) (And.intro (heap_alloc_new w1 (.cells #[.slice p2 (pk B2).length c2, .int .i64 (B2.length : Int)] 123)) (And.intro (hR2.keep hk1) (And.intro hp2 (grown_trans H0.out.2.2.1 (grown_trans hg hk1))))))
  clear hR2 hp2 hg hk1 H0 HA c0 c1
  go_upto_region 2 with fail
  generalize w1.alloc _ = w2 at *
  generalize w1.heap.size = T at *
  obtain ⟨c0, c1⟩ := row_cells H1.out.2.1
  obtain ⟨r0, r1⟩ := row_cells H1.out.1
  have f0 := frozen_of_row _ _ 0 _ _ H1.out.1
  have f1 := frozen_of_row _ _ 1 _ _ H1.out.1
  obtain ⟨t1, t2⟩ := store2c (.slice p2 (pk B2).length c2) (.int .i64 (B2.length : Int)) H1.out.1
  have HT := Lib.hid (And.intro t1 (And.intro ((rd_off H1.out.2.2.1 H1.out.1).grown t2 (fun b hb e => hb.1 (Option.some.inj e))) (grown_new H1.out.2.2.2.2 t2 (by omega))))
  have HP := Lib.hid H1.out.2.2.2.1
  clear t1 t2 H1
  go_wp2_with fail
  refine bodyPost_ret (res_strm rfl _ _ (w.heap.size + 1) _ _ rfl HT.out.1) rfl ?_
  exact ⟨p2, c2, rfl, HT.out.2.1.mono (fun _ _ => trivial), HP.out, HT.out.2.2⟩
set_option maxRecDepth 100000 in
theorem rput0 (n : Int) (k : Nat) (w : World) (h0 : 0 ≤ n) (hn : n.toNat < 2 ^ k) (hk : k ≤ 20) :
    Calls Try.prog 91 #[.agg #[.slice none 0 0, .int .i64 0], .int .i64 n, .int .i64 (k : Int)] w fun e w' => SPR (nb n.toNat k) w e w' :=
  rput_any [] n k none 0 (fun _ => True) w h0 hn hk (by simp; omega) (fun _ => rfl) (Rd.nil_ _ _ _ _)
/-- While an advert is encoded: its box. -/
structure RP (W : World) (G : Nat) (A : Ad) (w : World) : Prop where
  gb : w.heap[G]? = some (.cells (adC A) 38 (0, 0))
  ok : AdOk w (· < W.heap.size) A
  gr : W.grownBy w none
  lo : W.heap.size ≤ G
set_option maxRecDepth 100000 in
theorem RP.keep {W w w1 : World} {G : Nat} {A : Ad} (h : RP W G A w) (g : w.grownBy w1 none) : RP W G A w1 := ⟨kept_row h.gb g (by simp), h.ok.keep g, grown_trans h.gr g, h.lo⟩
/-- A box for a stream has come. -/
structure NS (G S : Nat) (w : World) : Prop where
  sb : w.heap[S]? = some (.cells #[.slice none 0 0, .int .i64 0] 123 (0, 0))
  lt : G < S
set_option maxRecDepth 100000 in
theorem NS.keep {w w1 : World} {G S : Nat} (h : NS G S w) (g : w.grownBy w1 none) : NS G S w1 := ⟨kept_row h.sb g (by simp), h.lt⟩
set_option maxRecDepth 100000 in
theorem RP.ns {W w : World} {G : Nat} {A : Ad} (h : RP W G A w) : ∀ p, p = w.heap.size → NS G p (w.alloc (.cells #[.slice none 0 0, .int .i64 0] 123)) := by
  rintro p rfl
  exact ⟨heap_alloc_new w _, World.lt_of_row' h.gb⟩
/-- These bits lie somewhere. -/
structure BR (B : List Bool) (p : Option Addr) (c : Nat) (w : World) : Prop where
  rd : Rd w (fun _ => True) (.slice p (pk B).length c) ((pk B).map nv)
  pc : p = none → c = 0
set_option maxRecDepth 100000 in
theorem BR.keep {B : List Bool} {p : Option Addr} {c : Nat} {w w1 : World} (h : BR B p c w) (g : w.grownBy w1 none) : BR B p c w1 := ⟨(h.rd.bound.keep g).mono (fun _ _ => trivial), h.pc⟩
/-- While an advert is encoded: its box, the stream's box. -/
structure RE (W : World) (G S : Nat) (A : Ad) (B : List Bool) (p : Option Addr) (c : Nat) (w : World) : Prop where
  r : RP W G A w
  sb : w.heap[S]? = some (.cells #[.slice p (pk B).length c, .int .i64 (B.length : Int)] 123 (0, 0))
  br : BR B p c w
  lt : G < S
set_option maxRecDepth 100000 in
theorem RE.keep {W w w1 : World} {G S : Nat} {A : Ad} {B : List Bool} {p : Option Addr} {c : Nat} (h : RE W G S A B p c w) (g : w.grownBy w1 none) : RE W G S A B p c w1 := ⟨h.r.keep g, kept_row h.sb g (by simp), h.br.keep g, h.lt⟩
set_option maxRecDepth 100000 in
theorem re_put {W w : World} {G S : Nat} {A : Ad} {B : List Bool} {p : Option Addr} {c : Nat} {p0 : Option Addr} {n0 c0 : Nat} {k0 : Int} (h : RP W G A w) (hs : w.heap[S]? = some (.cells #[.slice p0 n0 c0, .int .i64 k0] 123 (0, 0))) (hb : BR B p c w) (hl : G < S) :
    RE W G S A B p c ((w.setCell ⟨S, 0, none⟩ (.slice p (pk B).length c)).setCell ⟨S, 1, none⟩ (.int .i64 (B.length : Int))) := by
  obtain ⟨t1, t2⟩ := store2c (.slice p (pk B).length c) (.int .i64 (B.length : Int)) hs
  have hlo := h.lo
  exact ⟨⟨kept_row h.gb t2 (fun e => by have := Option.some.inj e; omega), h.ok.grown t2 (fun b hb e => by have := Option.some.inj e; omega), grown_new h.gr t2 (by omega), h.lo⟩, t1, ⟨((rd_off hb.rd hs).grown t2 (fun b hb e => hb.1 (Option.some.inj e))).mono (fun _ _ => trivial), hb.pc⟩, hl⟩
set_option maxRecDepth 100000 in
theorem put_next {B B2 : List Bool} (n : Int) (k : Nat) (h : B2 = B ++ nb n.toNat k) (h0 : 0 ≤ n) (hn : n.toNat < 2 ^ k) (hk : k ≤ 20) (hl : B.length + k ≤ 8192) :
    Hid (∀ wz p c, BR B p c wz → Calls Try.prog 91 #[.agg #[.slice p (pk B).length c, .int .i64 (B.length : Int)], .int .i64 n, .int .i64 (k : Int)] wz fun e w' => SPR B2 wz e w') :=
  Lib.hid (fun wz p c hb => by rw [h]; exact rput_any B n k p c _ wz h0 hn hk hl hb.pc hb.rd)
set_option maxRecDepth 100000 in
theorem re_new {W w : World} {G : Nat} {A : Ad} {B : List Bool} {p : Option Addr} {c : Nat} (h : RP W G A w) (hb : BR B p c w) :
    RE W G w.heap.size A B p c (w.alloc (.cells #[.slice p (pk B).length c, .int .i64 (B.length : Int)] 123)) := by
  have g := World.grownBy_alloc w (.cells #[.slice p (pk B).length c, .int .i64 (B.length : Int)] 123) none
  exact ⟨h.keep g, heap_alloc_new w _, hb.keep g, World.lt_of_row' h.gb⟩
/-- What the reference's Encode returns. -/
def RAEnc (A : Ad) (w : World) (e : Ending) (w' : World) : Prop :=
  (vAd A = true ∧ ∃ p c, e = .returned (.tuple #[.slice p (encA A).length c, .int .i64 0]) ∧ Rd w' (fun _ => True) (.slice p (encA A).length c) ((encA A).map nv) ∧ (p = none → c = 0) ∧ w.grownBy w' none) ∨
  (vAd A = false ∧ e = .returned (.tuple #[.slice none 0 0, .int .i64 1]) ∧ w.grownBy w' none)
/-- The same, its bytes in memory of the call's own. -/
def RAEncO (A : Ad) (w : World) (e : Ending) (w' : World) : Prop :=
  (vAd A = true ∧ ∃ p c, e = .returned (.tuple #[.slice p (encA A).length c, .int .i64 0]) ∧ Own w' w.heap.size p c (encA A) ∧ w.grownBy w' none) ∨
  (vAd A = false ∧ e = .returned (.tuple #[.slice none 0 0, .int .i64 1]) ∧ w.grownBy w' none)
set_option maxRecDepth 100000 in
set_option maxHeartbeats 6400000 in
theorem raenco_any (A : Ad) (q0 : Nat → Prop) (w : World) (hA : AdOk w q0 A) :
    Calls Try.prog 63 #[A.val] w fun e w' => RAEncO A w e w' := by
  have hb := heap_alloc_new w (.cells (adC A) 38)
  have hg := World.grownBy_alloc w (.cells (adC A) 38) none
  have H0 : Hid (RP w w.heap.size A (w.alloc (.cells (adC A) 38))) := Lib.hid ⟨hb, hA.old.keep hg, hg, Nat.le_refl _⟩
  have hm1 := Nat.le_trans hA.hl.1 hA.hl.2
  have hm2 := Nat.le_trans hA.hc.1 hA.hc.2
  clear hb hg hA
  obtain ⟨r, q, cp, L, C, pL, cL, pC, cC⟩ := A
  obtain ⟨A, hAA⟩ : ∃ A : Ad, A = ⟨r, q, cp, L, C, pL, cL, pC, cC⟩ := ⟨_, rfl⟩
  rw [← hAA] at H0 ⊢
  have hval : A.val = .agg #[.int .i64 r, .int .i64 q, .bool cp, .slice pL L.length cL, .slice pC C.length cC] := by rw [hAA]; rfl
  have hadc : adC A = #[.int .i64 r, .int .i64 q, .bool cp, .slice pL L.length cL, .slice pC C.length cC] := by rw [hAA]; rfl
  have HRC := Lib.hid hadc
  have HRV := Lib.hid hval
  have HLL := Lib.hid (show A.L = L ∧ A.C = C ∧ A.r = r ∧ A.q = q ∧ A.cp = cp from by rw [hAA]; exact ⟨rfl, rfl, rfl, rfl, rfl⟩)
  have HPL := Lib.hid (show A.pL = pL ∧ A.cL = cL ∧ A.pC = pC ∧ A.cC = cC from by rw [hAA]; exact ⟨rfl, rfl, rfl, rfl⟩)
  have HRL : Hid (∀ wz, Hid (RP w w.heap.size A wz) → Rd3 wz (· < w.heap.size) (.slice pL L.length cL) L ∧ Rd3 wz (· < w.heap.size) (.slice pC C.length cC) C) := Lib.hid (fun wz h => by
    have h1 := h.out.ok.l
    have h2 := h.out.ok.c
    rw [HPL.out.1, HPL.out.2.1, HLL.out.1] at h1
    rw [HPL.out.2.2.1, HPL.out.2.2.2, HLL.out.2.1] at h2
    exact ⟨h1, h2⟩)
  have HROW : Hid (∀ wz, Hid (RP w w.heap.size A wz) → wz.heap[w.heap.size]? = some (.cells #[.int .i64 r, .int .i64 q, .bool cp, .slice pL L.length cL, .slice pC C.length cC] 38 (0, 0))) := Lib.hid (fun wz h => by rw [← HRC.out]; exact h.out.gb)
  rw [hval]
  rw [hadc] at H0
  clear hval hadc hAA HPL
  simp only at hm1 hm2
  go_enter Try.func63, Try.ntmps63
  go_upto_region 1 with fail
  generalize w.alloc _ = wa at *
  obtain ⟨c0, c1, c2, c3, c4⟩ := row5 (HROW.out wa H0)
  go_wp2_with fail
  have hV := rvalidA_any A _ wa H0.out.ok
  rw [HRV.out] at hV
  refine hV.mono ?_
  rintro e w1 ⟨rfl, hg⟩
  have H1 := Lib.hid (H0.out.keep hg)
  clear hg hV H0 c0 c1 c2 c3 c4
  cases hv : vAd A
  · have HV := Lib.hid hv
    clear hv
    go_wp2_with fail
    go_ret2
    exact .inr ⟨HV.out, rfl, H1.out.gr⟩
  have HV := Lib.hid hv
  have HVA := Lib.hid (VA.of hv)
  clear hv
  have hL23 : L.length ≤ 23 := by have := HVA.out.ll; rwa [HLL.out.1] at this
  have hC8 : C.length ≤ 8 := by have := HVA.out.cl; rwa [HLL.out.2.1] at this
  have hrr : 1 ≤ r ∧ r ≤ 99 := by have := HVA.out.r; rwa [HLL.out.2.2.1] at this
  have hqq : 1 ≤ q ∧ q ≤ 1000000 := by have := HVA.out.q; rwa [HLL.out.2.2.2.1] at this
  obtain ⟨c0, c1, c2, c3, c4⟩ := row5 (HROW.out w1 H1)
  go_upto_if 14 with fail
  clear c0 c1 c2 c3 c4
  go_cut [4] from 13 to 14 (fun x wx => x = .int .i64 ((cp.toNat : Nat) : Int) ∧ Hid (RP w w.heap.size A wx))
  case first =>
    cases cp
    · go_wp2_with fail
      go_meet
      exact ⟨rfl, H1⟩
    · go_wp2_with fail
      go_meet
      exact ⟨rfl, H1⟩
  case rest =>
  obtain ⟨rfl, H2⟩ := hcut
  clear H1
  go_upto_region 6 with fail
  go_cut [5] from 15 to 27 (fun x wx => ∃ S p c, x = .pointer (some ⟨S, 0, none⟩) ∧ Hid (RE w w.heap.size S A (hdB A) p c wx))
  case first =>
    have HD := Lib.hid (H2.out.keep (grown_drew (grown_refl wc none)))
    obtain ⟨B1, hB1⟩ : ∃ B, B = nb r.toNat 7 := ⟨_, rfl⟩
    have hl1 : B1.length = 7 := by rw [hB1, nb_len]
    obtain ⟨B2, hB2⟩ : ∃ B, B = B1 ++ nb q.toNat 20 := ⟨_, rfl⟩
    have hl2 : B2.length = 27 := by rw [hB2, List.length_append, nb_len, hl1]
    obtain ⟨B3, hB3⟩ : ∃ B, B = B2 ++ nb ((cp.toNat : Nat) : Int).toNat 1 := ⟨_, rfl⟩
    have hl3 : B3.length = 28 := by rw [hB3, List.length_append, nb_len, hl2]
    obtain ⟨B4, hB4⟩ : ∃ B, B = B3 ++ nb ((L.length : Nat) : Int).toNat 5 := ⟨_, rfl⟩
    have HB4 : Hid (hdB A = B4) := Lib.hid (by rw [hB4, hB3, hB2, hB1]; unfold hdB; rw [HLL.out.1, HLL.out.2.2.1, HLL.out.2.2.2.1, HLL.out.2.2.2.2]; rfl)
    have HC1 : Hid (∀ wz, Calls Try.prog 91 #[.agg #[.slice none 0 0, .int .i64 0], .int .i64 r, .int .i64 ((7 : Nat) : Int)] wz fun e w' => SPR B1 wz e w') := Lib.hid (fun wz => by rw [hB1]; exact rput0 r 7 wz (by omega) (by omega) (by decide))
    have HC2 := put_next q 20 hB2 (by omega) (by omega) (by decide) (by omega)
    have HC3 := put_next ((cp.toNat : Nat) : Int) 1 hB3 (by omega) (by rw [Int.toNat_natCast]; cases cp <;> decide) (by decide) (by omega)
    have HC4 := put_next ((L.length : Nat) : Int) 5 hB4 (by omega) (by rw [Int.toNat_natCast]; omega) (by decide) (by omega)
    clear H2 hB1 hB2 hB3 hB4 hl1 hl2 hl3
    refine region_until (S := fun w' => Hid (w'.heap[w.heap.size]? = some (.cells #[.int .i64 r, .int .i64 q, .bool cp, .slice pL L.length cL, .slice pC C.length cC] 38 (0, 0)))) (fun j => j == 14) (by kernel_rfl) (Lib.hid (HROW.out _ HD)) (fun hHeld => ?_)
    refine anyU_take (i := 0) (oi := { dst := some 15, op := Op.build 123 #[], type := 123, pos := "ref.go:74", after := #[], guard := none }) (v := ?_) rfl (by kernel_rfl) (by kernel_rfl) (by kernel_rfl) (by kernel_rfl) (by kernel_rfl) (fun _ _ _ h => h) (Or.inl ⟨by rfl, ?_⟩) hHeld ?_
    rotate_left 1
    · intro u hSu
      obtain ⟨q0, q1, q2, q3, q4⟩ := row5 hSu.out
      go_simp
      first | done | with_reducible rfl
    (try simp only [Act.put, List.setIfInBounds_toArray, List.set_cons_zero, List.set_cons_succ])
    refine anyU_take (i := 1) (oi := { dst := some 16, op := Op.fieldAddr 38 (Operand.tmp 1) 0, type := 0, pos := "ref.go:74", after := #[], guard := none }) (v := ?_) rfl (by kernel_rfl) (by kernel_rfl) (by kernel_rfl) (by kernel_rfl) (by kernel_rfl) (fun _ _ _ h => h) (Or.inl ⟨by rfl, ?_⟩) hHeld ?_
    rotate_left 1
    · intro u hSu
      obtain ⟨q0, q1, q2, q3, q4⟩ := row5 hSu.out
      go_simp
      first | done | with_reducible rfl
    (try simp only [Act.put, List.setIfInBounds_toArray, List.set_cons_zero, List.set_cons_succ])
    refine anyU_take (i := 2) (oi := { dst := some 17, op := Op.load 3 (Operand.tmp 16), type := 3, pos := "ref.go:74", after := #[{ on := 1, ground := Ground.data }], guard := none }) (v := ?_) rfl (by kernel_rfl) (by kernel_rfl) (by kernel_rfl) (by kernel_rfl) (by kernel_rfl) (fun _ _ _ h => h) (Or.inl ⟨by rfl, ?_⟩) hHeld ?_
    rotate_left 1
    · intro u hSu
      obtain ⟨q0, q1, q2, q3, q4⟩ := row5 hSu.out
      go_simp
      first | done | with_reducible rfl
    (try simp only [Act.put, List.setIfInBounds_toArray, List.set_cons_zero, List.set_cons_succ])
    refine anyU_take (i := 4) (oi := { dst := some 19, op := Op.fieldAddr 38 (Operand.tmp 1) 1, type := 0, pos := "ref.go:74", after := #[], guard := none }) (v := ?_) rfl (by kernel_rfl) (by kernel_rfl) (by kernel_rfl) (by kernel_rfl) (by kernel_rfl) (fun _ _ _ h => h) (Or.inl ⟨by rfl, ?_⟩) hHeld ?_
    rotate_left 1
    · intro u hSu
      obtain ⟨q0, q1, q2, q3, q4⟩ := row5 hSu.out
      go_simp
      first | done | with_reducible rfl
    (try simp only [Act.put, List.setIfInBounds_toArray, List.set_cons_zero, List.set_cons_succ])
    refine anyU_take (i := 5) (oi := { dst := some 20, op := Op.load 3 (Operand.tmp 19), type := 3, pos := "ref.go:74", after := #[{ on := 4, ground := Ground.data }], guard := none }) (v := ?_) rfl (by kernel_rfl) (by kernel_rfl) (by kernel_rfl) (by kernel_rfl) (by kernel_rfl) (fun _ _ _ h => h) (Or.inl ⟨by rfl, ?_⟩) hHeld ?_
    rotate_left 1
    · intro u hSu
      obtain ⟨q0, q1, q2, q3, q4⟩ := row5 hSu.out
      go_simp
      first | done | with_reducible rfl
    (try simp only [Act.put, List.setIfInBounds_toArray, List.set_cons_zero, List.set_cons_succ])
    refine anyU_take (i := 7) (oi := { dst := some 22, op := Op.move (Operand.tmp 4), type := 3, pos := "ref.go:74", after := #[], guard := none }) (v := ?_) rfl (by kernel_rfl) (by kernel_rfl) (by kernel_rfl) (by kernel_rfl) (by kernel_rfl) (fun _ _ _ h => h) (Or.inl ⟨by rfl, ?_⟩) hHeld ?_
    rotate_left 1
    · intro u hSu
      obtain ⟨q0, q1, q2, q3, q4⟩ := row5 hSu.out
      go_simp
      first | done | with_reducible rfl
    (try simp only [Act.put, List.setIfInBounds_toArray, List.set_cons_zero, List.set_cons_succ])
    refine anyU_take (i := 9) (oi := { dst := some 24, op := Op.fieldAddr 38 (Operand.tmp 1) 3, type := 0, pos := "ref.go:74", after := #[], guard := none }) (v := ?_) rfl (by kernel_rfl) (by kernel_rfl) (by kernel_rfl) (by kernel_rfl) (by kernel_rfl) (fun _ _ _ h => h) (Or.inl ⟨by rfl, ?_⟩) hHeld ?_
    rotate_left 1
    · intro u hSu
      obtain ⟨q0, q1, q2, q3, q4⟩ := row5 hSu.out
      go_simp
      first | done | with_reducible rfl
    (try simp only [Act.put, List.setIfInBounds_toArray, List.set_cons_zero, List.set_cons_succ])
    refine anyU_take (i := 10) (oi := { dst := some 25, op := Op.load 35 (Operand.tmp 24), type := 35, pos := "ref.go:74", after := #[{ on := 9, ground := Ground.data }], guard := none }) (v := ?_) rfl (by kernel_rfl) (by kernel_rfl) (by kernel_rfl) (by kernel_rfl) (by kernel_rfl) (fun _ _ _ h => h) (Or.inl ⟨by rfl, ?_⟩) hHeld ?_
    rotate_left 1
    · intro u hSu
      obtain ⟨q0, q1, q2, q3, q4⟩ := row5 hSu.out
      go_simp
      first | done | with_reducible rfl
    (try simp only [Act.put, List.setIfInBounds_toArray, List.set_cons_zero, List.set_cons_succ])
    refine anyU_take (i := 11) (oi := { dst := some 26, op := Op.call { callee := Callee.builtin Builtin.len, args := #[Operand.tmp 25], argTypes := #[35] }, type := 3, pos := "ref.go:74", after := #[{ on := 10, ground := Ground.data }], guard := none }) (v := ?_) rfl (by kernel_rfl) (by kernel_rfl) (by kernel_rfl) (by kernel_rfl) (by kernel_rfl) (fun _ _ _ h => h) (Or.inl ⟨by rfl, ?_⟩) hHeld ?_
    rotate_left 1
    · intro u hSu
      obtain ⟨q0, q1, q2, q3, q4⟩ := row5 hSu.out
      go_simp
      first | done | with_reducible rfl
    (try simp only [Act.put, List.setIfInBounds_toArray, List.set_cons_zero, List.set_cons_succ])
    refine anyU_ready (rs := [3, 13]) (by kernel_rfl) (by simp) ?_
    refine EachU.cons (o := { dst := some 18, op := Op.call { callee := Callee.value (Operand.func 91), args := #[Operand.tmp 15, Operand.tmp 17, Operand.const (Value.int IntKind.i64 7)], argTypes := #[123, 3, 3] }, type := 123, pos := "ref.go:74", after := #[{ on := 0, ground := Ground.data }, { on := 2, ground := Ground.data }], guard := none }) rfl (fun Kz hK => ?_) (EachU.cons (o := { dst := some 5, op := Op.alloc 123, type := 0, pos := "ref.go:74", after := #[], guard := none }) rfl (fun Kz hK => ?_) EachU.nil)
    · go_simp
      go_at_call 91
      refine (HC1.out _).mono ?_
      rintro e w5 ⟨p1, c1, rfl, hR, hp, hg⟩
      have HDn := Lib.hid (HD.out.keep hg)
      try replace HS := Lib.hid (show ∀ p, p = _ → _ from fun p hp => (HS.out p hp).keep hg)
      have HR1 := Lib.hid (BR.mk hR hp)
      clear hR hp hg HD
      have HD := HDn
      clear HDn
      refine hK.out _ _ (fun _ => Lib.hid (HROW.out _ HD)) (fun hH2 => ?_)
      clear hK Kz hHeld
      have hHeld := hH2 rfl
      clear hH2
      (try simp only [Act.put, List.setIfInBounds_toArray, List.set_cons_zero, List.set_cons_succ])
      refine anyU_ready (rs := [6, 13]) (by kernel_rfl) (by simp) ?_
      refine EachU.cons (o := { dst := some 21, op := Op.call { callee := Callee.value (Operand.func 91), args := #[Operand.tmp 18, Operand.tmp 20, Operand.const (Value.int IntKind.i64 20)], argTypes := #[123, 3, 3] }, type := 123, pos := "ref.go:74", after := #[{ on := 3, ground := Ground.data }, { on := 5, ground := Ground.data }, { on := 3, ground := Ground.chain }], guard := none }) rfl (fun Kz hK => ?_) (EachU.cons (o := { dst := some 5, op := Op.alloc 123, type := 0, pos := "ref.go:74", after := #[], guard := none }) rfl (fun Kz hK => ?_) EachU.nil)
      · go_simp
        go_at_call 91
        refine (HC2.out _ p1 c1 HR1.out).mono ?_
        rintro e w5 ⟨p2, c2, rfl, hR, hp, hg⟩
        have HDn := Lib.hid (HD.out.keep hg)
        try replace HS := Lib.hid (show ∀ p, p = _ → _ from fun p hp => (HS.out p hp).keep hg)
        have HR2 := Lib.hid (BR.mk hR hp)
        clear hR hp hg HD
        have HD := HDn
        clear HDn
        refine hK.out _ _ (fun _ => Lib.hid (HROW.out _ HD)) (fun hH2 => ?_)
        clear hK Kz hHeld
        have hHeld := hH2 rfl
        clear hH2
        (try simp only [Act.put, List.setIfInBounds_toArray, List.set_cons_zero, List.set_cons_succ])
        refine anyU_ready (rs := [8, 13]) (by kernel_rfl) (by simp) ?_
        refine EachU.cons (o := { dst := some 23, op := Op.call { callee := Callee.value (Operand.func 91), args := #[Operand.tmp 21, Operand.tmp 22, Operand.const (Value.int IntKind.i64 1)], argTypes := #[123, 3, 3] }, type := 123, pos := "ref.go:74", after := #[{ on := 6, ground := Ground.data }, { on := 7, ground := Ground.data }, { on := 6, ground := Ground.chain }], guard := none }) rfl (fun Kz hK => ?_) (EachU.cons (o := { dst := some 5, op := Op.alloc 123, type := 0, pos := "ref.go:74", after := #[], guard := none }) rfl (fun Kz hK => ?_) EachU.nil)
        · go_simp
          go_at_call 91
          refine (HC3.out _ p2 c2 HR2.out).mono ?_
          rintro e w5 ⟨p3, c3, rfl, hR, hp, hg⟩
          have HDn := Lib.hid (HD.out.keep hg)
          try replace HS := Lib.hid (show ∀ p, p = _ → _ from fun p hp => (HS.out p hp).keep hg)
          have HR3 := Lib.hid (BR.mk hR hp)
          clear hR hp hg HD
          have HD := HDn
          clear HDn
          refine hK.out _ _ (fun _ => Lib.hid (HROW.out _ HD)) (fun hH2 => ?_)
          clear hK Kz hHeld
          have hHeld := hH2 rfl
          clear hH2
          (try simp only [Act.put, List.setIfInBounds_toArray, List.set_cons_zero, List.set_cons_succ])
          refine anyU_ready (rs := [12, 13]) (by kernel_rfl) (by simp) ?_
          refine EachU.cons (o := { dst := some 27, op := Op.call { callee := Callee.value (Operand.func 91), args := #[Operand.tmp 23, Operand.tmp 26, Operand.const (Value.int IntKind.i64 5)], argTypes := #[123, 3, 3] }, type := 123, pos := "ref.go:74", after := #[{ on := 8, ground := Ground.data }, { on := 11, ground := Ground.data }, { on := 8, ground := Ground.chain }], guard := none }) rfl (fun Kz hK => ?_) (EachU.cons (o := { dst := some 5, op := Op.alloc 123, type := 0, pos := "ref.go:74", after := #[], guard := none }) rfl (fun Kz hK => ?_) EachU.nil)
          · go_simp
            go_at_call 91
            refine (HC4.out _ p3 c3 HR3.out).mono ?_
            rintro e w5 ⟨p4, c4, rfl, hR, hp, hg⟩
            have HDn := Lib.hid (HD.out.keep hg)
            try replace HS := Lib.hid (show ∀ p, p = _ → _ from fun p hp => (HS.out p hp).keep hg)
            have HR4 := Lib.hid (BR.mk hR hp)
            clear hR hp hg HD
            have HD := HDn
            clear HDn
            refine hK.out _ _ (fun _ => Lib.hid (HROW.out _ HD)) (fun hH2 => ?_)
            clear hK Kz hHeld
            have hHeld := hH2 rfl
            clear hH2
            (try simp only [Act.put, List.setIfInBounds_toArray, List.set_cons_zero, List.set_cons_succ])
            refine anyU_ready (rs := [13]) (by kernel_rfl) (by simp) ?_
            refine EachU.cons (o := { dst := some 5, op := Op.alloc 123, type := 0, pos := "ref.go:74", after := #[], guard := none }) rfl (fun Kz hK => ?_) EachU.nil
            go_simp
            try have HE2 := Lib.hid (re_new HD.out HR4.out)
            have HSN := HD.out.ns
            have HDn := Lib.hid (HD.out.keep (World.grownBy_alloc _ (.cells #[.slice none 0 0, .int .i64 0] 123) none))
            try replace HR1 := Lib.hid (HR1.out.keep (World.grownBy_alloc _ (.cells #[.slice none 0 0, .int .i64 0] 123) none))
            try replace HR2 := Lib.hid (HR2.out.keep (World.grownBy_alloc _ (.cells #[.slice none 0 0, .int .i64 0] 123) none))
            try replace HR3 := Lib.hid (HR3.out.keep (World.grownBy_alloc _ (.cells #[.slice none 0 0, .int .i64 0] 123) none))
            try replace HR4 := Lib.hid (HR4.out.keep (World.grownBy_alloc _ (.cells #[.slice none 0 0, .int .i64 0] 123) none))
            have HS := Lib.hid HSN
            clear HSN HD
            have HD := HDn
            clear HDn
            refine hK.out _ _ (fun _ => Lib.hid (HROW.out _ HD)) (fun hH2 => ?_)
            clear hK Kz hHeld
            have hHeld := hH2 rfl
            clear hH2
            (try simp only [Act.put, List.setIfInBounds_toArray, List.set_cons_zero, List.set_cons_succ])
            refine anyU_ready (rs := [14]) (by kernel_rfl) (by simp) ?_
            refine EachU.cons (o := { dst := none, op := Op.store 123 (Operand.tmp 5) (Operand.tmp 27), type := 0, pos := "ref.go:74", after := #[{ on := 13, ground := Ground.data }, { on := 12, ground := Ground.data }, { on := 12, ground := Ground.chain }, { on := 0, ground := Ground.phase }, { on := 1, ground := Ground.phase }, { on := 2, ground := Ground.phase }, { on := 3, ground := Ground.phase }, { on := 4, ground := Ground.phase }, { on := 5, ground := Ground.phase }, { on := 6, ground := Ground.phase }, { on := 7, ground := Ground.phase }, { on := 8, ground := Ground.phase }, { on := 9, ground := Ground.phase }, { on := 10, ground := Ground.phase }, { on := 11, ground := Ground.phase }, { on := 12, ground := Ground.phase }, { on := 13, ground := Ground.phase }], guard := none }) rfl (fun Kz hK => ?_) EachU.nil
            have hsn := HS.out _ (by first | rfl | simp)
            obtain ⟨s0, s1⟩ := row_cells hsn.sb
            have f0 := frozen_of_row _ _ 0 _ _ hsn.sb
            have f1 := frozen_of_row _ _ 1 _ _ hsn.sb
            try (have hsn2 : NS w.heap.size wc.heap.size _ := hsn; obtain ⟨s2, s3⟩ := row_cells hsn2.sb; have f2 := frozen_of_row _ _ 0 _ _ hsn2.sb; have f3 := frozen_of_row _ _ 1 _ _ hsn2.sb)
            have HE := Lib.hid (re_put HD.out hsn.sb HR4.out hsn.lt)
            go_simp
            refine hK.out _ _ (fun h => by cases h) (fun _ => ?_)
            clear hK Kz
            (try simp only [Act.put, List.setIfInBounds_toArray, List.set_cons_zero, List.set_cons_succ])
            refine anyU_done (by kernel_rfl) ?_ _
            clear hHeld HD HS
            go_wp2_with fail
            go_meet
            first | exact ⟨_, _, _, rfl, by rw [HB4.out]; exact HE⟩ | exact ⟨_, _, _, rfl, by rw [HB4.out]; exact HE2⟩
          · go_simp
            try have HE2 := Lib.hid (re_new HD.out HR4.out)
            have HSN := HD.out.ns
            have HDn := Lib.hid (HD.out.keep (World.grownBy_alloc _ (.cells #[.slice none 0 0, .int .i64 0] 123) none))
            try replace HR1 := Lib.hid (HR1.out.keep (World.grownBy_alloc _ (.cells #[.slice none 0 0, .int .i64 0] 123) none))
            try replace HR2 := Lib.hid (HR2.out.keep (World.grownBy_alloc _ (.cells #[.slice none 0 0, .int .i64 0] 123) none))
            try replace HR3 := Lib.hid (HR3.out.keep (World.grownBy_alloc _ (.cells #[.slice none 0 0, .int .i64 0] 123) none))
            try replace HR4 := Lib.hid (HR4.out.keep (World.grownBy_alloc _ (.cells #[.slice none 0 0, .int .i64 0] 123) none))
            have HS := Lib.hid HSN
            clear HSN HD
            have HD := HDn
            clear HDn
            refine hK.out _ _ (fun _ => Lib.hid (HROW.out _ HD)) (fun hH2 => ?_)
            clear hK Kz hHeld
            have hHeld := hH2 rfl
            clear hH2
            (try simp only [Act.put, List.setIfInBounds_toArray, List.set_cons_zero, List.set_cons_succ])
            refine anyU_ready (rs := [12]) (by kernel_rfl) (by simp) ?_
            refine EachU.cons (o := { dst := some 27, op := Op.call { callee := Callee.value (Operand.func 91), args := #[Operand.tmp 23, Operand.tmp 26, Operand.const (Value.int IntKind.i64 5)], argTypes := #[123, 3, 3] }, type := 123, pos := "ref.go:74", after := #[{ on := 8, ground := Ground.data }, { on := 11, ground := Ground.data }, { on := 8, ground := Ground.chain }], guard := none }) rfl (fun Kz hK => ?_) EachU.nil
            go_simp
            go_at_call 91
            refine (HC4.out _ p3 c3 HR3.out).mono ?_
            rintro e w5 ⟨p4, c4, rfl, hR, hp, hg⟩
            have HDn := Lib.hid (HD.out.keep hg)
            try replace HS := Lib.hid (show ∀ p, p = _ → _ from fun p hp => (HS.out p hp).keep hg)
            have HR4 := Lib.hid (BR.mk hR hp)
            clear hR hp hg HD
            have HD := HDn
            clear HDn
            refine hK.out _ _ (fun _ => Lib.hid (HROW.out _ HD)) (fun hH2 => ?_)
            clear hK Kz hHeld
            have hHeld := hH2 rfl
            clear hH2
            (try simp only [Act.put, List.setIfInBounds_toArray, List.set_cons_zero, List.set_cons_succ])
            refine anyU_ready (rs := [14]) (by kernel_rfl) (by simp) ?_
            refine EachU.cons (o := { dst := none, op := Op.store 123 (Operand.tmp 5) (Operand.tmp 27), type := 0, pos := "ref.go:74", after := #[{ on := 13, ground := Ground.data }, { on := 12, ground := Ground.data }, { on := 12, ground := Ground.chain }, { on := 0, ground := Ground.phase }, { on := 1, ground := Ground.phase }, { on := 2, ground := Ground.phase }, { on := 3, ground := Ground.phase }, { on := 4, ground := Ground.phase }, { on := 5, ground := Ground.phase }, { on := 6, ground := Ground.phase }, { on := 7, ground := Ground.phase }, { on := 8, ground := Ground.phase }, { on := 9, ground := Ground.phase }, { on := 10, ground := Ground.phase }, { on := 11, ground := Ground.phase }, { on := 12, ground := Ground.phase }, { on := 13, ground := Ground.phase }], guard := none }) rfl (fun Kz hK => ?_) EachU.nil
            have hsn := HS.out _ (by first | rfl | simp)
            obtain ⟨s0, s1⟩ := row_cells hsn.sb
            have f0 := frozen_of_row _ _ 0 _ _ hsn.sb
            have f1 := frozen_of_row _ _ 1 _ _ hsn.sb
            try (have hsn2 : NS w.heap.size wc.heap.size _ := hsn; obtain ⟨s2, s3⟩ := row_cells hsn2.sb; have f2 := frozen_of_row _ _ 0 _ _ hsn2.sb; have f3 := frozen_of_row _ _ 1 _ _ hsn2.sb)
            have HE := Lib.hid (re_put HD.out hsn.sb HR4.out hsn.lt)
            go_simp
            refine hK.out _ _ (fun h => by cases h) (fun _ => ?_)
            clear hK Kz
            (try simp only [Act.put, List.setIfInBounds_toArray, List.set_cons_zero, List.set_cons_succ])
            refine anyU_done (by kernel_rfl) ?_ _
            clear hHeld HD HS
            go_wp2_with fail
            go_meet
            first | exact ⟨_, _, _, rfl, by rw [HB4.out]; exact HE⟩ | exact ⟨_, _, _, rfl, by rw [HB4.out]; exact HE2⟩
        · go_simp
          try have HE2 := Lib.hid (re_new HD.out HR4.out)
          have HSN := HD.out.ns
          have HDn := Lib.hid (HD.out.keep (World.grownBy_alloc _ (.cells #[.slice none 0 0, .int .i64 0] 123) none))
          try replace HR1 := Lib.hid (HR1.out.keep (World.grownBy_alloc _ (.cells #[.slice none 0 0, .int .i64 0] 123) none))
          try replace HR2 := Lib.hid (HR2.out.keep (World.grownBy_alloc _ (.cells #[.slice none 0 0, .int .i64 0] 123) none))
          try replace HR3 := Lib.hid (HR3.out.keep (World.grownBy_alloc _ (.cells #[.slice none 0 0, .int .i64 0] 123) none))
          try replace HR4 := Lib.hid (HR4.out.keep (World.grownBy_alloc _ (.cells #[.slice none 0 0, .int .i64 0] 123) none))
          have HS := Lib.hid HSN
          clear HSN HD
          have HD := HDn
          clear HDn
          refine hK.out _ _ (fun _ => Lib.hid (HROW.out _ HD)) (fun hH2 => ?_)
          clear hK Kz hHeld
          have hHeld := hH2 rfl
          clear hH2
          (try simp only [Act.put, List.setIfInBounds_toArray, List.set_cons_zero, List.set_cons_succ])
          refine anyU_ready (rs := [8]) (by kernel_rfl) (by simp) ?_
          refine EachU.cons (o := { dst := some 23, op := Op.call { callee := Callee.value (Operand.func 91), args := #[Operand.tmp 21, Operand.tmp 22, Operand.const (Value.int IntKind.i64 1)], argTypes := #[123, 3, 3] }, type := 123, pos := "ref.go:74", after := #[{ on := 6, ground := Ground.data }, { on := 7, ground := Ground.data }, { on := 6, ground := Ground.chain }], guard := none }) rfl (fun Kz hK => ?_) EachU.nil
          go_simp
          go_at_call 91
          refine (HC3.out _ p2 c2 HR2.out).mono ?_
          rintro e w5 ⟨p3, c3, rfl, hR, hp, hg⟩
          have HDn := Lib.hid (HD.out.keep hg)
          try replace HS := Lib.hid (show ∀ p, p = _ → _ from fun p hp => (HS.out p hp).keep hg)
          have HR3 := Lib.hid (BR.mk hR hp)
          clear hR hp hg HD
          have HD := HDn
          clear HDn
          refine hK.out _ _ (fun _ => Lib.hid (HROW.out _ HD)) (fun hH2 => ?_)
          clear hK Kz hHeld
          have hHeld := hH2 rfl
          clear hH2
          (try simp only [Act.put, List.setIfInBounds_toArray, List.set_cons_zero, List.set_cons_succ])
          refine anyU_ready (rs := [12]) (by kernel_rfl) (by simp) ?_
          refine EachU.cons (o := { dst := some 27, op := Op.call { callee := Callee.value (Operand.func 91), args := #[Operand.tmp 23, Operand.tmp 26, Operand.const (Value.int IntKind.i64 5)], argTypes := #[123, 3, 3] }, type := 123, pos := "ref.go:74", after := #[{ on := 8, ground := Ground.data }, { on := 11, ground := Ground.data }, { on := 8, ground := Ground.chain }], guard := none }) rfl (fun Kz hK => ?_) EachU.nil
          go_simp
          go_at_call 91
          refine (HC4.out _ p3 c3 HR3.out).mono ?_
          rintro e w5 ⟨p4, c4, rfl, hR, hp, hg⟩
          have HDn := Lib.hid (HD.out.keep hg)
          try replace HS := Lib.hid (show ∀ p, p = _ → _ from fun p hp => (HS.out p hp).keep hg)
          have HR4 := Lib.hid (BR.mk hR hp)
          clear hR hp hg HD
          have HD := HDn
          clear HDn
          refine hK.out _ _ (fun _ => Lib.hid (HROW.out _ HD)) (fun hH2 => ?_)
          clear hK Kz hHeld
          have hHeld := hH2 rfl
          clear hH2
          (try simp only [Act.put, List.setIfInBounds_toArray, List.set_cons_zero, List.set_cons_succ])
          refine anyU_ready (rs := [14]) (by kernel_rfl) (by simp) ?_
          refine EachU.cons (o := { dst := none, op := Op.store 123 (Operand.tmp 5) (Operand.tmp 27), type := 0, pos := "ref.go:74", after := #[{ on := 13, ground := Ground.data }, { on := 12, ground := Ground.data }, { on := 12, ground := Ground.chain }, { on := 0, ground := Ground.phase }, { on := 1, ground := Ground.phase }, { on := 2, ground := Ground.phase }, { on := 3, ground := Ground.phase }, { on := 4, ground := Ground.phase }, { on := 5, ground := Ground.phase }, { on := 6, ground := Ground.phase }, { on := 7, ground := Ground.phase }, { on := 8, ground := Ground.phase }, { on := 9, ground := Ground.phase }, { on := 10, ground := Ground.phase }, { on := 11, ground := Ground.phase }, { on := 12, ground := Ground.phase }, { on := 13, ground := Ground.phase }], guard := none }) rfl (fun Kz hK => ?_) EachU.nil
          have hsn := HS.out _ (by first | rfl | simp)
          obtain ⟨s0, s1⟩ := row_cells hsn.sb
          have f0 := frozen_of_row _ _ 0 _ _ hsn.sb
          have f1 := frozen_of_row _ _ 1 _ _ hsn.sb
          try (have hsn2 : NS w.heap.size wc.heap.size _ := hsn; obtain ⟨s2, s3⟩ := row_cells hsn2.sb; have f2 := frozen_of_row _ _ 0 _ _ hsn2.sb; have f3 := frozen_of_row _ _ 1 _ _ hsn2.sb)
          have HE := Lib.hid (re_put HD.out hsn.sb HR4.out hsn.lt)
          go_simp
          refine hK.out _ _ (fun h => by cases h) (fun _ => ?_)
          clear hK Kz
          (try simp only [Act.put, List.setIfInBounds_toArray, List.set_cons_zero, List.set_cons_succ])
          refine anyU_done (by kernel_rfl) ?_ _
          clear hHeld HD HS
          go_wp2_with fail
          go_meet
          first | exact ⟨_, _, _, rfl, by rw [HB4.out]; exact HE⟩ | exact ⟨_, _, _, rfl, by rw [HB4.out]; exact HE2⟩
      · go_simp
        try have HE2 := Lib.hid (re_new HD.out HR4.out)
        have HSN := HD.out.ns
        have HDn := Lib.hid (HD.out.keep (World.grownBy_alloc _ (.cells #[.slice none 0 0, .int .i64 0] 123) none))
        try replace HR1 := Lib.hid (HR1.out.keep (World.grownBy_alloc _ (.cells #[.slice none 0 0, .int .i64 0] 123) none))
        try replace HR2 := Lib.hid (HR2.out.keep (World.grownBy_alloc _ (.cells #[.slice none 0 0, .int .i64 0] 123) none))
        try replace HR3 := Lib.hid (HR3.out.keep (World.grownBy_alloc _ (.cells #[.slice none 0 0, .int .i64 0] 123) none))
        try replace HR4 := Lib.hid (HR4.out.keep (World.grownBy_alloc _ (.cells #[.slice none 0 0, .int .i64 0] 123) none))
        have HS := Lib.hid HSN
        clear HSN HD
        have HD := HDn
        clear HDn
        refine hK.out _ _ (fun _ => Lib.hid (HROW.out _ HD)) (fun hH2 => ?_)
        clear hK Kz hHeld
        have hHeld := hH2 rfl
        clear hH2
        (try simp only [Act.put, List.setIfInBounds_toArray, List.set_cons_zero, List.set_cons_succ])
        refine anyU_ready (rs := [6]) (by kernel_rfl) (by simp) ?_
        refine EachU.cons (o := { dst := some 21, op := Op.call { callee := Callee.value (Operand.func 91), args := #[Operand.tmp 18, Operand.tmp 20, Operand.const (Value.int IntKind.i64 20)], argTypes := #[123, 3, 3] }, type := 123, pos := "ref.go:74", after := #[{ on := 3, ground := Ground.data }, { on := 5, ground := Ground.data }, { on := 3, ground := Ground.chain }], guard := none }) rfl (fun Kz hK => ?_) EachU.nil
        go_simp
        go_at_call 91
        refine (HC2.out _ p1 c1 HR1.out).mono ?_
        rintro e w5 ⟨p2, c2, rfl, hR, hp, hg⟩
        have HDn := Lib.hid (HD.out.keep hg)
        try replace HS := Lib.hid (show ∀ p, p = _ → _ from fun p hp => (HS.out p hp).keep hg)
        have HR2 := Lib.hid (BR.mk hR hp)
        clear hR hp hg HD
        have HD := HDn
        clear HDn
        refine hK.out _ _ (fun _ => Lib.hid (HROW.out _ HD)) (fun hH2 => ?_)
        clear hK Kz hHeld
        have hHeld := hH2 rfl
        clear hH2
        (try simp only [Act.put, List.setIfInBounds_toArray, List.set_cons_zero, List.set_cons_succ])
        refine anyU_ready (rs := [8]) (by kernel_rfl) (by simp) ?_
        refine EachU.cons (o := { dst := some 23, op := Op.call { callee := Callee.value (Operand.func 91), args := #[Operand.tmp 21, Operand.tmp 22, Operand.const (Value.int IntKind.i64 1)], argTypes := #[123, 3, 3] }, type := 123, pos := "ref.go:74", after := #[{ on := 6, ground := Ground.data }, { on := 7, ground := Ground.data }, { on := 6, ground := Ground.chain }], guard := none }) rfl (fun Kz hK => ?_) EachU.nil
        go_simp
        go_at_call 91
        refine (HC3.out _ p2 c2 HR2.out).mono ?_
        rintro e w5 ⟨p3, c3, rfl, hR, hp, hg⟩
        have HDn := Lib.hid (HD.out.keep hg)
        try replace HS := Lib.hid (show ∀ p, p = _ → _ from fun p hp => (HS.out p hp).keep hg)
        have HR3 := Lib.hid (BR.mk hR hp)
        clear hR hp hg HD
        have HD := HDn
        clear HDn
        refine hK.out _ _ (fun _ => Lib.hid (HROW.out _ HD)) (fun hH2 => ?_)
        clear hK Kz hHeld
        have hHeld := hH2 rfl
        clear hH2
        (try simp only [Act.put, List.setIfInBounds_toArray, List.set_cons_zero, List.set_cons_succ])
        refine anyU_ready (rs := [12]) (by kernel_rfl) (by simp) ?_
        refine EachU.cons (o := { dst := some 27, op := Op.call { callee := Callee.value (Operand.func 91), args := #[Operand.tmp 23, Operand.tmp 26, Operand.const (Value.int IntKind.i64 5)], argTypes := #[123, 3, 3] }, type := 123, pos := "ref.go:74", after := #[{ on := 8, ground := Ground.data }, { on := 11, ground := Ground.data }, { on := 8, ground := Ground.chain }], guard := none }) rfl (fun Kz hK => ?_) EachU.nil
        go_simp
        go_at_call 91
        refine (HC4.out _ p3 c3 HR3.out).mono ?_
        rintro e w5 ⟨p4, c4, rfl, hR, hp, hg⟩
        have HDn := Lib.hid (HD.out.keep hg)
        try replace HS := Lib.hid (show ∀ p, p = _ → _ from fun p hp => (HS.out p hp).keep hg)
        have HR4 := Lib.hid (BR.mk hR hp)
        clear hR hp hg HD
        have HD := HDn
        clear HDn
        refine hK.out _ _ (fun _ => Lib.hid (HROW.out _ HD)) (fun hH2 => ?_)
        clear hK Kz hHeld
        have hHeld := hH2 rfl
        clear hH2
        (try simp only [Act.put, List.setIfInBounds_toArray, List.set_cons_zero, List.set_cons_succ])
        refine anyU_ready (rs := [14]) (by kernel_rfl) (by simp) ?_
        refine EachU.cons (o := { dst := none, op := Op.store 123 (Operand.tmp 5) (Operand.tmp 27), type := 0, pos := "ref.go:74", after := #[{ on := 13, ground := Ground.data }, { on := 12, ground := Ground.data }, { on := 12, ground := Ground.chain }, { on := 0, ground := Ground.phase }, { on := 1, ground := Ground.phase }, { on := 2, ground := Ground.phase }, { on := 3, ground := Ground.phase }, { on := 4, ground := Ground.phase }, { on := 5, ground := Ground.phase }, { on := 6, ground := Ground.phase }, { on := 7, ground := Ground.phase }, { on := 8, ground := Ground.phase }, { on := 9, ground := Ground.phase }, { on := 10, ground := Ground.phase }, { on := 11, ground := Ground.phase }, { on := 12, ground := Ground.phase }, { on := 13, ground := Ground.phase }], guard := none }) rfl (fun Kz hK => ?_) EachU.nil
        have hsn := HS.out _ (by first | rfl | simp)
        obtain ⟨s0, s1⟩ := row_cells hsn.sb
        have f0 := frozen_of_row _ _ 0 _ _ hsn.sb
        have f1 := frozen_of_row _ _ 1 _ _ hsn.sb
        try (have hsn2 : NS w.heap.size wc.heap.size _ := hsn; obtain ⟨s2, s3⟩ := row_cells hsn2.sb; have f2 := frozen_of_row _ _ 0 _ _ hsn2.sb; have f3 := frozen_of_row _ _ 1 _ _ hsn2.sb)
        have HE := Lib.hid (re_put HD.out hsn.sb HR4.out hsn.lt)
        go_simp
        refine hK.out _ _ (fun h => by cases h) (fun _ => ?_)
        clear hK Kz
        (try simp only [Act.put, List.setIfInBounds_toArray, List.set_cons_zero, List.set_cons_succ])
        refine anyU_done (by kernel_rfl) ?_ _
        clear hHeld HD HS
        go_wp2_with fail
        go_meet
        first | exact ⟨_, _, _, rfl, by rw [HB4.out]; exact HE⟩ | exact ⟨_, _, _, rfl, by rw [HB4.out]; exact HE2⟩
    · go_simp
      try have HE2 := Lib.hid (re_new HD.out HR4.out)
      have HSN := HD.out.ns
      have HDn := Lib.hid (HD.out.keep (World.grownBy_alloc _ (.cells #[.slice none 0 0, .int .i64 0] 123) none))
      try replace HR1 := Lib.hid (HR1.out.keep (World.grownBy_alloc _ (.cells #[.slice none 0 0, .int .i64 0] 123) none))
      try replace HR2 := Lib.hid (HR2.out.keep (World.grownBy_alloc _ (.cells #[.slice none 0 0, .int .i64 0] 123) none))
      try replace HR3 := Lib.hid (HR3.out.keep (World.grownBy_alloc _ (.cells #[.slice none 0 0, .int .i64 0] 123) none))
      try replace HR4 := Lib.hid (HR4.out.keep (World.grownBy_alloc _ (.cells #[.slice none 0 0, .int .i64 0] 123) none))
      have HS := Lib.hid HSN
      clear HSN HD
      have HD := HDn
      clear HDn
      refine hK.out _ _ (fun _ => Lib.hid (HROW.out _ HD)) (fun hH2 => ?_)
      clear hK Kz hHeld
      have hHeld := hH2 rfl
      clear hH2
      (try simp only [Act.put, List.setIfInBounds_toArray, List.set_cons_zero, List.set_cons_succ])
      refine anyU_ready (rs := [3]) (by kernel_rfl) (by simp) ?_
      refine EachU.cons (o := { dst := some 18, op := Op.call { callee := Callee.value (Operand.func 91), args := #[Operand.tmp 15, Operand.tmp 17, Operand.const (Value.int IntKind.i64 7)], argTypes := #[123, 3, 3] }, type := 123, pos := "ref.go:74", after := #[{ on := 0, ground := Ground.data }, { on := 2, ground := Ground.data }], guard := none }) rfl (fun Kz hK => ?_) EachU.nil
      go_simp
      go_at_call 91
      refine (HC1.out _).mono ?_
      rintro e w5 ⟨p1, c1, rfl, hR, hp, hg⟩
      have HDn := Lib.hid (HD.out.keep hg)
      try replace HS := Lib.hid (show ∀ p, p = _ → _ from fun p hp => (HS.out p hp).keep hg)
      have HR1 := Lib.hid (BR.mk hR hp)
      clear hR hp hg HD
      have HD := HDn
      clear HDn
      refine hK.out _ _ (fun _ => Lib.hid (HROW.out _ HD)) (fun hH2 => ?_)
      clear hK Kz hHeld
      have hHeld := hH2 rfl
      clear hH2
      (try simp only [Act.put, List.setIfInBounds_toArray, List.set_cons_zero, List.set_cons_succ])
      refine anyU_ready (rs := [6]) (by kernel_rfl) (by simp) ?_
      refine EachU.cons (o := { dst := some 21, op := Op.call { callee := Callee.value (Operand.func 91), args := #[Operand.tmp 18, Operand.tmp 20, Operand.const (Value.int IntKind.i64 20)], argTypes := #[123, 3, 3] }, type := 123, pos := "ref.go:74", after := #[{ on := 3, ground := Ground.data }, { on := 5, ground := Ground.data }, { on := 3, ground := Ground.chain }], guard := none }) rfl (fun Kz hK => ?_) EachU.nil
      go_simp
      go_at_call 91
      refine (HC2.out _ p1 c1 HR1.out).mono ?_
      rintro e w5 ⟨p2, c2, rfl, hR, hp, hg⟩
      have HDn := Lib.hid (HD.out.keep hg)
      try replace HS := Lib.hid (show ∀ p, p = _ → _ from fun p hp => (HS.out p hp).keep hg)
      have HR2 := Lib.hid (BR.mk hR hp)
      clear hR hp hg HD
      have HD := HDn
      clear HDn
      refine hK.out _ _ (fun _ => Lib.hid (HROW.out _ HD)) (fun hH2 => ?_)
      clear hK Kz hHeld
      have hHeld := hH2 rfl
      clear hH2
      (try simp only [Act.put, List.setIfInBounds_toArray, List.set_cons_zero, List.set_cons_succ])
      refine anyU_ready (rs := [8]) (by kernel_rfl) (by simp) ?_
      refine EachU.cons (o := { dst := some 23, op := Op.call { callee := Callee.value (Operand.func 91), args := #[Operand.tmp 21, Operand.tmp 22, Operand.const (Value.int IntKind.i64 1)], argTypes := #[123, 3, 3] }, type := 123, pos := "ref.go:74", after := #[{ on := 6, ground := Ground.data }, { on := 7, ground := Ground.data }, { on := 6, ground := Ground.chain }], guard := none }) rfl (fun Kz hK => ?_) EachU.nil
      go_simp
      go_at_call 91
      refine (HC3.out _ p2 c2 HR2.out).mono ?_
      rintro e w5 ⟨p3, c3, rfl, hR, hp, hg⟩
      have HDn := Lib.hid (HD.out.keep hg)
      try replace HS := Lib.hid (show ∀ p, p = _ → _ from fun p hp => (HS.out p hp).keep hg)
      have HR3 := Lib.hid (BR.mk hR hp)
      clear hR hp hg HD
      have HD := HDn
      clear HDn
      refine hK.out _ _ (fun _ => Lib.hid (HROW.out _ HD)) (fun hH2 => ?_)
      clear hK Kz hHeld
      have hHeld := hH2 rfl
      clear hH2
      (try simp only [Act.put, List.setIfInBounds_toArray, List.set_cons_zero, List.set_cons_succ])
      refine anyU_ready (rs := [12]) (by kernel_rfl) (by simp) ?_
      refine EachU.cons (o := { dst := some 27, op := Op.call { callee := Callee.value (Operand.func 91), args := #[Operand.tmp 23, Operand.tmp 26, Operand.const (Value.int IntKind.i64 5)], argTypes := #[123, 3, 3] }, type := 123, pos := "ref.go:74", after := #[{ on := 8, ground := Ground.data }, { on := 11, ground := Ground.data }, { on := 8, ground := Ground.chain }], guard := none }) rfl (fun Kz hK => ?_) EachU.nil
      go_simp
      go_at_call 91
      refine (HC4.out _ p3 c3 HR3.out).mono ?_
      rintro e w5 ⟨p4, c4, rfl, hR, hp, hg⟩
      have HDn := Lib.hid (HD.out.keep hg)
      try replace HS := Lib.hid (show ∀ p, p = _ → _ from fun p hp => (HS.out p hp).keep hg)
      have HR4 := Lib.hid (BR.mk hR hp)
      clear hR hp hg HD
      have HD := HDn
      clear HDn
      refine hK.out _ _ (fun _ => Lib.hid (HROW.out _ HD)) (fun hH2 => ?_)
      clear hK Kz hHeld
      have hHeld := hH2 rfl
      clear hH2
      (try simp only [Act.put, List.setIfInBounds_toArray, List.set_cons_zero, List.set_cons_succ])
      refine anyU_ready (rs := [14]) (by kernel_rfl) (by simp) ?_
      refine EachU.cons (o := { dst := none, op := Op.store 123 (Operand.tmp 5) (Operand.tmp 27), type := 0, pos := "ref.go:74", after := #[{ on := 13, ground := Ground.data }, { on := 12, ground := Ground.data }, { on := 12, ground := Ground.chain }, { on := 0, ground := Ground.phase }, { on := 1, ground := Ground.phase }, { on := 2, ground := Ground.phase }, { on := 3, ground := Ground.phase }, { on := 4, ground := Ground.phase }, { on := 5, ground := Ground.phase }, { on := 6, ground := Ground.phase }, { on := 7, ground := Ground.phase }, { on := 8, ground := Ground.phase }, { on := 9, ground := Ground.phase }, { on := 10, ground := Ground.phase }, { on := 11, ground := Ground.phase }, { on := 12, ground := Ground.phase }, { on := 13, ground := Ground.phase }], guard := none }) rfl (fun Kz hK => ?_) EachU.nil
      have hsn := HS.out _ (by first | rfl | simp)
      obtain ⟨s0, s1⟩ := row_cells hsn.sb
      have f0 := frozen_of_row _ _ 0 _ _ hsn.sb
      have f1 := frozen_of_row _ _ 1 _ _ hsn.sb
      try (have hsn2 : NS w.heap.size wc.heap.size _ := hsn; obtain ⟨s2, s3⟩ := row_cells hsn2.sb; have f2 := frozen_of_row _ _ 0 _ _ hsn2.sb; have f3 := frozen_of_row _ _ 1 _ _ hsn2.sb)
      have HE := Lib.hid (re_put HD.out hsn.sb HR4.out hsn.lt)
      go_simp
      refine hK.out _ _ (fun h => by cases h) (fun _ => ?_)
      clear hK Kz
      (try simp only [Act.put, List.setIfInBounds_toArray, List.set_cons_zero, List.set_cons_succ])
      refine anyU_done (by kernel_rfl) ?_ _
      clear hHeld HD HS
      go_wp2_with fail
      go_meet
      first | exact ⟨_, _, _, rfl, by rw [HB4.out]; exact HE⟩ | exact ⟨_, _, _, rfl, by rw [HB4.out]; exact HE2⟩
  case rest =>
  obtain ⟨S, p, c, rfl, H3⟩ := hcut
  clear H2
  go_upto_block 0 with fail
  go_cut [] from 28 to 56 (fun wx => ∃ p c, Hid (RE w w.heap.size S A (lkB A L.length) p c wx))
  case first =>
    go_wp2_with fail
    go_loopw [6] (fun i wr => ∃ k : Nat, k ≤ L.length ∧ i = .int .i64 (k : Int) ∧ ∃ p c, Hid (RE w w.heap.size S A (lkB A k) p c wr)) (fun i _ => L.length - (RowKit.intOf i).toNat)
    case atStart => exact ⟨0, Nat.zero_le _, rfl, p, c, by rw [show lkB A 0 = hdB A by unfold lkB; simp]; exact H3⟩
    case round =>
      obtain ⟨k, hk, rfl, p, c, HK⟩ := hrel
      clear H3
      obtain ⟨c0, c1, c2, c3, c4⟩ := row5 (HROW.out wr (Lib.hid HK.out.r))
      by_cases hlt : k < L.length
      · have hlti : (k : Int) < (L.length : Int) := by omega
        obtain ⟨-, b, off, rfl, -, -⟩ := rd3_cells (HRL.out wr (Lib.hid HK.out.r)).1 (by omega)
        obtain ⟨x, hx⟩ : ∃ x, L[k]? = some x := ⟨_, List.getElem?_eq_getElem hlt⟩
        have HX := Lib.hid hx
        have hxA : A.L[k]? = some x := by rw [HLL.out.1]; exact hx
        have hxb := HVA.out.L x (List.mem_of_getElem? hxA)
        obtain ⟨B, hB⟩ : ∃ B, lkB A k = B := ⟨_, rfl⟩
        have hlB : B.length ≤ 700 := by rw [← hB, lkB_len, List.length_take]; have := HVA.out.ll; omega
        obtain ⟨B1, hB1⟩ : ∃ B1, B1 = B ++ nb x.a.toNat 7 := ⟨_, rfl⟩
        have hl1 : B1.length ≤ 707 := by rw [hB1, List.length_append, nb_len]; omega
        obtain ⟨B2, hB2⟩ : ∃ B2, B2 = B1 ++ nb x.b.toNat 10 := ⟨_, rfl⟩
        have hl2 : B2.length ≤ 717 := by rw [hB2, List.length_append, nb_len]; omega
        obtain ⟨B3, hB3⟩ : ∃ B3, B3 = B2 ++ nb x.c.toNat 10 := ⟨_, rfl⟩
        have HB3 : Hid (lkB A (k + 1) = B3) := Lib.hid (by rw [lkB_step hxA, hB, hB3, hB2, hB1])
        have HCa := put_next x.a 7 hB1 (by omega) (by omega) (by decide) (by omega)
        have HCb := put_next x.b 10 hB2 (by omega) (by omega) (by decide) (by omega)
        have HCc := put_next x.c 10 hB3 (by omega) (by omega) (by decide) (by omega)
        rw [hB] at HK
        clear hx hxA hxb hB hB1 hB2 hB3 hlB hl1 hl2
        go_upto_region 10 with fail
        clear c0 c1 c2 c3 c4
        have HD := Lib.hid (HK.out.keep (grown_drew (grown_refl wr none)))
        clear HK
        refine region_until (S := fun w' => Hid (RE w w.heap.size S A B p c w')) (fun j => j == 22) (by kernel_rfl) (HD) (fun hHeld => ?_)
        refine anyU_take (i := 0) (oi := { dst := some 35, op := Op.load 123 (Operand.tmp 5), type := 123, pos := "ref.go:76", after := #[], guard := none }) (v := ?_) rfl (by kernel_rfl) (by kernel_rfl) (by kernel_rfl) (by kernel_rfl) (by kernel_rfl) (fun _ _ _ h => h) (Or.inl ⟨by rfl, ?_⟩) hHeld ?_
        rotate_left 1
        · intro u hSu
          obtain ⟨s0, s1⟩ := row_cells hSu.out.sb
          obtain ⟨q0, q1, q2, q3, q4⟩ := row5 (HROW.out _ (Lib.hid hSu.out.r))
          obtain ⟨z0, z1, z2⟩ := rd3_at (HRL.out _ (Lib.hid hSu.out.r)).1 HX.out
          go_simp
          first | done | with_reducible rfl
        (try simp only [Act.put, List.setIfInBounds_toArray, List.set_cons_zero, List.set_cons_succ])
        refine anyU_take (i := 1) (oi := { dst := some 36, op := Op.fieldAddr 38 (Operand.tmp 1) 3, type := 0, pos := "ref.go:76", after := #[], guard := none }) (v := ?_) rfl (by kernel_rfl) (by kernel_rfl) (by kernel_rfl) (by kernel_rfl) (by kernel_rfl) (fun _ _ _ h => h) (Or.inl ⟨by rfl, ?_⟩) hHeld ?_
        rotate_left 1
        · intro u hSu
          obtain ⟨s0, s1⟩ := row_cells hSu.out.sb
          obtain ⟨q0, q1, q2, q3, q4⟩ := row5 (HROW.out _ (Lib.hid hSu.out.r))
          obtain ⟨z0, z1, z2⟩ := rd3_at (HRL.out _ (Lib.hid hSu.out.r)).1 HX.out
          go_simp
          first | done | with_reducible rfl
        (try simp only [Act.put, List.setIfInBounds_toArray, List.set_cons_zero, List.set_cons_succ])
        refine anyU_take (i := 2) (oi := { dst := some 37, op := Op.load 35 (Operand.tmp 36), type := 35, pos := "ref.go:76", after := #[{ on := 1, ground := Ground.data }], guard := none }) (v := ?_) rfl (by kernel_rfl) (by kernel_rfl) (by kernel_rfl) (by kernel_rfl) (by kernel_rfl) (fun _ _ _ h => h) (Or.inl ⟨by rfl, ?_⟩) hHeld ?_
        rotate_left 1
        · intro u hSu
          obtain ⟨s0, s1⟩ := row_cells hSu.out.sb
          obtain ⟨q0, q1, q2, q3, q4⟩ := row5 (HROW.out _ (Lib.hid hSu.out.r))
          obtain ⟨z0, z1, z2⟩ := rd3_at (HRL.out _ (Lib.hid hSu.out.r)).1 HX.out
          go_simp
          first | done | with_reducible rfl
        (try simp only [Act.put, List.setIfInBounds_toArray, List.set_cons_zero, List.set_cons_succ])
        refine anyU_take (i := 3) (oi := { dst := some 38, op := Op.move (Operand.tmp 6), type := 3, pos := "ref.go:76", after := #[], guard := none }) (v := ?_) rfl (by kernel_rfl) (by kernel_rfl) (by kernel_rfl) (by kernel_rfl) (by kernel_rfl) (fun _ _ _ h => h) (Or.inl ⟨by rfl, ?_⟩) hHeld ?_
        rotate_left 1
        · intro u hSu
          obtain ⟨s0, s1⟩ := row_cells hSu.out.sb
          obtain ⟨q0, q1, q2, q3, q4⟩ := row5 (HROW.out _ (Lib.hid hSu.out.r))
          obtain ⟨z0, z1, z2⟩ := rd3_at (HRL.out _ (Lib.hid hSu.out.r)).1 HX.out
          go_simp
          first | done | with_reducible rfl
        (try simp only [Act.put, List.setIfInBounds_toArray, List.set_cons_zero, List.set_cons_succ])
        refine anyU_take (i := 4) (oi := { dst := some 39, op := Op.indexAddr 35 (Operand.tmp 37) (Operand.tmp 38), type := 0, pos := "ref.go:76", after := #[{ on := 2, ground := Ground.data }, { on := 3, ground := Ground.data }], guard := none }) (v := ?_) rfl (by kernel_rfl) (by kernel_rfl) (by kernel_rfl) (by kernel_rfl) (by kernel_rfl) (fun _ _ _ h => h) (Or.inl ⟨by rfl, ?_⟩) hHeld ?_
        rotate_left 1
        · intro u hSu
          obtain ⟨s0, s1⟩ := row_cells hSu.out.sb
          obtain ⟨q0, q1, q2, q3, q4⟩ := row5 (HROW.out _ (Lib.hid hSu.out.r))
          obtain ⟨z0, z1, z2⟩ := rd3_at (HRL.out _ (Lib.hid hSu.out.r)).1 HX.out
          go_simp
          first | done | with_reducible rfl
        (try simp only [Act.put, List.setIfInBounds_toArray, List.set_cons_zero, List.set_cons_succ])
        refine anyU_take (i := 5) (oi := { dst := some 40, op := Op.fieldAddr 73 (Operand.tmp 39) 0, type := 0, pos := "ref.go:76", after := #[{ on := 4, ground := Ground.data }], guard := none }) (v := ?_) rfl (by kernel_rfl) (by kernel_rfl) (by kernel_rfl) (by kernel_rfl) (by kernel_rfl) (fun _ _ _ h => h) (Or.inl ⟨by rfl, ?_⟩) hHeld ?_
        rotate_left 1
        · intro u hSu
          obtain ⟨s0, s1⟩ := row_cells hSu.out.sb
          obtain ⟨q0, q1, q2, q3, q4⟩ := row5 (HROW.out _ (Lib.hid hSu.out.r))
          obtain ⟨z0, z1, z2⟩ := rd3_at (HRL.out _ (Lib.hid hSu.out.r)).1 HX.out
          go_simp
          first | done | with_reducible rfl
        (try simp only [Act.put, List.setIfInBounds_toArray, List.set_cons_zero, List.set_cons_succ])
        refine anyU_take (i := 6) (oi := { dst := some 41, op := Op.load 3 (Operand.tmp 40), type := 3, pos := "ref.go:76", after := #[{ on := 5, ground := Ground.data }], guard := none }) (v := ?_) rfl (by kernel_rfl) (by kernel_rfl) (by kernel_rfl) (by kernel_rfl) (by kernel_rfl) (fun _ _ _ h => h) (Or.inl ⟨by rfl, ?_⟩) hHeld ?_
        rotate_left 1
        · intro u hSu
          obtain ⟨s0, s1⟩ := row_cells hSu.out.sb
          obtain ⟨q0, q1, q2, q3, q4⟩ := row5 (HROW.out _ (Lib.hid hSu.out.r))
          obtain ⟨z0, z1, z2⟩ := rd3_at (HRL.out _ (Lib.hid hSu.out.r)).1 HX.out
          go_simp
          first | done | with_reducible rfl
        (try simp only [Act.put, List.setIfInBounds_toArray, List.set_cons_zero, List.set_cons_succ])
        refine anyU_take (i := 8) (oi := { dst := some 43, op := Op.fieldAddr 38 (Operand.tmp 1) 3, type := 0, pos := "ref.go:76", after := #[], guard := none }) (v := ?_) rfl (by kernel_rfl) (by kernel_rfl) (by kernel_rfl) (by kernel_rfl) (by kernel_rfl) (fun _ _ _ h => h) (Or.inl ⟨by rfl, ?_⟩) hHeld ?_
        rotate_left 1
        · intro u hSu
          obtain ⟨s0, s1⟩ := row_cells hSu.out.sb
          obtain ⟨q0, q1, q2, q3, q4⟩ := row5 (HROW.out _ (Lib.hid hSu.out.r))
          obtain ⟨z0, z1, z2⟩ := rd3_at (HRL.out _ (Lib.hid hSu.out.r)).1 HX.out
          go_simp
          first | done | with_reducible rfl
        (try simp only [Act.put, List.setIfInBounds_toArray, List.set_cons_zero, List.set_cons_succ])
        refine anyU_take (i := 9) (oi := { dst := some 44, op := Op.load 35 (Operand.tmp 43), type := 35, pos := "ref.go:76", after := #[{ on := 8, ground := Ground.data }], guard := none }) (v := ?_) rfl (by kernel_rfl) (by kernel_rfl) (by kernel_rfl) (by kernel_rfl) (by kernel_rfl) (fun _ _ _ h => h) (Or.inl ⟨by rfl, ?_⟩) hHeld ?_
        rotate_left 1
        · intro u hSu
          obtain ⟨s0, s1⟩ := row_cells hSu.out.sb
          obtain ⟨q0, q1, q2, q3, q4⟩ := row5 (HROW.out _ (Lib.hid hSu.out.r))
          obtain ⟨z0, z1, z2⟩ := rd3_at (HRL.out _ (Lib.hid hSu.out.r)).1 HX.out
          go_simp
          first | done | with_reducible rfl
        (try simp only [Act.put, List.setIfInBounds_toArray, List.set_cons_zero, List.set_cons_succ])
        refine anyU_take (i := 10) (oi := { dst := some 45, op := Op.move (Operand.tmp 6), type := 3, pos := "ref.go:76", after := #[], guard := none }) (v := ?_) rfl (by kernel_rfl) (by kernel_rfl) (by kernel_rfl) (by kernel_rfl) (by kernel_rfl) (fun _ _ _ h => h) (Or.inl ⟨by rfl, ?_⟩) hHeld ?_
        rotate_left 1
        · intro u hSu
          obtain ⟨s0, s1⟩ := row_cells hSu.out.sb
          obtain ⟨q0, q1, q2, q3, q4⟩ := row5 (HROW.out _ (Lib.hid hSu.out.r))
          obtain ⟨z0, z1, z2⟩ := rd3_at (HRL.out _ (Lib.hid hSu.out.r)).1 HX.out
          go_simp
          first | done | with_reducible rfl
        (try simp only [Act.put, List.setIfInBounds_toArray, List.set_cons_zero, List.set_cons_succ])
        refine anyU_take (i := 11) (oi := { dst := some 46, op := Op.indexAddr 35 (Operand.tmp 44) (Operand.tmp 45), type := 0, pos := "ref.go:76", after := #[{ on := 9, ground := Ground.data }, { on := 10, ground := Ground.data }], guard := none }) (v := ?_) rfl (by kernel_rfl) (by kernel_rfl) (by kernel_rfl) (by kernel_rfl) (by kernel_rfl) (fun _ _ _ h => h) (Or.inl ⟨by rfl, ?_⟩) hHeld ?_
        rotate_left 1
        · intro u hSu
          obtain ⟨s0, s1⟩ := row_cells hSu.out.sb
          obtain ⟨q0, q1, q2, q3, q4⟩ := row5 (HROW.out _ (Lib.hid hSu.out.r))
          obtain ⟨z0, z1, z2⟩ := rd3_at (HRL.out _ (Lib.hid hSu.out.r)).1 HX.out
          go_simp
          first | done | with_reducible rfl
        (try simp only [Act.put, List.setIfInBounds_toArray, List.set_cons_zero, List.set_cons_succ])
        refine anyU_take (i := 12) (oi := { dst := some 47, op := Op.fieldAddr 73 (Operand.tmp 46) 1, type := 0, pos := "ref.go:76", after := #[{ on := 11, ground := Ground.data }], guard := none }) (v := ?_) rfl (by kernel_rfl) (by kernel_rfl) (by kernel_rfl) (by kernel_rfl) (by kernel_rfl) (fun _ _ _ h => h) (Or.inl ⟨by rfl, ?_⟩) hHeld ?_
        rotate_left 1
        · intro u hSu
          obtain ⟨s0, s1⟩ := row_cells hSu.out.sb
          obtain ⟨q0, q1, q2, q3, q4⟩ := row5 (HROW.out _ (Lib.hid hSu.out.r))
          obtain ⟨z0, z1, z2⟩ := rd3_at (HRL.out _ (Lib.hid hSu.out.r)).1 HX.out
          go_simp
          first | done | with_reducible rfl
        (try simp only [Act.put, List.setIfInBounds_toArray, List.set_cons_zero, List.set_cons_succ])
        refine anyU_take (i := 13) (oi := { dst := some 48, op := Op.load 3 (Operand.tmp 47), type := 3, pos := "ref.go:76", after := #[{ on := 12, ground := Ground.data }], guard := none }) (v := ?_) rfl (by kernel_rfl) (by kernel_rfl) (by kernel_rfl) (by kernel_rfl) (by kernel_rfl) (fun _ _ _ h => h) (Or.inl ⟨by rfl, ?_⟩) hHeld ?_
        rotate_left 1
        · intro u hSu
          obtain ⟨s0, s1⟩ := row_cells hSu.out.sb
          obtain ⟨q0, q1, q2, q3, q4⟩ := row5 (HROW.out _ (Lib.hid hSu.out.r))
          obtain ⟨z0, z1, z2⟩ := rd3_at (HRL.out _ (Lib.hid hSu.out.r)).1 HX.out
          go_simp
          first | done | with_reducible rfl
        (try simp only [Act.put, List.setIfInBounds_toArray, List.set_cons_zero, List.set_cons_succ])
        refine anyU_take (i := 15) (oi := { dst := some 50, op := Op.fieldAddr 38 (Operand.tmp 1) 3, type := 0, pos := "ref.go:76", after := #[], guard := none }) (v := ?_) rfl (by kernel_rfl) (by kernel_rfl) (by kernel_rfl) (by kernel_rfl) (by kernel_rfl) (fun _ _ _ h => h) (Or.inl ⟨by rfl, ?_⟩) hHeld ?_
        rotate_left 1
        · intro u hSu
          obtain ⟨s0, s1⟩ := row_cells hSu.out.sb
          obtain ⟨q0, q1, q2, q3, q4⟩ := row5 (HROW.out _ (Lib.hid hSu.out.r))
          obtain ⟨z0, z1, z2⟩ := rd3_at (HRL.out _ (Lib.hid hSu.out.r)).1 HX.out
          go_simp
          first | done | with_reducible rfl
        (try simp only [Act.put, List.setIfInBounds_toArray, List.set_cons_zero, List.set_cons_succ])
        refine anyU_take (i := 16) (oi := { dst := some 51, op := Op.load 35 (Operand.tmp 50), type := 35, pos := "ref.go:76", after := #[{ on := 15, ground := Ground.data }], guard := none }) (v := ?_) rfl (by kernel_rfl) (by kernel_rfl) (by kernel_rfl) (by kernel_rfl) (by kernel_rfl) (fun _ _ _ h => h) (Or.inl ⟨by rfl, ?_⟩) hHeld ?_
        rotate_left 1
        · intro u hSu
          obtain ⟨s0, s1⟩ := row_cells hSu.out.sb
          obtain ⟨q0, q1, q2, q3, q4⟩ := row5 (HROW.out _ (Lib.hid hSu.out.r))
          obtain ⟨z0, z1, z2⟩ := rd3_at (HRL.out _ (Lib.hid hSu.out.r)).1 HX.out
          go_simp
          first | done | with_reducible rfl
        (try simp only [Act.put, List.setIfInBounds_toArray, List.set_cons_zero, List.set_cons_succ])
        refine anyU_take (i := 17) (oi := { dst := some 52, op := Op.move (Operand.tmp 6), type := 3, pos := "ref.go:76", after := #[], guard := none }) (v := ?_) rfl (by kernel_rfl) (by kernel_rfl) (by kernel_rfl) (by kernel_rfl) (by kernel_rfl) (fun _ _ _ h => h) (Or.inl ⟨by rfl, ?_⟩) hHeld ?_
        rotate_left 1
        · intro u hSu
          obtain ⟨s0, s1⟩ := row_cells hSu.out.sb
          obtain ⟨q0, q1, q2, q3, q4⟩ := row5 (HROW.out _ (Lib.hid hSu.out.r))
          obtain ⟨z0, z1, z2⟩ := rd3_at (HRL.out _ (Lib.hid hSu.out.r)).1 HX.out
          go_simp
          first | done | with_reducible rfl
        (try simp only [Act.put, List.setIfInBounds_toArray, List.set_cons_zero, List.set_cons_succ])
        refine anyU_take (i := 18) (oi := { dst := some 53, op := Op.indexAddr 35 (Operand.tmp 51) (Operand.tmp 52), type := 0, pos := "ref.go:76", after := #[{ on := 16, ground := Ground.data }, { on := 17, ground := Ground.data }], guard := none }) (v := ?_) rfl (by kernel_rfl) (by kernel_rfl) (by kernel_rfl) (by kernel_rfl) (by kernel_rfl) (fun _ _ _ h => h) (Or.inl ⟨by rfl, ?_⟩) hHeld ?_
        rotate_left 1
        · intro u hSu
          obtain ⟨s0, s1⟩ := row_cells hSu.out.sb
          obtain ⟨q0, q1, q2, q3, q4⟩ := row5 (HROW.out _ (Lib.hid hSu.out.r))
          obtain ⟨z0, z1, z2⟩ := rd3_at (HRL.out _ (Lib.hid hSu.out.r)).1 HX.out
          go_simp
          first | done | with_reducible rfl
        (try simp only [Act.put, List.setIfInBounds_toArray, List.set_cons_zero, List.set_cons_succ])
        refine anyU_take (i := 19) (oi := { dst := some 54, op := Op.fieldAddr 73 (Operand.tmp 53) 2, type := 0, pos := "ref.go:76", after := #[{ on := 18, ground := Ground.data }], guard := none }) (v := ?_) rfl (by kernel_rfl) (by kernel_rfl) (by kernel_rfl) (by kernel_rfl) (by kernel_rfl) (fun _ _ _ h => h) (Or.inl ⟨by rfl, ?_⟩) hHeld ?_
        rotate_left 1
        · intro u hSu
          obtain ⟨s0, s1⟩ := row_cells hSu.out.sb
          obtain ⟨q0, q1, q2, q3, q4⟩ := row5 (HROW.out _ (Lib.hid hSu.out.r))
          obtain ⟨z0, z1, z2⟩ := rd3_at (HRL.out _ (Lib.hid hSu.out.r)).1 HX.out
          go_simp
          first | done | with_reducible rfl
        (try simp only [Act.put, List.setIfInBounds_toArray, List.set_cons_zero, List.set_cons_succ])
        refine anyU_take (i := 20) (oi := { dst := some 55, op := Op.load 3 (Operand.tmp 54), type := 3, pos := "ref.go:76", after := #[{ on := 19, ground := Ground.data }], guard := none }) (v := ?_) rfl (by kernel_rfl) (by kernel_rfl) (by kernel_rfl) (by kernel_rfl) (by kernel_rfl) (fun _ _ _ h => h) (Or.inl ⟨by rfl, ?_⟩) hHeld ?_
        rotate_left 1
        · intro u hSu
          obtain ⟨s0, s1⟩ := row_cells hSu.out.sb
          obtain ⟨q0, q1, q2, q3, q4⟩ := row5 (HROW.out _ (Lib.hid hSu.out.r))
          obtain ⟨z0, z1, z2⟩ := rd3_at (HRL.out _ (Lib.hid hSu.out.r)).1 HX.out
          go_simp
          first | done | with_reducible rfl
        (try simp only [Act.put, List.setIfInBounds_toArray, List.set_cons_zero, List.set_cons_succ])
        refine anyU_ready (rs := [7]) (by kernel_rfl) (by simp) ?_
        refine EachU.cons (o := { dst := some 42, op := Op.call { callee := Callee.value (Operand.func 91), args := #[Operand.tmp 35, Operand.tmp 41, Operand.const (Value.int IntKind.i64 7)], argTypes := #[123, 3, 3] }, type := 123, pos := "ref.go:76", after := #[{ on := 0, ground := Ground.data }, { on := 6, ground := Ground.data }], guard := none }) rfl (fun Kz hK => ?_) EachU.nil
        go_simp
        go_at_call 91
        refine (HCa.out _ p c hHeld.out.br).mono ?_
        rintro e w5 ⟨p1, c1, rfl, hR, hp, hg⟩
        have hHn := Lib.hid (hHeld.out.keep hg)
        have HR1 := Lib.hid (BR.mk hR hp)
        clear hR hp hg
        refine hK.out _ _ (fun _ => hHn) (fun hH2 => ?_)
        clear hK Kz hHeld
        have hHeld := hH2 rfl
        clear hH2
        (try simp only [Act.put, List.setIfInBounds_toArray, List.set_cons_zero, List.set_cons_succ])
        refine anyU_ready (rs := [14]) (by kernel_rfl) (by simp) ?_
        refine EachU.cons (o := { dst := some 49, op := Op.call { callee := Callee.value (Operand.func 91), args := #[Operand.tmp 42, Operand.tmp 48, Operand.const (Value.int IntKind.i64 10)], argTypes := #[123, 3, 3] }, type := 123, pos := "ref.go:76", after := #[{ on := 7, ground := Ground.data }, { on := 13, ground := Ground.data }, { on := 7, ground := Ground.chain }], guard := none }) rfl (fun Kz hK => ?_) EachU.nil
        go_simp
        go_at_call 91
        refine (HCb.out _ p1 c1 HR1.out).mono ?_
        rintro e w5 ⟨p2, c2, rfl, hR, hp, hg⟩
        have hHn := Lib.hid (hHeld.out.keep hg)
        have HR2 := Lib.hid (BR.mk hR hp)
        clear hR hp hg
        refine hK.out _ _ (fun _ => hHn) (fun hH2 => ?_)
        clear hK Kz hHeld
        have hHeld := hH2 rfl
        clear hH2
        (try simp only [Act.put, List.setIfInBounds_toArray, List.set_cons_zero, List.set_cons_succ])
        refine anyU_ready (rs := [21]) (by kernel_rfl) (by simp) ?_
        refine EachU.cons (o := { dst := some 56, op := Op.call { callee := Callee.value (Operand.func 91), args := #[Operand.tmp 49, Operand.tmp 55, Operand.const (Value.int IntKind.i64 10)], argTypes := #[123, 3, 3] }, type := 123, pos := "ref.go:76", after := #[{ on := 14, ground := Ground.data }, { on := 20, ground := Ground.data }, { on := 14, ground := Ground.chain }], guard := none }) rfl (fun Kz hK => ?_) EachU.nil
        go_simp
        go_at_call 91
        refine (HCc.out _ p2 c2 HR2.out).mono ?_
        rintro e w5 ⟨p3, c3, rfl, hR, hp, hg⟩
        have hHn := Lib.hid (hHeld.out.keep hg)
        have HR3 := Lib.hid (BR.mk hR hp)
        clear hR hp hg
        refine hK.out _ _ (fun _ => hHn) (fun hH2 => ?_)
        clear hK Kz hHeld
        have hHeld := hH2 rfl
        clear hH2
        (try simp only [Act.put, List.setIfInBounds_toArray, List.set_cons_zero, List.set_cons_succ])
        refine anyU_ready (rs := [22]) (by kernel_rfl) (by simp) ?_
        refine EachU.cons (o := { dst := none, op := Op.store 123 (Operand.tmp 5) (Operand.tmp 56), type := 0, pos := "ref.go:76", after := #[{ on := 21, ground := Ground.data }, { on := 21, ground := Ground.chain }, { on := 0, ground := Ground.phase }, { on := 1, ground := Ground.phase }, { on := 2, ground := Ground.phase }, { on := 3, ground := Ground.phase }, { on := 4, ground := Ground.phase }, { on := 5, ground := Ground.phase }, { on := 6, ground := Ground.phase }, { on := 7, ground := Ground.phase }, { on := 8, ground := Ground.phase }, { on := 9, ground := Ground.phase }, { on := 10, ground := Ground.phase }, { on := 11, ground := Ground.phase }, { on := 12, ground := Ground.phase }, { on := 13, ground := Ground.phase }, { on := 14, ground := Ground.phase }, { on := 15, ground := Ground.phase }, { on := 16, ground := Ground.phase }, { on := 17, ground := Ground.phase }, { on := 18, ground := Ground.phase }, { on := 19, ground := Ground.phase }, { on := 20, ground := Ground.phase }, { on := 21, ground := Ground.phase }], guard := none }) rfl (fun Kz hK => ?_) EachU.nil
        obtain ⟨s0, s1⟩ := row_cells hHeld.out.sb
        have f0 := frozen_of_row _ _ 0 _ _ hHeld.out.sb
        have f1 := frozen_of_row _ _ 1 _ _ hHeld.out.sb
        have HE := Lib.hid (re_put hHeld.out.r hHeld.out.sb HR3.out hHeld.out.lt)
        go_simp
        refine hK.out _ _ (fun h => by cases h) (fun _ => ?_)
        clear hK Kz
        (try simp only [Act.put, List.setIfInBounds_toArray, List.set_cons_zero, List.set_cons_succ])
        refine anyU_done (by kernel_rfl) ?_ _
        clear hHeld s0 s1 f0 f1
        go_wp2_with fail
        exact ⟨⟨k + 1, by omega, congrArg _ (by omega), _, _, by rw [HB3.out]; exact HE⟩, by simp only [RowKit.intOf]; omega⟩
      · obtain rfl : k = L.length := by omega
        go_wp2_with fail
        go_meet
        exact ⟨p, c, HK⟩
  case rest =>
  obtain ⟨p5, c5, HK⟩ := hcut
  clear H3
  obtain ⟨c0, c1, c2, c3, c4⟩ := row5 (HROW.out wc (Lib.hid HK.out.r))
  obtain ⟨s0, s1⟩ := row_cells HK.out.sb
  obtain ⟨B, hB⟩ : ∃ B, lkB A L.length = B := ⟨_, rfl⟩
  have hlB : B.length ≤ 700 := by rw [← hB, lkB_len, List.length_take]; have := HVA.out.ll; omega
  obtain ⟨B1, hB1⟩ : ∃ B1, B1 = B ++ nb ((C.length : Nat) : Int).toNat 4 := ⟨_, rfl⟩
  have HC := put_next ((C.length : Nat) : Int) 4 hB1 (by omega) (by rw [Int.toNat_natCast]; omega) (by decide) (by omega)
  have HB1 : Hid (mdB A = B1) := Lib.hid (by unfold mdB; rw [HLL.out.1, HLL.out.2.1, hB, hB1]; rfl)
  rw [hB] at HK s0 s1
  clear hB hB1 hlB
  go_wp2_with fail
  refine (HC.out _ p5 c5 HK.out.br).mono ?_
  rintro e w6 ⟨p6, c6, rfl, hR, hp, hg⟩
  have H6 := Lib.hid (HK.out.keep hg)
  have HR6 := Lib.hid (BR.mk hR hp)
  clear hR hp hg HK c0 c1 c2 c3 c4 s0 s1
  obtain ⟨s0, s1⟩ := row_cells H6.out.sb
  have f0 := frozen_of_row _ _ 0 _ _ H6.out.sb
  have f1 := frozen_of_row _ _ 1 _ _ H6.out.sb
  have H7 := Lib.hid (re_put H6.out.r H6.out.sb HR6.out H6.out.lt)
  go_upto_region 12 with fail
  clear s0 s1 f0 f1 H6 HR6
  generalize (w6.setCell _ _).setCell _ _ = w7 at *
  go_upto_block 2 with fail
  go_cut [] from 62 to 91 (fun wx => ∃ p c, Hid (RE w w.heap.size S A (cmB A C.length) p c wx))
  case first =>
    go_wp2_with fail
    go_loopw [7] (fun i wr => ∃ k : Nat, k ≤ C.length ∧ i = .int .i64 (k : Int) ∧ ∃ p c, Hid (RE w w.heap.size S A (cmB A k) p c wr)) (fun i _ => C.length - (RowKit.intOf i).toNat)
    case atStart => exact ⟨0, Nat.zero_le _, rfl, p6, c6, by rw [show cmB A 0 = B1 by rw [← HB1.out]; unfold cmB; simp]; exact H7⟩
    case round =>
      obtain ⟨k, hk, rfl, p, c, HK⟩ := hrel
      clear H7
      obtain ⟨c0, c1, c2, c3, c4⟩ := row5 (HROW.out wr (Lib.hid HK.out.r))
      by_cases hlt : k < C.length
      · have hlti : (k : Int) < (C.length : Int) := by omega
        obtain ⟨-, b, off, rfl, -, -⟩ := rd3_cells (HRL.out wr (Lib.hid HK.out.r)).2 (by omega)
        obtain ⟨x, hx⟩ : ∃ x, C[k]? = some x := ⟨_, List.getElem?_eq_getElem hlt⟩
        have HX := Lib.hid hx
        have hxA : A.C[k]? = some x := by rw [HLL.out.2.1]; exact hx
        have hxb := HVA.out.C x (List.mem_of_getElem? hxA)
        have HVC : Hid (vl x.c = true) := Lib.hid (by rw [vl_dec]; exact decide_eq_true hxb.2.2)
        have hlc := lcode_lt x.c
        obtain ⟨B, hB⟩ : ∃ B, cmB A k = B := ⟨_, rfl⟩
        have hlB : B.length ≤ 800 := by rw [← hB, cmB_len, List.length_take]; have := HVA.out.ll; have := HVA.out.cl; omega
        obtain ⟨B1, hB1⟩ : ∃ B1, B1 = B ++ nb x.a.toNat 3 := ⟨_, rfl⟩
        have hl1 : B1.length ≤ 803 := by rw [hB1, List.length_append, nb_len]; omega
        obtain ⟨B2, hB2⟩ : ∃ B2, B2 = B1 ++ nb x.b.toNat 9 := ⟨_, rfl⟩
        have hl2 : B2.length ≤ 812 := by rw [hB2, List.length_append, nb_len]; omega
        obtain ⟨B3, hB3⟩ : ∃ B3, B3 = B2 ++ nb ((lcode x.c : Nat) : Int).toNat 2 := ⟨_, rfl⟩
        have HB3 : Hid (cmB A (k + 1) = B3) := Lib.hid (by rw [cmB_step hxA, hB, hB3, hB2, hB1]; rfl)
        have HCa := put_next x.a 3 hB1 (by omega) (by omega) (by decide) (by omega)
        have HCb := put_next x.b 9 hB2 (by omega) (by omega) (by decide) (by omega)
        have HCc := put_next ((lcode x.c : Nat) : Int) 2 hB3 (by omega) (by rw [Int.toNat_natCast]; omega) (by decide) (by omega)
        rw [hB] at HK
        clear hx hxA hxb hB hB1 hB2 hB3 hlB hl1 hl2 hlc
        go_upto_region 15 with fail
        clear c0 c1 c2 c3 c4
        have HD := Lib.hid (HK.out.keep (grown_drew (grown_refl wr none)))
        clear HK
        refine region_until (S := fun w' => Hid (RE w w.heap.size S A B p c w')) (fun j => j == 23) (by kernel_rfl) (HD) (fun hHeld => ?_)
        refine anyU_take (i := 0) (oi := { dst := some 69, op := Op.load 123 (Operand.tmp 5), type := 123, pos := "ref.go:80", after := #[], guard := none }) (v := ?_) rfl (by kernel_rfl) (by kernel_rfl) (by kernel_rfl) (by kernel_rfl) (by kernel_rfl) (fun _ _ _ h => h) (Or.inl ⟨by rfl, ?_⟩) hHeld ?_
        rotate_left 1
        · intro u hSu
          obtain ⟨s0, s1⟩ := row_cells hSu.out.sb
          obtain ⟨q0, q1, q2, q3, q4⟩ := row5 (HROW.out _ (Lib.hid hSu.out.r))
          obtain ⟨z0, z1, z2⟩ := rd3_at (HRL.out _ (Lib.hid hSu.out.r)).2 HX.out
          go_simp
          first | done | with_reducible rfl
        (try simp only [Act.put, List.setIfInBounds_toArray, List.set_cons_zero, List.set_cons_succ])
        refine anyU_take (i := 1) (oi := { dst := some 70, op := Op.fieldAddr 38 (Operand.tmp 1) 4, type := 0, pos := "ref.go:80", after := #[], guard := none }) (v := ?_) rfl (by kernel_rfl) (by kernel_rfl) (by kernel_rfl) (by kernel_rfl) (by kernel_rfl) (fun _ _ _ h => h) (Or.inl ⟨by rfl, ?_⟩) hHeld ?_
        rotate_left 1
        · intro u hSu
          obtain ⟨s0, s1⟩ := row_cells hSu.out.sb
          obtain ⟨q0, q1, q2, q3, q4⟩ := row5 (HROW.out _ (Lib.hid hSu.out.r))
          obtain ⟨z0, z1, z2⟩ := rd3_at (HRL.out _ (Lib.hid hSu.out.r)).2 HX.out
          go_simp
          first | done | with_reducible rfl
        (try simp only [Act.put, List.setIfInBounds_toArray, List.set_cons_zero, List.set_cons_succ])
        refine anyU_take (i := 2) (oi := { dst := some 71, op := Op.load 36 (Operand.tmp 70), type := 36, pos := "ref.go:80", after := #[{ on := 1, ground := Ground.data }], guard := none }) (v := ?_) rfl (by kernel_rfl) (by kernel_rfl) (by kernel_rfl) (by kernel_rfl) (by kernel_rfl) (fun _ _ _ h => h) (Or.inl ⟨by rfl, ?_⟩) hHeld ?_
        rotate_left 1
        · intro u hSu
          obtain ⟨s0, s1⟩ := row_cells hSu.out.sb
          obtain ⟨q0, q1, q2, q3, q4⟩ := row5 (HROW.out _ (Lib.hid hSu.out.r))
          obtain ⟨z0, z1, z2⟩ := rd3_at (HRL.out _ (Lib.hid hSu.out.r)).2 HX.out
          go_simp
          first | done | with_reducible rfl
        (try simp only [Act.put, List.setIfInBounds_toArray, List.set_cons_zero, List.set_cons_succ])
        refine anyU_take (i := 3) (oi := { dst := some 72, op := Op.move (Operand.tmp 7), type := 3, pos := "ref.go:80", after := #[], guard := none }) (v := ?_) rfl (by kernel_rfl) (by kernel_rfl) (by kernel_rfl) (by kernel_rfl) (by kernel_rfl) (fun _ _ _ h => h) (Or.inl ⟨by rfl, ?_⟩) hHeld ?_
        rotate_left 1
        · intro u hSu
          obtain ⟨s0, s1⟩ := row_cells hSu.out.sb
          obtain ⟨q0, q1, q2, q3, q4⟩ := row5 (HROW.out _ (Lib.hid hSu.out.r))
          obtain ⟨z0, z1, z2⟩ := rd3_at (HRL.out _ (Lib.hid hSu.out.r)).2 HX.out
          go_simp
          first | done | with_reducible rfl
        (try simp only [Act.put, List.setIfInBounds_toArray, List.set_cons_zero, List.set_cons_succ])
        refine anyU_take (i := 4) (oi := { dst := some 73, op := Op.indexAddr 36 (Operand.tmp 71) (Operand.tmp 72), type := 0, pos := "ref.go:80", after := #[{ on := 2, ground := Ground.data }, { on := 3, ground := Ground.data }], guard := none }) (v := ?_) rfl (by kernel_rfl) (by kernel_rfl) (by kernel_rfl) (by kernel_rfl) (by kernel_rfl) (fun _ _ _ h => h) (Or.inl ⟨by rfl, ?_⟩) hHeld ?_
        rotate_left 1
        · intro u hSu
          obtain ⟨s0, s1⟩ := row_cells hSu.out.sb
          obtain ⟨q0, q1, q2, q3, q4⟩ := row5 (HROW.out _ (Lib.hid hSu.out.r))
          obtain ⟨z0, z1, z2⟩ := rd3_at (HRL.out _ (Lib.hid hSu.out.r)).2 HX.out
          go_simp
          first | done | with_reducible rfl
        (try simp only [Act.put, List.setIfInBounds_toArray, List.set_cons_zero, List.set_cons_succ])
        refine anyU_take (i := 5) (oi := { dst := some 74, op := Op.fieldAddr 62 (Operand.tmp 73) 0, type := 0, pos := "ref.go:80", after := #[{ on := 4, ground := Ground.data }], guard := none }) (v := ?_) rfl (by kernel_rfl) (by kernel_rfl) (by kernel_rfl) (by kernel_rfl) (by kernel_rfl) (fun _ _ _ h => h) (Or.inl ⟨by rfl, ?_⟩) hHeld ?_
        rotate_left 1
        · intro u hSu
          obtain ⟨s0, s1⟩ := row_cells hSu.out.sb
          obtain ⟨q0, q1, q2, q3, q4⟩ := row5 (HROW.out _ (Lib.hid hSu.out.r))
          obtain ⟨z0, z1, z2⟩ := rd3_at (HRL.out _ (Lib.hid hSu.out.r)).2 HX.out
          go_simp
          first | done | with_reducible rfl
        (try simp only [Act.put, List.setIfInBounds_toArray, List.set_cons_zero, List.set_cons_succ])
        refine anyU_take (i := 6) (oi := { dst := some 75, op := Op.load 3 (Operand.tmp 74), type := 3, pos := "ref.go:80", after := #[{ on := 5, ground := Ground.data }], guard := none }) (v := ?_) rfl (by kernel_rfl) (by kernel_rfl) (by kernel_rfl) (by kernel_rfl) (by kernel_rfl) (fun _ _ _ h => h) (Or.inl ⟨by rfl, ?_⟩) hHeld ?_
        rotate_left 1
        · intro u hSu
          obtain ⟨s0, s1⟩ := row_cells hSu.out.sb
          obtain ⟨q0, q1, q2, q3, q4⟩ := row5 (HROW.out _ (Lib.hid hSu.out.r))
          obtain ⟨z0, z1, z2⟩ := rd3_at (HRL.out _ (Lib.hid hSu.out.r)).2 HX.out
          go_simp
          first | done | with_reducible rfl
        (try simp only [Act.put, List.setIfInBounds_toArray, List.set_cons_zero, List.set_cons_succ])
        refine anyU_take (i := 8) (oi := { dst := some 77, op := Op.fieldAddr 38 (Operand.tmp 1) 4, type := 0, pos := "ref.go:80", after := #[], guard := none }) (v := ?_) rfl (by kernel_rfl) (by kernel_rfl) (by kernel_rfl) (by kernel_rfl) (by kernel_rfl) (fun _ _ _ h => h) (Or.inl ⟨by rfl, ?_⟩) hHeld ?_
        rotate_left 1
        · intro u hSu
          obtain ⟨s0, s1⟩ := row_cells hSu.out.sb
          obtain ⟨q0, q1, q2, q3, q4⟩ := row5 (HROW.out _ (Lib.hid hSu.out.r))
          obtain ⟨z0, z1, z2⟩ := rd3_at (HRL.out _ (Lib.hid hSu.out.r)).2 HX.out
          go_simp
          first | done | with_reducible rfl
        (try simp only [Act.put, List.setIfInBounds_toArray, List.set_cons_zero, List.set_cons_succ])
        refine anyU_take (i := 9) (oi := { dst := some 78, op := Op.load 36 (Operand.tmp 77), type := 36, pos := "ref.go:80", after := #[{ on := 8, ground := Ground.data }], guard := none }) (v := ?_) rfl (by kernel_rfl) (by kernel_rfl) (by kernel_rfl) (by kernel_rfl) (by kernel_rfl) (fun _ _ _ h => h) (Or.inl ⟨by rfl, ?_⟩) hHeld ?_
        rotate_left 1
        · intro u hSu
          obtain ⟨s0, s1⟩ := row_cells hSu.out.sb
          obtain ⟨q0, q1, q2, q3, q4⟩ := row5 (HROW.out _ (Lib.hid hSu.out.r))
          obtain ⟨z0, z1, z2⟩ := rd3_at (HRL.out _ (Lib.hid hSu.out.r)).2 HX.out
          go_simp
          first | done | with_reducible rfl
        (try simp only [Act.put, List.setIfInBounds_toArray, List.set_cons_zero, List.set_cons_succ])
        refine anyU_take (i := 10) (oi := { dst := some 79, op := Op.move (Operand.tmp 7), type := 3, pos := "ref.go:80", after := #[], guard := none }) (v := ?_) rfl (by kernel_rfl) (by kernel_rfl) (by kernel_rfl) (by kernel_rfl) (by kernel_rfl) (fun _ _ _ h => h) (Or.inl ⟨by rfl, ?_⟩) hHeld ?_
        rotate_left 1
        · intro u hSu
          obtain ⟨s0, s1⟩ := row_cells hSu.out.sb
          obtain ⟨q0, q1, q2, q3, q4⟩ := row5 (HROW.out _ (Lib.hid hSu.out.r))
          obtain ⟨z0, z1, z2⟩ := rd3_at (HRL.out _ (Lib.hid hSu.out.r)).2 HX.out
          go_simp
          first | done | with_reducible rfl
        (try simp only [Act.put, List.setIfInBounds_toArray, List.set_cons_zero, List.set_cons_succ])
        refine anyU_take (i := 11) (oi := { dst := some 80, op := Op.indexAddr 36 (Operand.tmp 78) (Operand.tmp 79), type := 0, pos := "ref.go:80", after := #[{ on := 9, ground := Ground.data }, { on := 10, ground := Ground.data }], guard := none }) (v := ?_) rfl (by kernel_rfl) (by kernel_rfl) (by kernel_rfl) (by kernel_rfl) (by kernel_rfl) (fun _ _ _ h => h) (Or.inl ⟨by rfl, ?_⟩) hHeld ?_
        rotate_left 1
        · intro u hSu
          obtain ⟨s0, s1⟩ := row_cells hSu.out.sb
          obtain ⟨q0, q1, q2, q3, q4⟩ := row5 (HROW.out _ (Lib.hid hSu.out.r))
          obtain ⟨z0, z1, z2⟩ := rd3_at (HRL.out _ (Lib.hid hSu.out.r)).2 HX.out
          go_simp
          first | done | with_reducible rfl
        (try simp only [Act.put, List.setIfInBounds_toArray, List.set_cons_zero, List.set_cons_succ])
        refine anyU_take (i := 12) (oi := { dst := some 81, op := Op.fieldAddr 62 (Operand.tmp 80) 1, type := 0, pos := "ref.go:80", after := #[{ on := 11, ground := Ground.data }], guard := none }) (v := ?_) rfl (by kernel_rfl) (by kernel_rfl) (by kernel_rfl) (by kernel_rfl) (by kernel_rfl) (fun _ _ _ h => h) (Or.inl ⟨by rfl, ?_⟩) hHeld ?_
        rotate_left 1
        · intro u hSu
          obtain ⟨s0, s1⟩ := row_cells hSu.out.sb
          obtain ⟨q0, q1, q2, q3, q4⟩ := row5 (HROW.out _ (Lib.hid hSu.out.r))
          obtain ⟨z0, z1, z2⟩ := rd3_at (HRL.out _ (Lib.hid hSu.out.r)).2 HX.out
          go_simp
          first | done | with_reducible rfl
        (try simp only [Act.put, List.setIfInBounds_toArray, List.set_cons_zero, List.set_cons_succ])
        refine anyU_take (i := 13) (oi := { dst := some 82, op := Op.load 3 (Operand.tmp 81), type := 3, pos := "ref.go:80", after := #[{ on := 12, ground := Ground.data }], guard := none }) (v := ?_) rfl (by kernel_rfl) (by kernel_rfl) (by kernel_rfl) (by kernel_rfl) (by kernel_rfl) (fun _ _ _ h => h) (Or.inl ⟨by rfl, ?_⟩) hHeld ?_
        rotate_left 1
        · intro u hSu
          obtain ⟨s0, s1⟩ := row_cells hSu.out.sb
          obtain ⟨q0, q1, q2, q3, q4⟩ := row5 (HROW.out _ (Lib.hid hSu.out.r))
          obtain ⟨z0, z1, z2⟩ := rd3_at (HRL.out _ (Lib.hid hSu.out.r)).2 HX.out
          go_simp
          first | done | with_reducible rfl
        (try simp only [Act.put, List.setIfInBounds_toArray, List.set_cons_zero, List.set_cons_succ])
        refine anyU_take (i := 15) (oi := { dst := some 84, op := Op.fieldAddr 38 (Operand.tmp 1) 4, type := 0, pos := "ref.go:80", after := #[], guard := none }) (v := ?_) rfl (by kernel_rfl) (by kernel_rfl) (by kernel_rfl) (by kernel_rfl) (by kernel_rfl) (fun _ _ _ h => h) (Or.inl ⟨by rfl, ?_⟩) hHeld ?_
        rotate_left 1
        · intro u hSu
          obtain ⟨s0, s1⟩ := row_cells hSu.out.sb
          obtain ⟨q0, q1, q2, q3, q4⟩ := row5 (HROW.out _ (Lib.hid hSu.out.r))
          obtain ⟨z0, z1, z2⟩ := rd3_at (HRL.out _ (Lib.hid hSu.out.r)).2 HX.out
          go_simp
          first | done | with_reducible rfl
        (try simp only [Act.put, List.setIfInBounds_toArray, List.set_cons_zero, List.set_cons_succ])
        refine anyU_take (i := 16) (oi := { dst := some 85, op := Op.load 36 (Operand.tmp 84), type := 36, pos := "ref.go:80", after := #[{ on := 15, ground := Ground.data }], guard := none }) (v := ?_) rfl (by kernel_rfl) (by kernel_rfl) (by kernel_rfl) (by kernel_rfl) (by kernel_rfl) (fun _ _ _ h => h) (Or.inl ⟨by rfl, ?_⟩) hHeld ?_
        rotate_left 1
        · intro u hSu
          obtain ⟨s0, s1⟩ := row_cells hSu.out.sb
          obtain ⟨q0, q1, q2, q3, q4⟩ := row5 (HROW.out _ (Lib.hid hSu.out.r))
          obtain ⟨z0, z1, z2⟩ := rd3_at (HRL.out _ (Lib.hid hSu.out.r)).2 HX.out
          go_simp
          first | done | with_reducible rfl
        (try simp only [Act.put, List.setIfInBounds_toArray, List.set_cons_zero, List.set_cons_succ])
        refine anyU_take (i := 17) (oi := { dst := some 86, op := Op.move (Operand.tmp 7), type := 3, pos := "ref.go:80", after := #[], guard := none }) (v := ?_) rfl (by kernel_rfl) (by kernel_rfl) (by kernel_rfl) (by kernel_rfl) (by kernel_rfl) (fun _ _ _ h => h) (Or.inl ⟨by rfl, ?_⟩) hHeld ?_
        rotate_left 1
        · intro u hSu
          obtain ⟨s0, s1⟩ := row_cells hSu.out.sb
          obtain ⟨q0, q1, q2, q3, q4⟩ := row5 (HROW.out _ (Lib.hid hSu.out.r))
          obtain ⟨z0, z1, z2⟩ := rd3_at (HRL.out _ (Lib.hid hSu.out.r)).2 HX.out
          go_simp
          first | done | with_reducible rfl
        (try simp only [Act.put, List.setIfInBounds_toArray, List.set_cons_zero, List.set_cons_succ])
        refine anyU_take (i := 18) (oi := { dst := some 87, op := Op.indexAddr 36 (Operand.tmp 85) (Operand.tmp 86), type := 0, pos := "ref.go:80", after := #[{ on := 16, ground := Ground.data }, { on := 17, ground := Ground.data }], guard := none }) (v := ?_) rfl (by kernel_rfl) (by kernel_rfl) (by kernel_rfl) (by kernel_rfl) (by kernel_rfl) (fun _ _ _ h => h) (Or.inl ⟨by rfl, ?_⟩) hHeld ?_
        rotate_left 1
        · intro u hSu
          obtain ⟨s0, s1⟩ := row_cells hSu.out.sb
          obtain ⟨q0, q1, q2, q3, q4⟩ := row5 (HROW.out _ (Lib.hid hSu.out.r))
          obtain ⟨z0, z1, z2⟩ := rd3_at (HRL.out _ (Lib.hid hSu.out.r)).2 HX.out
          go_simp
          first | done | with_reducible rfl
        (try simp only [Act.put, List.setIfInBounds_toArray, List.set_cons_zero, List.set_cons_succ])
        refine anyU_take (i := 19) (oi := { dst := some 88, op := Op.fieldAddr 62 (Operand.tmp 87) 2, type := 0, pos := "ref.go:80", after := #[{ on := 18, ground := Ground.data }], guard := none }) (v := ?_) rfl (by kernel_rfl) (by kernel_rfl) (by kernel_rfl) (by kernel_rfl) (by kernel_rfl) (fun _ _ _ h => h) (Or.inl ⟨by rfl, ?_⟩) hHeld ?_
        rotate_left 1
        · intro u hSu
          obtain ⟨s0, s1⟩ := row_cells hSu.out.sb
          obtain ⟨q0, q1, q2, q3, q4⟩ := row5 (HROW.out _ (Lib.hid hSu.out.r))
          obtain ⟨z0, z1, z2⟩ := rd3_at (HRL.out _ (Lib.hid hSu.out.r)).2 HX.out
          go_simp
          first | done | with_reducible rfl
        (try simp only [Act.put, List.setIfInBounds_toArray, List.set_cons_zero, List.set_cons_succ])
        refine anyU_take (i := 20) (oi := { dst := some 89, op := Op.load 3 (Operand.tmp 88), type := 3, pos := "ref.go:80", after := #[{ on := 19, ground := Ground.data }], guard := none }) (v := ?_) rfl (by kernel_rfl) (by kernel_rfl) (by kernel_rfl) (by kernel_rfl) (by kernel_rfl) (fun _ _ _ h => h) (Or.inl ⟨by rfl, ?_⟩) hHeld ?_
        rotate_left 1
        · intro u hSu
          obtain ⟨s0, s1⟩ := row_cells hSu.out.sb
          obtain ⟨q0, q1, q2, q3, q4⟩ := row5 (HROW.out _ (Lib.hid hSu.out.r))
          obtain ⟨z0, z1, z2⟩ := rd3_at (HRL.out _ (Lib.hid hSu.out.r)).2 HX.out
          go_simp
          first | done | with_reducible rfl
        (try simp only [Act.put, List.setIfInBounds_toArray, List.set_cons_zero, List.set_cons_succ])
        refine anyU_ready (rs := [7]) (by kernel_rfl) (by simp) ?_
        refine EachU.cons (o := { dst := some 76, op := Op.call { callee := Callee.value (Operand.func 91), args := #[Operand.tmp 69, Operand.tmp 75, Operand.const (Value.int IntKind.i64 3)], argTypes := #[123, 3, 3] }, type := 123, pos := "ref.go:80", after := #[{ on := 0, ground := Ground.data }, { on := 6, ground := Ground.data }], guard := none }) rfl (fun Kz hK => ?_) EachU.nil
        go_simp
        go_at_call 91
        refine (HCa.out _ p c hHeld.out.br).mono ?_
        rintro e w5 ⟨p1, c1, rfl, hR, hp, hg⟩
        have hHn := Lib.hid (hHeld.out.keep hg)
        have HR1 := Lib.hid (BR.mk hR hp)
        clear hR hp hg
        refine hK.out _ _ (fun _ => hHn) (fun hH2 => ?_)
        clear hK Kz hHeld
        have hHeld := hH2 rfl
        clear hH2
        (try simp only [Act.put, List.setIfInBounds_toArray, List.set_cons_zero, List.set_cons_succ])
        refine anyU_ready (rs := [14]) (by kernel_rfl) (by simp) ?_
        refine EachU.cons (o := { dst := some 83, op := Op.call { callee := Callee.value (Operand.func 91), args := #[Operand.tmp 76, Operand.tmp 82, Operand.const (Value.int IntKind.i64 9)], argTypes := #[123, 3, 3] }, type := 123, pos := "ref.go:80", after := #[{ on := 7, ground := Ground.data }, { on := 13, ground := Ground.data }, { on := 7, ground := Ground.chain }], guard := none }) rfl (fun Kz hK => ?_) EachU.nil
        go_simp
        go_at_call 91
        refine (HCb.out _ p1 c1 HR1.out).mono ?_
        rintro e w5 ⟨p2, c2, rfl, hR, hp, hg⟩
        have hHn := Lib.hid (hHeld.out.keep hg)
        have HR2 := Lib.hid (BR.mk hR hp)
        clear hR hp hg
        refine hK.out _ _ (fun _ => hHn) (fun hH2 => ?_)
        clear hK Kz hHeld
        have hHeld := hH2 rfl
        clear hH2
        (try simp only [Act.put, List.setIfInBounds_toArray, List.set_cons_zero, List.set_cons_succ])
        refine anyU_ready (rs := [21]) (by kernel_rfl) (by simp) ?_
        refine EachU.cons (o := { dst := some 90, op := Op.call { callee := Callee.value (Operand.func 92), args := #[Operand.tmp 89], argTypes := #[3] }, type := 3, pos := "ref.go:80", after := #[{ on := 20, ground := Ground.data }, { on := 14, ground := Ground.chain }], guard := none }) rfl (fun Kz hK => ?_) EachU.nil
        go_simp
        go_at_call 92
        refine (coder_any x.c HVC.out _).mono ?_
        rintro e w5 ⟨rfl, rfl⟩
        refine hK.out _ _ (fun _ => hHeld) (fun hH2 => ?_)
        clear hK Kz hHeld
        have hHeld := hH2 rfl
        clear hH2
        (try simp only [Act.put, List.setIfInBounds_toArray, List.set_cons_zero, List.set_cons_succ])
        refine anyU_ready (rs := [22]) (by kernel_rfl) (by simp) ?_
        refine EachU.cons (o := { dst := some 91, op := Op.call { callee := Callee.value (Operand.func 91), args := #[Operand.tmp 83, Operand.tmp 90, Operand.const (Value.int IntKind.i64 2)], argTypes := #[123, 3, 3] }, type := 123, pos := "ref.go:80", after := #[{ on := 14, ground := Ground.data }, { on := 21, ground := Ground.data }, { on := 21, ground := Ground.chain }], guard := none }) rfl (fun Kz hK => ?_) EachU.nil
        go_simp
        go_at_call 91
        refine (HCc.out _ p2 c2 HR2.out).mono ?_
        rintro e w5 ⟨p3, c3, rfl, hR, hp, hg⟩
        have hHn := Lib.hid (hHeld.out.keep hg)
        have HR3 := Lib.hid (BR.mk hR hp)
        clear hR hp hg
        refine hK.out _ _ (fun _ => hHn) (fun hH2 => ?_)
        clear hK Kz hHeld
        have hHeld := hH2 rfl
        clear hH2
        (try simp only [Act.put, List.setIfInBounds_toArray, List.set_cons_zero, List.set_cons_succ])
        refine anyU_ready (rs := [23]) (by kernel_rfl) (by simp) ?_
        refine EachU.cons (o := { dst := none, op := Op.store 123 (Operand.tmp 5) (Operand.tmp 91), type := 0, pos := "ref.go:80", after := #[{ on := 22, ground := Ground.data }, { on := 22, ground := Ground.chain }, { on := 0, ground := Ground.phase }, { on := 1, ground := Ground.phase }, { on := 2, ground := Ground.phase }, { on := 3, ground := Ground.phase }, { on := 4, ground := Ground.phase }, { on := 5, ground := Ground.phase }, { on := 6, ground := Ground.phase }, { on := 7, ground := Ground.phase }, { on := 8, ground := Ground.phase }, { on := 9, ground := Ground.phase }, { on := 10, ground := Ground.phase }, { on := 11, ground := Ground.phase }, { on := 12, ground := Ground.phase }, { on := 13, ground := Ground.phase }, { on := 14, ground := Ground.phase }, { on := 15, ground := Ground.phase }, { on := 16, ground := Ground.phase }, { on := 17, ground := Ground.phase }, { on := 18, ground := Ground.phase }, { on := 19, ground := Ground.phase }, { on := 20, ground := Ground.phase }, { on := 21, ground := Ground.phase }, { on := 22, ground := Ground.phase }], guard := none }) rfl (fun Kz hK => ?_) EachU.nil
        obtain ⟨s0, s1⟩ := row_cells hHeld.out.sb
        have f0 := frozen_of_row _ _ 0 _ _ hHeld.out.sb
        have f1 := frozen_of_row _ _ 1 _ _ hHeld.out.sb
        have HE := Lib.hid (re_put hHeld.out.r hHeld.out.sb HR3.out hHeld.out.lt)
        go_simp
        refine hK.out _ _ (fun h => by cases h) (fun _ => ?_)
        clear hK Kz
        (try simp only [Act.put, List.setIfInBounds_toArray, List.set_cons_zero, List.set_cons_succ])
        refine anyU_done (by kernel_rfl) ?_ _
        clear hHeld s0 s1 f0 f1
        go_wp2_with fail
        exact ⟨⟨k + 1, by omega, congrArg _ (by omega), _, _, by rw [HB3.out]; exact HE⟩, by simp only [RowKit.intOf]; omega⟩
      · obtain rfl : k = C.length := by omega
        go_wp2_with fail
        go_meet
        exact ⟨p, c, HK⟩
  case rest =>
  obtain ⟨p8, c8, HK⟩ := hcut
  clear H7
  obtain ⟨s0, s1⟩ := row_cells HK.out.sb
  obtain ⟨B, hB⟩ : ∃ B, cmB A C.length = B := ⟨_, rfl⟩
  have hlB : B.length ≤ 800 := by rw [← hB, cmB_len, List.length_take]; have := HVA.out.ll; have := HVA.out.cl; omega
  have hck : ck B < 65536 := chk_lt _ _
  obtain ⟨z, hz⟩ : ∃ z, ck B = z := ⟨_, rfl⟩
  rw [hz] at hck
  obtain ⟨B2, hB2⟩ : ∃ B2, B2 = B ++ nb ((z : Nat) : Int).toNat 16 := ⟨_, rfl⟩
  have hlB2 : B2.length ≤ 816 := by rw [hB2, List.length_append, nb_len]; omega
  have hlB1 : 1 ≤ B2.length := by rw [hB2, List.length_append, nb_len]; omega
  have HC : Hid (∀ wz p c, (p = none → c = 0) → Rd wz (fun _ => True) (.slice p (pk B).length c) ((pk B).map nv) → Calls Try.prog 91 #[.agg #[.slice p (pk B).length c, .int .i64 (B.length : Int)], .int .i64 ((z : Nat) : Int), .int .i64 ((16 : Nat) : Int)] wz fun e w' => SPO B2 wz e w') := Lib.hid fun wz p c h1 h2 => by
    rw [hB2]
    exact rputo_any B ((z : Nat) : Int) 16 p c _ wz (by omega) (by rw [Int.toNat_natCast]; omega) (by decide) (by decide) (by omega) h1 h2
  have HEN : Hid (encA A = pk B2) := Lib.hid (by unfold encA adB; rw [HLL.out.2.1, hB, hz, hB2]; rfl)
  rw [hB] at HK s0 s1
  have HCK := Lib.hid (check_bitsr (B := B) (w := wc) (by omega) HK.out.br.pc HK.out.br.rd)
  rw [hz] at HCK
  clear hB hB2 hz
  go_wp2_with fail
  refine HCK.out.mono ?_
  rintro e w8 ⟨rfl, hg⟩
  have H8 := Lib.hid (HK.out.keep hg)
  clear hg HK HCK s0 s1
  obtain ⟨s0, s1⟩ := row_cells H8.out.sb
  go_wp2_with fail
  refine (HC.out _ p8 c8 H8.out.br.pc H8.out.br.rd).mono ?_
  rintro e w9 ⟨p9, c9, rfl, hO, hg⟩
  have H9 := Lib.hid (H8.out.keep hg)
  have HSZ : Hid (w.heap.size ≤ w8.heap.size ∧ S < w8.heap.size) := Lib.hid ⟨H8.out.r.gr.size, World.lt_of_row' H8.out.sb⟩
  have HR9 := Lib.hid hO
  clear hO hg H8 s0 s1
  go_wp2_with fail
  refine (aalign_own (B := B2) (by omega) (by omega) HR9.out).mono ?_
  rintro e w10 ⟨p10, c10, rfl, hO, hg⟩
  have H10 := Lib.hid (H9.out.keep hg)
  have HR10 := Lib.hid hO
  clear hO hg H9 HR9
  obtain ⟨s0, s1⟩ := row_cells H10.out.sb
  have f0 := frozen_of_row _ _ 0 _ _ H10.out.sb
  have f1 := frozen_of_row _ _ 1 _ _ H10.out.sb
  obtain ⟨t1, t2⟩ := store2c (.slice p10 (pk B2).length c10) (.int .i64 (8 * ((pk B2).length : Int))) H10.out.sb
  have HT := Lib.hid (And.intro t1 (And.intro ((HR10.out.other t2 HSZ.out.2).mono HSZ.out.1) (grown_new H10.out.r.gr t2 (by have := H10.out.r.lo; have := H10.out.lt; omega))))
  go_upto_region 18 with fail
  clear s0 s1 f0 f1 t1 t2 H10 HR10
  generalize (w10.setCell _ _).setCell _ _ = w11 at *
  obtain ⟨s0, s1⟩ := row_cells HT.out.1
  go_wp2_with fail
  go_ret2
  exact .inl ⟨HV.out, p10, c10, by rw [HEN.out]; rfl, by rw [HEN.out]; exact HT.out.2.1, HT.out.2.2⟩
set_option maxRecDepth 100000 in
theorem raenc_any (A : Ad) (q0 : Nat → Prop) (w : World) (hA : AdOk w q0 A) :
    Calls Try.prog 63 #[A.val] w fun e w' => RAEnc A w e w' :=
  (raenco_any A q0 w hA).mono fun e w' h => by
    rcases h with ⟨h1, p, c, h2, h3, h4⟩ | h
    · exact .inl ⟨h1, p, c, h2, (own_rdA h3).mono (fun _ _ => trivial), h3.pc, h4⟩
    · exact .inr h
end Go.Proofs.Ytnpkihioklpnmaa

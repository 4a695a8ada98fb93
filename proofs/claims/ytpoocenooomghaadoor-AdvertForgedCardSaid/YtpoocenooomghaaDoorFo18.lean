/- Parts of the proof, packed: AdFoLaw. -/
import Derived.Test.YtpoocenooomghaaDoorFo17
import Derived.Test.YtpoocenooomghaaDoorFo2
import Derived.Test.YtpoocenooomghaaDoorFo6
import Derived.Deep.CutBlock
import Derived.Deep.CutRange
/- The law AdvertForged: Decode of bytes with a right check number, whatever the fields say. -/
namespace Go.Proofs.YtpoocenooomghaaDoor
open Go.RowKit Bs
/-- The tape. -/
structure TS (W w : World) : Prop where
  gr : W.grownBy w none
  tp : Tp w W.heap.size
set_option maxRecDepth 100000 in
theorem TS.keep {W w w1 : World} (h : TS W w) (g : w.grownBy w1 none) : TS W w1 := ⟨grown_trans h.gr g, h.tp.keep g⟩
set_option maxRecDepth 100000 in
theorem TS.tape {W w w1 : World} (h : TS W w) (k : St W.heap.size w w1) : TS W w1 := ⟨grown_tape h.gr k.1, k.2⟩
/-- The tape, and a stream in block D. -/
structure FS (W : World) (D : Nat) (B : List Bool) (p : Option Addr) (c : Nat) (w : World) : Prop where
  t : TS W w
  sb : w.heap[D]? = some (.cells #[.slice p (pk B).length c, .int .i64 (B.length : Int)] 47 (0, 0))
  br : BF W.heap.size B p c w
  lo : W.heap.size < D
set_option maxRecDepth 100000 in
theorem FS.keep {W w w1 : World} {D : Nat} {B : List Bool} {p : Option Addr} {c : Nat} (h : FS W D B p c w) (g : w.grownBy w1 none) : FS W D B p c w1 := ⟨h.t.keep g, kept_row h.sb g (by simp), h.br.keep g, h.lo⟩
set_option maxRecDepth 100000 in
theorem FS.tape {W w w1 : World} {D : Nat} {B : List Bool} {p : Option Addr} {c : Nat} (h : FS W D B p c w) (k : St W.heap.size w w1) : FS W D B p c w1 := by
  have hlo := h.lo
  exact ⟨h.t.tape k, kept_row h.sb k.1 (fun e => by have := Option.some.inj e; omega), h.br.tape k, h.lo⟩
set_option maxRecDepth 100000 in
theorem FS.lt {W w : World} {D : Nat} {B : List Bool} {p : Option Addr} {c : Nat} (h : FS W D B p c w) : W.heap.size < w.heap.size := h.t.tp.lt
set_option maxRecDepth 100000 in
theorem fs_put {W w : World} {D : Nat} {B B2 : List Bool} {p p2 : Option Addr} {c c2 : Nat} (h : FS W D B p c w) (hb : BF W.heap.size B2 p2 c2 w) : FS W D B2 p2 c2 ((w.setCell ⟨D, 0, none⟩ (.slice p2 (pk B2).length c2)).setCell ⟨D, 1, none⟩ (.int .i64 (B2.length : Int))) := by
  obtain ⟨t1, t2⟩ := store2c (.slice p2 (pk B2).length c2) (.int .i64 (B2.length : Int)) h.sb
  have hlo := h.lo
  have hst : St W.heap.size w w := ⟨grown_refl _ _, h.t.tp⟩
  have h3 := St.newA (W := w) (a := W.heap.size) hst t2
  refine ⟨⟨grown_new h.t.gr t2 (by omega), ?_⟩, t1, ⟨(rd_off2 hb.rd h.sb).grown t2 (fun b hb e => hb.2 (Option.some.inj e)) |>.mono (fun b hb => hb.1), hb.pc⟩, h.lo⟩
  obtain ⟨v, n, i, T⟩ := h.t.tp
  have hk : _ = w.heap[W.heap.size]? := t2.block W.heap.size h.lt (fun e => by have := Option.some.inj e; omega)
  refine ⟨v, n, i, (World.cell?_of_block (a := ⟨W.heap.size, 0, none⟩) hk).trans T.l, (World.cell?_of_block (a := ⟨W.heap.size, 1, none⟩) hk).trans T.p, (World.frozen?_of_block (a := ⟨W.heap.size, 1, none⟩) hk).trans T.fr, ?_, T.le, T.len⟩
  obtain ⟨p, c, hv, hc⟩ := T.ints
  refine ⟨p, c, hv, fun hn => ?_⟩
  obtain ⟨b1, off, hp, hb1, hx⟩ := hc hn
  refine ⟨b1, off, hp, hb1, fun i hi => ?_⟩
  obtain ⟨x, hx1, hcell⟩ := hx i hi
  exact ⟨x, hx1, t2.cell hcell (fun e => by have : b1 = D := Option.some.inj e; omega)⟩
def lim (n x : Int) : Prop := 0 ≤ x ∧ x < n
set_option maxRecDepth 100000 in
theorem TS.ints {W w : World} (h : TS W w) (n : Int) (xs : List Int) (cs : Array Value) (hx : ∀ x ∈ xs, lim n x) (hcs : cs = (xs.map fun x => Value.int .i64 x).toArray) :
    ∀ p, p = w.heap.size → Among (lim n) (w.alloc (.cells cs 3)) W.heap.size p 0 cs.size := by
  rintro p rfl
  exact among_list (lim n) w W.heap.size xs cs 3 h.tp.lt hcs hx
set_option maxRecDepth 100000 in
theorem Among.keepF {P : Int → Prop} {w w' : World} {a b off n : Nat} {r : Option Nat} (h : Among P w a b off n) (g : w.grownBy w' r) (hne : some b ≠ r) : Among P w' a b off n :=
  ⟨h.1, Nat.lt_of_lt_of_le h.2.1 g.size, fun i hi => by obtain ⟨x, hx, hc⟩ := h.2.2 i hi; exact ⟨x, hx, g.cell hc (by exact hne)⟩⟩
/-- What is known while a region draws its order: the lists of numbers that are laid, the streams that are made. -/
structure FK (W : World) (D : Nat) (B : List Bool) (p : Option Addr) (c : Nat) (ms : List (Int × Nat × Nat)) (rs : List (List Bool × Option Addr × Nat)) (w : World) : Prop where
  s : FS W D B p c w
  m : ∀ x ∈ ms, Among (lim x.1) w W.heap.size x.2.1 0 x.2.2
  r : ∀ x ∈ rs, BF W.heap.size x.1 x.2.1 x.2.2 w
section
variable {W w w1 : World} {D : Nat} {B : List Bool} {p : Option Addr} {c : Nat} {ms : List (Int × Nat × Nat)} {rs : List (List Bool × Option Addr × Nat)}
set_option maxRecDepth 100000 in
theorem FK.keep (h : FK W D B p c ms rs w) (g : w.grownBy w1 none) : FK W D B p c ms rs w1 := ⟨h.s.keep g, fun x hx => (h.m x hx).keepF g (by simp), fun x hx => (h.r x hx).keep g⟩
set_option maxRecDepth 100000 in
theorem FK.tape (h : FK W D B p c ms rs w) (k : St W.heap.size w w1) : FK W D B p c ms rs w1 := ⟨h.s.tape k, fun x hx => (h.m x hx).keepF k.1 (fun e => (h.m x hx).1 (Option.some.inj e)), fun x hx => (h.r x hx).tape k⟩
set_option maxRecDepth 100000 in
theorem FK.addr (h : FK W D B p c ms rs w) {B2 : List Bool} {p2 : Option Addr} {c2 : Nat} (hR : BF W.heap.size B2 p2 c2 w) : FK W D B p c ms ((B2, p2, c2) :: rs) w := ⟨h.s, h.m, fun x hx => by
  rcases List.mem_cons.1 hx with rfl | hx
  · exact hR
  · exact h.r x hx⟩
set_option maxRecDepth 100000 in
theorem FK.ints (h : FK W D B p c ms rs w) (n : Int) (xs : List Int) (cs : Array Value) (hx : ∀ x ∈ xs, lim n x) (hcs : cs = (xs.map fun x => Value.int .i64 x).toArray) : FK W D B p c ((n, w.heap.size, cs.size) :: ms) rs (w.alloc (.cells cs 3)) := by
  have g := World.grownBy_alloc w (.cells cs 3) none
  have h1 := h.keep g
  refine ⟨h1.s, fun x hx2 => ?_, h1.r⟩
  rcases List.mem_cons.1 hx2 with rfl | hx2
  · exact h.s.t.ints n xs cs hx hcs _ rfl
  · exact h1.m x hx2
end
set_option maxRecDepth 100000 in
theorem snoc_all {P : T3 → Prop} {L : List T3} {y : T3} (h : ∀ x ∈ L, P x) (hy : P y) : ∀ x ∈ L ++ [y], P x := fun x hx => by
  rcases List.mem_append.1 hx with hx | hx
  · exact h x hx
  · rw [List.mem_singleton] at hx
    subst hx
    exact hy
set_option maxRecDepth 100000 in
theorem code_pow (v : Nat) (h : v < 4) : codeN ((8 * 2 ^ v : Nat) : Int) = v ∧ ((((8 * 2 ^ v : Nat) : Int) = 8) ∨ ((8 * 2 ^ v : Nat) : Int) = 16 ∨ ((8 * 2 ^ v : Nat) : Int) = 32 ∨ ((8 * 2 ^ v : Nat) : Int) = 64) := by
  rcases (show v = 0 ∨ v = 1 ∨ v = 2 ∨ v = 3 by omega) with rfl | rfl | rfl | rfl <;> decide
def zAd : Ad := ⟨0, 0, false, [], [], none, 0, none, 0⟩
set_option maxRecDepth 100000 in
theorem zAd_ok (w : World) : AdOk w (fun _ => True) zAd := ⟨rdf_nil _ _ _ _, rdf_nil _ _ _ _, ⟨Nat.le_refl _, by show 0 ≤ 9223372036854775807; decide⟩, ⟨Nat.le_refl _, by show 0 ≤ 9223372036854775807; decide⟩⟩
set_option maxRecDepth 100000 in
/-- Both decoders of bytes whose check number is right. -/
theorem forged_dec (l : List Nat) (hb : By l) (hln : l.length ≤ 100) (hdE : ∀ v, decE l v = if v = false then 1 else 0) (p : Option Addr) (c : Nat) (hc : l.length ≤ c) :
    ∃ (T : Ad) (Er : Int), (∀ wz, Rd wz (fun _ => True) (.slice p l.length c) (l.map nv) → Calls Tryd.prog 21 #[.slice p l.length c] wz fun e w' => ∃ X : Ad, e = .returned (.tuple #[X.val, .int .i64 Er]) ∧ smA X T ∧ AdOk w' (fun _ => True) X ∧ wz.grownBy w' none) ∧
      (∀ wz, Rd wz (fun _ => True) (.slice p l.length c) (l.map nv) → Calls Tryd.prog 23 #[.slice p l.length c] wz fun e w' => ∃ X : Ad, e = .returned (.tuple #[X.val, .int .i64 Er]) ∧ smA X T ∧ AdOk w' (fun _ => True) X ∧ wz.grownBy w' none) ∧ (Er = 0 ∨ Er = 1) := by
  have ht : l.take 200 = l := List.take_of_length_le (by omega)
  cases hv : vAd (adOf l) with
  | true =>
    refine ⟨adOf l, 0, fun wz hR => ?_, fun wz hR => ?_, .inl rfl⟩
    · refine (adec_any l hb (by omega) p c hc _ wz hR).mono ?_
      rintro e w' ⟨X, h1, h2, h3, h4, -⟩
      have hs := (adOf_is l).same h1
      exact ⟨X, h4 (by rw [hdE, ← hs.valid, hv]; rfl), h1.same (adOf_is l), h2.mono (fun _ _ => trivial), h3⟩
    · refine (radec_any l hb (by omega) p c hc _ wz hR).mono ?_
      rintro e w' ⟨hg, ⟨-, X, h1, h2, h3⟩ | ⟨h1, -⟩⟩
      · rw [ht] at h1
        exact ⟨X, h3, h1.same (adOf_is l), h2.mono (fun _ _ => trivial), hg⟩
      · rw [ht, show l.length - 200 = 0 by omega, decEh_zero, hdE, hv] at h1
        exact absurd rfl h1
  | false =>
    refine ⟨zAd, 1, fun wz hR => ?_, fun wz hR => ?_, .inr rfl⟩
    · refine (adec_any l hb (by omega) p c hc _ wz hR).mono ?_
      rintro e w' ⟨X, h1, h2, h3, -, h5⟩
      have hs := (adOf_is l).same h1
      have h6 := h5 (by rw [hdE, ← hs.valid, hv]; decide)
      rw [hdE, ← hs.valid, hv] at h6
      exact ⟨zAd, h6, ⟨rfl, rfl, rfl, rfl, rfl⟩, zAd_ok w', h3⟩
    · refine (radec_any l hb (by omega) p c hc _ wz hR).mono ?_
      rintro e w' ⟨hg, ⟨h1, -⟩ | ⟨h1, h2⟩⟩
      · rw [ht, show l.length - 200 = 0 by omega, decEh_zero, hdE, hv] at h1
        cases h1
      · rw [ht, show l.length - 200 = 0 by omega, decEh_zero, hdE, hv] at h2
        exact ⟨zAd, h2, ⟨rfl, rfl, rfl, rfl, rfl⟩, zAd_ok w', hg⟩
set_option maxRecDepth 100000 in
set_option maxHeartbeats 12800000 in
theorem forged_walk (v : Value) (w : World) (hv : IntsIn w v) (hT : Tb w) :
    Calls Tryd.prog 6 #[v] w fun e w' => e = .returned (.bool true) ∧ w.grownBy w' none := by
  have HTB := Lib.hid hT
  go_enter Tryd.func6, Tryd.ntmps6
  go_wp2_with fail
  refine (new_any v w hv).mono ?_
  rintro e w1 ⟨rfl, hg1, hT1⟩
  have H1 : Hid (TS w w1) := Lib.hid ⟨hg1, hT1⟩
  clear hg1 hT1 hv hT
  go_wp2_with fail
  refine (next_any _ 3 (by unfold I64; omega) _ H1.out.tp).mono ?_
  rintro e w2 ⟨n, rfl, hn, hs⟩
  have H2 := Lib.hid (H1.out.tape hs)
  obtain ⟨n, rfl⟩ := Int.eq_ofNat_of_zero_le hn.1
  have hn2 : n ≤ 2 := by have := hn.2.1 (by decide); omega
  clear hn hs H1
  go_wp2_with fail
  refine (next_any _ 3 (by unfold I64; omega) _ H2.out.tp).mono ?_
  rintro e w3 ⟨m, rfl, hm, hs⟩
  have H3 := Lib.hid (H2.out.tape hs)
  obtain ⟨m, rfl⟩ := Int.eq_ofNat_of_zero_le hm.1
  have hm2 : m ≤ 2 := by have := hm.2.1 (by decide); omega
  clear hm hs H2
  have HM := Lib.hid (H3.out.ints 128 [1, 2, 0, 99, 100, 127] #[.int .i64 1, .int .i64 2, .int .i64 0, .int .i64 99, .int .i64 100, .int .i64 127] (by intro x hx; simp at hx; unfold lim; omega) rfl _ rfl)
  have H4 := Lib.hid (H3.out.keep (World.grownBy_alloc w3 (.cells #[.int .i64 1, .int .i64 2, .int .i64 0, .int .i64 99, .int .i64 100, .int .i64 127] 3) none))
  go_wp2_with fail
  refine (pick_any _ _ _ 0 6 6 (by omega) (by omega) _ H4.out.tp HM.out).mono ?_
  rintro e w4 ⟨r, rfl, hr, hs⟩
  unfold lim at hr
  have H5 := Lib.hid (H4.out.tape hs)
  clear hs HM H3 H4
  obtain ⟨B1, hB1⟩ : ∃ B, B = nb r.toNat 7 := ⟨_, rfl⟩
  have hl1 : B1.length ≤ 7 := by rw [hB1, nb_len]; omega
  have hP := lput_next (B := []) (B2 := B1) w.heap.size r 7 (by rw [hB1]; rfl) (by omega) (by omega) (by decide) (by decide) (by simp) (wz := w4) (p := none) (c := 0) H5.out.tp.lt ⟨Rd.nil_ _ _ _ _, fun _ => rfl⟩
  have HP := Lib.hid hP
  have HB1 := Lib.hid hB1
  clear hP hB1
  go_wp2_with fail
  refine HP.out.mono ?_
  rintro e w5 ⟨p1, c1, rfl, hR, hg⟩
  have H6 := Lib.hid (H5.out.keep hg)
  have HR1 := Lib.hid hR
  clear hR hg H5 HP
  have HM := Lib.hid (H6.out.ints 1048576 [1, 0, 1000000, 1000001] #[.int .i64 1, .int .i64 0, .int .i64 1000000, .int .i64 1000001] (by intro x hx; simp at hx; unfold lim; omega) rfl _ rfl)
  have H7 := Lib.hid (H6.out.keep (World.grownBy_alloc w5 (.cells #[.int .i64 1, .int .i64 0, .int .i64 1000000, .int .i64 1000001] 3) none))
  have HR2 := Lib.hid (HR1.out.keep (World.grownBy_alloc w5 (.cells #[.int .i64 1, .int .i64 0, .int .i64 1000000, .int .i64 1000001] 3) none))
  go_wp2_with fail
  refine (pick_any _ _ _ 0 4 4 (by omega) (by omega) _ H7.out.tp HM.out).mono ?_
  rintro e w6 ⟨q, rfl, hq, hs⟩
  unfold lim at hq
  have H8 := Lib.hid (H7.out.tape hs)
  have HR3 := Lib.hid (HR2.out.tape hs)
  clear hs HM H6 H7 HR1 HR2
  obtain ⟨B2, hB2⟩ : ∃ B, B = B1 ++ nb q.toNat 20 := ⟨_, rfl⟩
  have hl2 : B2.length ≤ 27 := by rw [hB2, List.length_append, nb_len]; omega
  have HB2 := Lib.hid hB2
  clear hB2
  go_wp2_with fail
  refine (lput_next w.heap.size q 20 HB2.out (by omega) (by omega) (by decide) (by decide) (by omega) H8.out.tp.lt HR3.out).mono ?_
  rintro e w7 ⟨p2, c2, rfl, hR, hg⟩
  have H9 := Lib.hid (H8.out.keep hg)
  have HR4 := Lib.hid hR
  clear hR hg H8 HR3
  go_wp2_with fail
  refine (next_any _ 2 (by unfold I64; omega) _ H9.out.tp).mono ?_
  rintro e w8 ⟨y, rfl, hy, hs⟩
  have H10 := Lib.hid (H9.out.tape hs)
  have HR5 := Lib.hid (HR4.out.tape hs)
  have hy2 : 0 ≤ y ∧ y ≤ 1 := by have := hy.1; have := hy.2.1 (by decide); omega
  clear hs hy H9 HR4
  obtain ⟨B3, hB3⟩ : ∃ B, B = B2 ++ nb y.toNat 1 := ⟨_, rfl⟩
  have hl3 : B3.length ≤ 28 := by rw [hB3, List.length_append, nb_len]; omega
  have HB3 := Lib.hid hB3
  clear hB3
  go_wp2_with fail
  refine (lput_next w.heap.size y 1 HB3.out (by omega) (by omega) (by decide) (by decide) (by omega) H10.out.tp.lt HR5.out).mono ?_
  rintro e w9 ⟨p3, c3, rfl, hR, hg⟩
  have H11 := Lib.hid (H10.out.keep hg)
  have HR6 := Lib.hid hR
  clear hR hg H10 HR5
  obtain ⟨B4, hB4⟩ : ∃ B, B = B3 ++ nb ((n : Nat) : Int).toNat 5 := ⟨_, rfl⟩
  have hl4 : B4.length ≤ 33 := by rw [hB4, List.length_append, nb_len]; omega
  have HB4 := Lib.hid hB4
  clear hB4
  go_wp2_with fail
  refine (lput_next w.heap.size ((n : Nat) : Int) 5 HB4.out (by omega) (by rw [Int.toNat_natCast]; omega) (by decide) (by decide) (by omega) H11.out.tp.lt HR6.out).mono ?_
  rintro e w10 ⟨p4, c4, rfl, hR, hg⟩
  have hal := World.grownBy_alloc w10 (.cells #[.slice p4 (pk B4).length c4, .int .i64 (B4.length : Int)] 47) none
  have H12 : Hid (FS w w10.heap.size B4 p4 c4 (w10.alloc (.cells #[.slice p4 (pk B4).length c4, .int .i64 (B4.length : Int)] 47))) := Lib.hid ⟨(H11.out.keep hg).keep hal, heap_alloc_new w10 _, hR.keep hal, (H11.out.keep hg).tp.lt⟩
  clear hR hg hal H11 HR6
  go_upto_region 4 with fail
  generalize w10.alloc _ = w11 at *
  generalize w10.heap.size = D at *
  obtain ⟨B0, hB0⟩ : ∃ B, B4 = B := ⟨_, rfl⟩
  rw [hB0] at H12 hl4 HB4
  clear hB0
  go_upto_block 0 with fail
  go_cut [] from 35 to 54 (fun wx => ∃ L B p c, (L : List T3).length = n ∧ Hid (∀ x ∈ L, (0 ≤ x.a ∧ x.a < 128) ∧ (0 ≤ x.b ∧ x.b < 1024) ∧ 0 ≤ x.c ∧ x.c < 1024) ∧ Hid (B = B0 ++ L.flatMap encR) ∧ B.length ≤ 33 + n * 27 ∧ Hid (FS w D B p c wx))
  case first =>
    go_wp2_with fail
    go_loopw [7] (fun i wr => ∃ k : Nat, k ≤ n ∧ i = .int .i64 (k : Int) ∧ ∃ L B p c, (L : List T3).length = k ∧ Hid (∀ x ∈ L, (0 ≤ x.a ∧ x.a < 128) ∧ (0 ≤ x.b ∧ x.b < 1024) ∧ 0 ≤ x.c ∧ x.c < 1024) ∧ Hid (B = B0 ++ L.flatMap encR) ∧ B.length ≤ 33 + k * 27 ∧ Hid (FS w D B p c wr)) (fun i _ => n - (RowKit.intOf i).toNat)
    case atStart => exact ⟨0, Nat.zero_le _, rfl, [], B0, p4, c4, rfl, Lib.hid (fun x h => by cases h), Lib.hid (by simp), by omega, H12⟩
    case round =>
      obtain ⟨k, hk, rfl, L, B, p, c, hLl, HFL, HBL, hBl, HK⟩ := hrel
      clear H12
      by_cases hlt : k < n
      · have hw : IntKind.i64.wrap (3 + (k : Int)) = 3 + (k : Int) := by rw [IntKind.wrap_i64]; omega
        go_upto_region 7 with fail
        have HD : Hid (FK w D B p c [] [] wr.drew) := Lib.hid ⟨HK.out.keep (grown_drew (grown_refl wr none)), fun _ h => (by cases h), fun _ h => (by cases h)⟩
        clear HK
        refine region_until (S := fun w' => Hid (w'.heap[D]? = some (.cells #[.slice p (pk B).length c, .int .i64 (B.length : Int)] 47 (0, 0)))) (fun j => j == 15) (by kernel_rfl) (Lib.hid HD.out.s.sb) (fun hHeld => ?_)
        focus
          refine anyU_take (i := 0) (oi := { dst := some 40, op := Op.load 47 (Operand.tmp 6), type := 47, pos := "law.go:103", after := #[], guard := none }) (v := ?_) rfl (by kernel_rfl) (by kernel_rfl) (by kernel_rfl) (by kernel_rfl) (by kernel_rfl) (fun _ _ _ h => h) (Or.inl ⟨by rfl, ?_⟩) hHeld ?_
          rotate_left 1
          · intro u hSu
            obtain ⟨s0, s1⟩ := row_cells hSu.out
            go_simp
            first | done | with_reducible rfl
          (try simp only [Act.put, List.setIfInBounds_toArray, List.set_cons_zero, List.set_cons_succ])
          refine anyU_take (i := 1) (oi := { dst := some 41, op := Op.move (Operand.tmp 3), type := 27, pos := "law.go:103", after := #[], guard := none }) (v := ?_) rfl (by kernel_rfl) (by kernel_rfl) (by kernel_rfl) (by kernel_rfl) (by kernel_rfl) (fun _ _ _ h => h) (Or.inl ⟨by rfl, ?_⟩) hHeld ?_
          rotate_left 1
          · intro u hSu
            obtain ⟨s0, s1⟩ := row_cells hSu.out
            go_simp
            first | done | with_reducible rfl
          (try simp only [Act.put, List.setIfInBounds_toArray, List.set_cons_zero, List.set_cons_succ])
          refine anyU_take (i := 2) (oi := { dst := some 42, op := Op.move (Operand.tmp 7), type := 3, pos := "law.go:103", after := #[], guard := none }) (v := ?_) rfl (by kernel_rfl) (by kernel_rfl) (by kernel_rfl) (by kernel_rfl) (by kernel_rfl) (fun _ _ _ h => h) (Or.inl ⟨by rfl, ?_⟩) hHeld ?_
          rotate_left 1
          · intro u hSu
            obtain ⟨s0, s1⟩ := row_cells hSu.out
            go_simp
            first | done | with_reducible rfl
          (try simp only [Act.put, List.setIfInBounds_toArray, List.set_cons_zero, List.set_cons_succ])
          refine anyU_take (i := 3) (oi := { dst := some 43, op := Op.binOp BinOp.add 3 (Operand.const (Value.int IntKind.i64 3)) (Operand.tmp 42) 3, type := 3, pos := "law.go:103", after := #[{ on := 2, ground := Ground.data }], guard := none }) (v := ?_) rfl (by kernel_rfl) (by kernel_rfl) (by kernel_rfl) (by kernel_rfl) (by kernel_rfl) (fun _ _ _ h => h) (Or.inl ⟨by rfl, ?_⟩) hHeld ?_
          rotate_left 1
          · intro u hSu
            obtain ⟨s0, s1⟩ := row_cells hSu.out
            go_simp
            first | done | with_reducible rfl
          (try simp only [Act.put, List.setIfInBounds_toArray, List.set_cons_zero, List.set_cons_succ])
          refine anyU_take (i := 7) (oi := { dst := some 47, op := Op.move (Operand.tmp 3), type := 27, pos := "law.go:103", after := #[], guard := none }) (v := ?_) rfl (by kernel_rfl) (by kernel_rfl) (by kernel_rfl) (by kernel_rfl) (by kernel_rfl) (fun _ _ _ h => h) (Or.inl ⟨by rfl, ?_⟩) hHeld ?_
          rotate_left 1
          · intro u hSu
            obtain ⟨s0, s1⟩ := row_cells hSu.out
            go_simp
            first | done | with_reducible rfl
          (try simp only [Act.put, List.setIfInBounds_toArray, List.set_cons_zero, List.set_cons_succ])
          refine anyU_take (i := 11) (oi := { dst := some 51, op := Op.move (Operand.tmp 3), type := 27, pos := "law.go:103", after := #[], guard := none }) (v := ?_) rfl (by kernel_rfl) (by kernel_rfl) (by kernel_rfl) (by kernel_rfl) (by kernel_rfl) (fun _ _ _ h => h) (Or.inl ⟨by rfl, ?_⟩) hHeld ?_
          rotate_left 1
          · intro u hSu
            obtain ⟨s0, s1⟩ := row_cells hSu.out
            go_simp
            first | done | with_reducible rfl
          (try simp only [Act.put, List.setIfInBounds_toArray, List.set_cons_zero, List.set_cons_succ])
          refine anyU_ready (rs := [4, 8, 12]) (by kernel_rfl) (by simp) ?_
          refine EachU.cons (o := { dst := some 44, op := Op.buildSlice 22 5 #[(0, Operand.tmp 43), (1, Operand.const (Value.int IntKind.i64 3)), (2, Operand.const (Value.int IntKind.i64 0)), (3, Operand.const (Value.int IntKind.i64 1)), (4, Operand.const (Value.int IntKind.i64 100))], type := 22, pos := "law.go:103", after := #[{ on := 3, ground := Ground.data }], guard := none }) rfl (fun Kz hK => ?_) (EachU.cons (o := { dst := some 48, op := Op.buildSlice 22 4 #[(0, Operand.const (Value.int IntKind.i64 1)), (1, Operand.const (Value.int IntKind.i64 0)), (2, Operand.const (Value.int IntKind.i64 1000)), (3, Operand.const (Value.int IntKind.i64 1001))], type := 22, pos := "law.go:103", after := #[], guard := none }) rfl (fun Kz hK => ?_) (EachU.cons (o := { dst := some 52, op := Op.buildSlice 22 3 #[(0, Operand.const (Value.int IntKind.i64 0)), (1, Operand.const (Value.int IntKind.i64 1000)), (2, Operand.const (Value.int IntKind.i64 1001))], type := 22, pos := "law.go:103", after := #[], guard := none }) rfl (fun Kz hK => ?_) EachU.nil))
        focus
          go_simp
          have HDn := Lib.hid (HD.out.ints 128 [3 + (k : Int), 3, 0, 1, 100] #[.int .i64 (3 + (k : Int)), .int .i64 (3), .int .i64 (0), .int .i64 (1), .int .i64 (100)] (by intro x hx; simp at hx; unfold lim; omega) rfl)
          clear HD
          have HD := HDn
          clear HDn
          refine hK.out _ _ (fun _ => Lib.hid HD.out.s.sb) (fun hH2 => ?_)
          clear hK Kz hHeld
          have hHeld := hH2 rfl
          clear hH2
          (try simp only [Act.put, List.setIfInBounds_toArray, List.set_cons_zero, List.set_cons_succ])
          refine anyU_ready (rs := [5, 8, 12]) (by kernel_rfl) (by simp) ?_
          refine EachU.cons (o := { dst := some 45, op := Op.call { callee := Callee.value (Operand.func 25), args := #[Operand.tmp 41, Operand.tmp 44], argTypes := #[27, 22] }, type := 3, pos := "law.go:103", after := #[{ on := 1, ground := Ground.data }, { on := 4, ground := Ground.data }], guard := none }) rfl (fun Kz hK => ?_) (EachU.cons (o := { dst := some 48, op := Op.buildSlice 22 4 #[(0, Operand.const (Value.int IntKind.i64 1)), (1, Operand.const (Value.int IntKind.i64 0)), (2, Operand.const (Value.int IntKind.i64 1000)), (3, Operand.const (Value.int IntKind.i64 1001))], type := 22, pos := "law.go:103", after := #[], guard := none }) rfl (fun Kz hK => ?_) (EachU.cons (o := { dst := some 52, op := Op.buildSlice 22 3 #[(0, Operand.const (Value.int IntKind.i64 0)), (1, Operand.const (Value.int IntKind.i64 1000)), (2, Operand.const (Value.int IntKind.i64 1001))], type := 22, pos := "law.go:103", after := #[], guard := none }) rfl (fun Kz hK => ?_) EachU.nil))
        focus
          go_simp
          go_at_call 25
          refine (pick_any (lim 128) _ _ 0 5 5 (by omega) (by omega) _ HD.out.s.t.tp (HD.out.m (128, _, 5) (by simp))).mono ?_
          rintro e w5 ⟨x1, rfl, hx1, hs⟩
          unfold lim at hx1
          have HDn := Lib.hid (HD.out.tape hs)
          clear hs
          clear HD
          have HD := HDn
          clear HDn
          refine hK.out _ _ (fun _ => Lib.hid HD.out.s.sb) (fun hH2 => ?_)
          clear hK Kz hHeld
          have hHeld := hH2 rfl
          clear hH2
          (try simp only [Act.put, List.setIfInBounds_toArray, List.set_cons_zero, List.set_cons_succ])
          refine anyU_ready (rs := [6, 8, 12]) (by kernel_rfl) (by simp) ?_
          refine EachU.cons (o := { dst := some 46, op := Op.call { callee := Callee.value (Operand.func 24), args := #[Operand.tmp 40, Operand.tmp 45, Operand.const (Value.int IntKind.i64 7)], argTypes := #[47, 3, 3] }, type := 47, pos := "law.go:103", after := #[{ on := 0, ground := Ground.data }, { on := 5, ground := Ground.data }, { on := 5, ground := Ground.chain }], guard := none }) rfl (fun Kz hK => ?_) (EachU.cons (o := { dst := some 48, op := Op.buildSlice 22 4 #[(0, Operand.const (Value.int IntKind.i64 1)), (1, Operand.const (Value.int IntKind.i64 0)), (2, Operand.const (Value.int IntKind.i64 1000)), (3, Operand.const (Value.int IntKind.i64 1001))], type := 22, pos := "law.go:103", after := #[], guard := none }) rfl (fun Kz hK => ?_) (EachU.cons (o := { dst := some 52, op := Op.buildSlice 22 3 #[(0, Operand.const (Value.int IntKind.i64 0)), (1, Operand.const (Value.int IntKind.i64 1000)), (2, Operand.const (Value.int IntKind.i64 1001))], type := 22, pos := "law.go:103", after := #[], guard := none }) rfl (fun Kz hK => ?_) EachU.nil))
        focus
          go_simp
          obtain ⟨B1, hB1⟩ : ∃ X, X = B ++ nb x1.toNat 7 := ⟨_, rfl⟩
          have hl1 : B1.length ≤ B.length + 7 := by rw [hB1, List.length_append, nb_len]; omega
          have HB1 := Lib.hid hB1
          clear hB1
          go_at_call 24
          refine (lput_next w.heap.size x1 7 HB1.out (by omega) (by omega) (by decide) (by decide) (by omega) HD.out.s.lt (HD.out.s.br)).mono ?_
          rintro e w5 ⟨p1, c1, rfl, hR, hg⟩
          have HDn := Lib.hid ((HD.out.keep hg).addr hR)
          clear hR hg
          clear HD
          have HD := HDn
          clear HDn
          refine hK.out _ _ (fun _ => Lib.hid HD.out.s.sb) (fun hH2 => ?_)
          clear hK Kz hHeld
          have hHeld := hH2 rfl
          clear hH2
          (try simp only [Act.put, List.setIfInBounds_toArray, List.set_cons_zero, List.set_cons_succ])
          refine anyU_ready (rs := [8, 12]) (by kernel_rfl) (by simp) ?_
          refine EachU.cons (o := { dst := some 48, op := Op.buildSlice 22 4 #[(0, Operand.const (Value.int IntKind.i64 1)), (1, Operand.const (Value.int IntKind.i64 0)), (2, Operand.const (Value.int IntKind.i64 1000)), (3, Operand.const (Value.int IntKind.i64 1001))], type := 22, pos := "law.go:103", after := #[], guard := none }) rfl (fun Kz hK => ?_) (EachU.cons (o := { dst := some 52, op := Op.buildSlice 22 3 #[(0, Operand.const (Value.int IntKind.i64 0)), (1, Operand.const (Value.int IntKind.i64 1000)), (2, Operand.const (Value.int IntKind.i64 1001))], type := 22, pos := "law.go:103", after := #[], guard := none }) rfl (fun Kz hK => ?_) EachU.nil)
        focus
          go_simp
          have HDn := Lib.hid (HD.out.ints 1024 [1, 0, 1000, 1001] #[.int .i64 (1), .int .i64 (0), .int .i64 (1000), .int .i64 (1001)] (by intro x hx; simp at hx; unfold lim; omega) rfl)
          clear HD
          have HD := HDn
          clear HDn
          refine hK.out _ _ (fun _ => Lib.hid HD.out.s.sb) (fun hH2 => ?_)
          clear hK Kz hHeld
          have hHeld := hH2 rfl
          clear hH2
          (try simp only [Act.put, List.setIfInBounds_toArray, List.set_cons_zero, List.set_cons_succ])
          refine anyU_ready (rs := [9, 12]) (by kernel_rfl) (by simp) ?_
          refine EachU.cons (o := { dst := some 49, op := Op.call { callee := Callee.value (Operand.func 25), args := #[Operand.tmp 47, Operand.tmp 48], argTypes := #[27, 22] }, type := 3, pos := "law.go:103", after := #[{ on := 7, ground := Ground.data }, { on := 8, ground := Ground.data }, { on := 6, ground := Ground.chain }], guard := none }) rfl (fun Kz hK => ?_) (EachU.cons (o := { dst := some 52, op := Op.buildSlice 22 3 #[(0, Operand.const (Value.int IntKind.i64 0)), (1, Operand.const (Value.int IntKind.i64 1000)), (2, Operand.const (Value.int IntKind.i64 1001))], type := 22, pos := "law.go:103", after := #[], guard := none }) rfl (fun Kz hK => ?_) EachU.nil)
        focus
          go_simp
          go_at_call 25
          refine (pick_any (lim 1024) _ _ 0 4 4 (by omega) (by omega) _ HD.out.s.t.tp (HD.out.m (1024, _, 4) (by simp))).mono ?_
          rintro e w5 ⟨x2, rfl, hx2, hs⟩
          unfold lim at hx2
          have HDn := Lib.hid (HD.out.tape hs)
          clear hs
          clear HD
          have HD := HDn
          clear HDn
          refine hK.out _ _ (fun _ => Lib.hid HD.out.s.sb) (fun hH2 => ?_)
          clear hK Kz hHeld
          have hHeld := hH2 rfl
          clear hH2
          (try simp only [Act.put, List.setIfInBounds_toArray, List.set_cons_zero, List.set_cons_succ])
          refine anyU_ready (rs := [10, 12]) (by kernel_rfl) (by simp) ?_
          refine EachU.cons (o := { dst := some 50, op := Op.call { callee := Callee.value (Operand.func 24), args := #[Operand.tmp 46, Operand.tmp 49, Operand.const (Value.int IntKind.i64 10)], argTypes := #[47, 3, 3] }, type := 47, pos := "law.go:103", after := #[{ on := 6, ground := Ground.data }, { on := 9, ground := Ground.data }, { on := 9, ground := Ground.chain }], guard := none }) rfl (fun Kz hK => ?_) (EachU.cons (o := { dst := some 52, op := Op.buildSlice 22 3 #[(0, Operand.const (Value.int IntKind.i64 0)), (1, Operand.const (Value.int IntKind.i64 1000)), (2, Operand.const (Value.int IntKind.i64 1001))], type := 22, pos := "law.go:103", after := #[], guard := none }) rfl (fun Kz hK => ?_) EachU.nil)
        focus
          go_simp
          obtain ⟨B2, hB2⟩ : ∃ X, X = B1 ++ nb x2.toNat 10 := ⟨_, rfl⟩
          have hl2 : B2.length ≤ B1.length + 10 := by rw [hB2, List.length_append, nb_len]; omega
          have HB2 := Lib.hid hB2
          clear hB2
          go_at_call 24
          refine (lput_next w.heap.size x2 10 HB2.out (by omega) (by omega) (by decide) (by decide) (by omega) HD.out.s.lt (HD.out.r (B1, p1, c1) (by simp))).mono ?_
          rintro e w5 ⟨p2, c2, rfl, hR, hg⟩
          have HDn := Lib.hid ((HD.out.keep hg).addr hR)
          clear hR hg
          clear HD
          have HD := HDn
          clear HDn
          refine hK.out _ _ (fun _ => Lib.hid HD.out.s.sb) (fun hH2 => ?_)
          clear hK Kz hHeld
          have hHeld := hH2 rfl
          clear hH2
          (try simp only [Act.put, List.setIfInBounds_toArray, List.set_cons_zero, List.set_cons_succ])
          refine anyU_ready (rs := [12]) (by kernel_rfl) (by simp) ?_
          refine EachU.cons (o := { dst := some 52, op := Op.buildSlice 22 3 #[(0, Operand.const (Value.int IntKind.i64 0)), (1, Operand.const (Value.int IntKind.i64 1000)), (2, Operand.const (Value.int IntKind.i64 1001))], type := 22, pos := "law.go:103", after := #[], guard := none }) rfl (fun Kz hK => ?_) EachU.nil
          go_simp
          have HDn := Lib.hid (HD.out.ints 1024 [0, 1000, 1001] #[.int .i64 (0), .int .i64 (1000), .int .i64 (1001)] (by intro x hx; simp at hx; unfold lim; omega) rfl)
          clear HD
          have HD := HDn
          clear HDn
          refine hK.out _ _ (fun _ => Lib.hid HD.out.s.sb) (fun hH2 => ?_)
          clear hK Kz hHeld
          have hHeld := hH2 rfl
          clear hH2
          (try simp only [Act.put, List.setIfInBounds_toArray, List.set_cons_zero, List.set_cons_succ])
          refine anyU_ready (rs := [13]) (by kernel_rfl) (by simp) ?_
          refine EachU.cons (o := { dst := some 53, op := Op.call { callee := Callee.value (Operand.func 25), args := #[Operand.tmp 51, Operand.tmp 52], argTypes := #[27, 22] }, type := 3, pos := "law.go:103", after := #[{ on := 11, ground := Ground.data }, { on := 12, ground := Ground.data }, { on := 10, ground := Ground.chain }], guard := none }) rfl (fun Kz hK => ?_) EachU.nil
          go_simp
          go_at_call 25
          refine (pick_any (lim 1024) _ _ 0 3 3 (by omega) (by omega) _ HD.out.s.t.tp (HD.out.m (1024, _, 3) (by simp))).mono ?_
          rintro e w5 ⟨x3, rfl, hx3, hs⟩
          unfold lim at hx3
          have HDn := Lib.hid (HD.out.tape hs)
          clear hs
          clear HD
          have HD := HDn
          clear HDn
          refine hK.out _ _ (fun _ => Lib.hid HD.out.s.sb) (fun hH2 => ?_)
          clear hK Kz hHeld
          have hHeld := hH2 rfl
          clear hH2
          (try simp only [Act.put, List.setIfInBounds_toArray, List.set_cons_zero, List.set_cons_succ])
          refine anyU_ready (rs := [14]) (by kernel_rfl) (by simp) ?_
          refine EachU.cons (o := { dst := some 54, op := Op.call { callee := Callee.value (Operand.func 24), args := #[Operand.tmp 50, Operand.tmp 53, Operand.const (Value.int IntKind.i64 10)], argTypes := #[47, 3, 3] }, type := 47, pos := "law.go:103", after := #[{ on := 10, ground := Ground.data }, { on := 13, ground := Ground.data }, { on := 13, ground := Ground.chain }], guard := none }) rfl (fun Kz hK => ?_) EachU.nil
          go_simp
          obtain ⟨B3, hB3⟩ : ∃ X, X = B2 ++ nb x3.toNat 10 := ⟨_, rfl⟩
          have hl3 : B3.length ≤ B2.length + 10 := by rw [hB3, List.length_append, nb_len]; omega
          have HB3 := Lib.hid hB3
          clear hB3
          go_at_call 24
          refine (lput_next w.heap.size x3 10 HB3.out (by omega) (by omega) (by decide) (by decide) (by omega) HD.out.s.lt (HD.out.r (B2, p2, c2) (by simp))).mono ?_
          rintro e w5 ⟨p3, c3, rfl, hR, hg⟩
          have HDn := Lib.hid ((HD.out.keep hg).addr hR)
          clear hR hg
          clear HD
          have HD := HDn
          clear HDn
          refine hK.out _ _ (fun _ => Lib.hid HD.out.s.sb) (fun hH2 => ?_)
          clear hK Kz hHeld
          have hHeld := hH2 rfl
          clear hH2
          (try simp only [Act.put, List.setIfInBounds_toArray, List.set_cons_zero, List.set_cons_succ])
        rotate_left 1
        focus
          go_simp
          have HDn := Lib.hid (HD.out.ints 1024 [0, 1000, 1001] #[.int .i64 (0), .int .i64 (1000), .int .i64 (1001)] (by intro x hx; simp at hx; unfold lim; omega) rfl)
          clear HD
          have HD := HDn
          clear HDn
          refine hK.out _ _ (fun _ => Lib.hid HD.out.s.sb) (fun hH2 => ?_)
          clear hK Kz hHeld
          have hHeld := hH2 rfl
          clear hH2
          (try simp only [Act.put, List.setIfInBounds_toArray, List.set_cons_zero, List.set_cons_succ])
          refine anyU_ready (rs := [10]) (by kernel_rfl) (by simp) ?_
          refine EachU.cons (o := { dst := some 50, op := Op.call { callee := Callee.value (Operand.func 24), args := #[Operand.tmp 46, Operand.tmp 49, Operand.const (Value.int IntKind.i64 10)], argTypes := #[47, 3, 3] }, type := 47, pos := "law.go:103", after := #[{ on := 6, ground := Ground.data }, { on := 9, ground := Ground.data }, { on := 9, ground := Ground.chain }], guard := none }) rfl (fun Kz hK => ?_) EachU.nil
          go_simp
          obtain ⟨B2, hB2⟩ : ∃ X, X = B1 ++ nb x2.toNat 10 := ⟨_, rfl⟩
          have hl2 : B2.length ≤ B1.length + 10 := by rw [hB2, List.length_append, nb_len]; omega
          have HB2 := Lib.hid hB2
          clear hB2
          go_at_call 24
          refine (lput_next w.heap.size x2 10 HB2.out (by omega) (by omega) (by decide) (by decide) (by omega) HD.out.s.lt (HD.out.r (B1, p1, c1) (by simp))).mono ?_
          rintro e w5 ⟨p2, c2, rfl, hR, hg⟩
          have HDn := Lib.hid ((HD.out.keep hg).addr hR)
          clear hR hg
          clear HD
          have HD := HDn
          clear HDn
          refine hK.out _ _ (fun _ => Lib.hid HD.out.s.sb) (fun hH2 => ?_)
          clear hK Kz hHeld
          have hHeld := hH2 rfl
          clear hH2
          (try simp only [Act.put, List.setIfInBounds_toArray, List.set_cons_zero, List.set_cons_succ])
          refine anyU_ready (rs := [13]) (by kernel_rfl) (by simp) ?_
          refine EachU.cons (o := { dst := some 53, op := Op.call { callee := Callee.value (Operand.func 25), args := #[Operand.tmp 51, Operand.tmp 52], argTypes := #[27, 22] }, type := 3, pos := "law.go:103", after := #[{ on := 11, ground := Ground.data }, { on := 12, ground := Ground.data }, { on := 10, ground := Ground.chain }], guard := none }) rfl (fun Kz hK => ?_) EachU.nil
          go_simp
          go_at_call 25
          refine (pick_any (lim 1024) _ _ 0 3 3 (by omega) (by omega) _ HD.out.s.t.tp (HD.out.m (1024, _, 3) (by simp))).mono ?_
          rintro e w5 ⟨x3, rfl, hx3, hs⟩
          unfold lim at hx3
          have HDn := Lib.hid (HD.out.tape hs)
          clear hs
          clear HD
          have HD := HDn
          clear HDn
          refine hK.out _ _ (fun _ => Lib.hid HD.out.s.sb) (fun hH2 => ?_)
          clear hK Kz hHeld
          have hHeld := hH2 rfl
          clear hH2
          (try simp only [Act.put, List.setIfInBounds_toArray, List.set_cons_zero, List.set_cons_succ])
          refine anyU_ready (rs := [14]) (by kernel_rfl) (by simp) ?_
          refine EachU.cons (o := { dst := some 54, op := Op.call { callee := Callee.value (Operand.func 24), args := #[Operand.tmp 50, Operand.tmp 53, Operand.const (Value.int IntKind.i64 10)], argTypes := #[47, 3, 3] }, type := 47, pos := "law.go:103", after := #[{ on := 10, ground := Ground.data }, { on := 13, ground := Ground.data }, { on := 13, ground := Ground.chain }], guard := none }) rfl (fun Kz hK => ?_) EachU.nil
          go_simp
          obtain ⟨B3, hB3⟩ : ∃ X, X = B2 ++ nb x3.toNat 10 := ⟨_, rfl⟩
          have hl3 : B3.length ≤ B2.length + 10 := by rw [hB3, List.length_append, nb_len]; omega
          have HB3 := Lib.hid hB3
          clear hB3
          go_at_call 24
          refine (lput_next w.heap.size x3 10 HB3.out (by omega) (by omega) (by decide) (by decide) (by omega) HD.out.s.lt (HD.out.r (B2, p2, c2) (by simp))).mono ?_
          rintro e w5 ⟨p3, c3, rfl, hR, hg⟩
          have HDn := Lib.hid ((HD.out.keep hg).addr hR)
          clear hR hg
          clear HD
          have HD := HDn
          clear HDn
          refine hK.out _ _ (fun _ => Lib.hid HD.out.s.sb) (fun hH2 => ?_)
          clear hK Kz hHeld
          have hHeld := hH2 rfl
          clear hH2
          (try simp only [Act.put, List.setIfInBounds_toArray, List.set_cons_zero, List.set_cons_succ])
        rotate_left 1
        focus
          go_simp
          have HDn := Lib.hid (HD.out.ints 1024 [0, 1000, 1001] #[.int .i64 (0), .int .i64 (1000), .int .i64 (1001)] (by intro x hx; simp at hx; unfold lim; omega) rfl)
          clear HD
          have HD := HDn
          clear HDn
          refine hK.out _ _ (fun _ => Lib.hid HD.out.s.sb) (fun hH2 => ?_)
          clear hK Kz hHeld
          have hHeld := hH2 rfl
          clear hH2
          (try simp only [Act.put, List.setIfInBounds_toArray, List.set_cons_zero, List.set_cons_succ])
          refine anyU_ready (rs := [9]) (by kernel_rfl) (by simp) ?_
          refine EachU.cons (o := { dst := some 49, op := Op.call { callee := Callee.value (Operand.func 25), args := #[Operand.tmp 47, Operand.tmp 48], argTypes := #[27, 22] }, type := 3, pos := "law.go:103", after := #[{ on := 7, ground := Ground.data }, { on := 8, ground := Ground.data }, { on := 6, ground := Ground.chain }], guard := none }) rfl (fun Kz hK => ?_) EachU.nil
          go_simp
          go_at_call 25
          refine (pick_any (lim 1024) _ _ 0 4 4 (by omega) (by omega) _ HD.out.s.t.tp (HD.out.m (1024, _, 4) (by simp))).mono ?_
          rintro e w5 ⟨x2, rfl, hx2, hs⟩
          unfold lim at hx2
          have HDn := Lib.hid (HD.out.tape hs)
          clear hs
          clear HD
          have HD := HDn
          clear HDn
          refine hK.out _ _ (fun _ => Lib.hid HD.out.s.sb) (fun hH2 => ?_)
          clear hK Kz hHeld
          have hHeld := hH2 rfl
          clear hH2
          (try simp only [Act.put, List.setIfInBounds_toArray, List.set_cons_zero, List.set_cons_succ])
          refine anyU_ready (rs := [10]) (by kernel_rfl) (by simp) ?_
          refine EachU.cons (o := { dst := some 50, op := Op.call { callee := Callee.value (Operand.func 24), args := #[Operand.tmp 46, Operand.tmp 49, Operand.const (Value.int IntKind.i64 10)], argTypes := #[47, 3, 3] }, type := 47, pos := "law.go:103", after := #[{ on := 6, ground := Ground.data }, { on := 9, ground := Ground.data }, { on := 9, ground := Ground.chain }], guard := none }) rfl (fun Kz hK => ?_) EachU.nil
          go_simp
          obtain ⟨B2, hB2⟩ : ∃ X, X = B1 ++ nb x2.toNat 10 := ⟨_, rfl⟩
          have hl2 : B2.length ≤ B1.length + 10 := by rw [hB2, List.length_append, nb_len]; omega
          have HB2 := Lib.hid hB2
          clear hB2
          go_at_call 24
          refine (lput_next w.heap.size x2 10 HB2.out (by omega) (by omega) (by decide) (by decide) (by omega) HD.out.s.lt (HD.out.r (B1, p1, c1) (by simp))).mono ?_
          rintro e w5 ⟨p2, c2, rfl, hR, hg⟩
          have HDn := Lib.hid ((HD.out.keep hg).addr hR)
          clear hR hg
          clear HD
          have HD := HDn
          clear HDn
          refine hK.out _ _ (fun _ => Lib.hid HD.out.s.sb) (fun hH2 => ?_)
          clear hK Kz hHeld
          have hHeld := hH2 rfl
          clear hH2
          (try simp only [Act.put, List.setIfInBounds_toArray, List.set_cons_zero, List.set_cons_succ])
          refine anyU_ready (rs := [13]) (by kernel_rfl) (by simp) ?_
          refine EachU.cons (o := { dst := some 53, op := Op.call { callee := Callee.value (Operand.func 25), args := #[Operand.tmp 51, Operand.tmp 52], argTypes := #[27, 22] }, type := 3, pos := "law.go:103", after := #[{ on := 11, ground := Ground.data }, { on := 12, ground := Ground.data }, { on := 10, ground := Ground.chain }], guard := none }) rfl (fun Kz hK => ?_) EachU.nil
          go_simp
          go_at_call 25
          refine (pick_any (lim 1024) _ _ 0 3 3 (by omega) (by omega) _ HD.out.s.t.tp (HD.out.m (1024, _, 3) (by simp))).mono ?_
          rintro e w5 ⟨x3, rfl, hx3, hs⟩
          unfold lim at hx3
          have HDn := Lib.hid (HD.out.tape hs)
          clear hs
          clear HD
          have HD := HDn
          clear HDn
          refine hK.out _ _ (fun _ => Lib.hid HD.out.s.sb) (fun hH2 => ?_)
          clear hK Kz hHeld
          have hHeld := hH2 rfl
          clear hH2
          (try simp only [Act.put, List.setIfInBounds_toArray, List.set_cons_zero, List.set_cons_succ])
          refine anyU_ready (rs := [14]) (by kernel_rfl) (by simp) ?_
          refine EachU.cons (o := { dst := some 54, op := Op.call { callee := Callee.value (Operand.func 24), args := #[Operand.tmp 50, Operand.tmp 53, Operand.const (Value.int IntKind.i64 10)], argTypes := #[47, 3, 3] }, type := 47, pos := "law.go:103", after := #[{ on := 10, ground := Ground.data }, { on := 13, ground := Ground.data }, { on := 13, ground := Ground.chain }], guard := none }) rfl (fun Kz hK => ?_) EachU.nil
          go_simp
          obtain ⟨B3, hB3⟩ : ∃ X, X = B2 ++ nb x3.toNat 10 := ⟨_, rfl⟩
          have hl3 : B3.length ≤ B2.length + 10 := by rw [hB3, List.length_append, nb_len]; omega
          have HB3 := Lib.hid hB3
          clear hB3
          go_at_call 24
          refine (lput_next w.heap.size x3 10 HB3.out (by omega) (by omega) (by decide) (by decide) (by omega) HD.out.s.lt (HD.out.r (B2, p2, c2) (by simp))).mono ?_
          rintro e w5 ⟨p3, c3, rfl, hR, hg⟩
          have HDn := Lib.hid ((HD.out.keep hg).addr hR)
          clear hR hg
          clear HD
          have HD := HDn
          clear HDn
          refine hK.out _ _ (fun _ => Lib.hid HD.out.s.sb) (fun hH2 => ?_)
          clear hK Kz hHeld
          have hHeld := hH2 rfl
          clear hH2
          (try simp only [Act.put, List.setIfInBounds_toArray, List.set_cons_zero, List.set_cons_succ])
        rotate_left 1
        focus
          go_simp
          have HDn := Lib.hid (HD.out.ints 1024 [0, 1000, 1001] #[.int .i64 (0), .int .i64 (1000), .int .i64 (1001)] (by intro x hx; simp at hx; unfold lim; omega) rfl)
          clear HD
          have HD := HDn
          clear HDn
          refine hK.out _ _ (fun _ => Lib.hid HD.out.s.sb) (fun hH2 => ?_)
          clear hK Kz hHeld
          have hHeld := hH2 rfl
          clear hH2
          (try simp only [Act.put, List.setIfInBounds_toArray, List.set_cons_zero, List.set_cons_succ])
          refine anyU_ready (rs := [8]) (by kernel_rfl) (by simp) ?_
          refine EachU.cons (o := { dst := some 48, op := Op.buildSlice 22 4 #[(0, Operand.const (Value.int IntKind.i64 1)), (1, Operand.const (Value.int IntKind.i64 0)), (2, Operand.const (Value.int IntKind.i64 1000)), (3, Operand.const (Value.int IntKind.i64 1001))], type := 22, pos := "law.go:103", after := #[], guard := none }) rfl (fun Kz hK => ?_) EachU.nil
          go_simp
          have HDn := Lib.hid (HD.out.ints 1024 [1, 0, 1000, 1001] #[.int .i64 (1), .int .i64 (0), .int .i64 (1000), .int .i64 (1001)] (by intro x hx; simp at hx; unfold lim; omega) rfl)
          clear HD
          have HD := HDn
          clear HDn
          refine hK.out _ _ (fun _ => Lib.hid HD.out.s.sb) (fun hH2 => ?_)
          clear hK Kz hHeld
          have hHeld := hH2 rfl
          clear hH2
          (try simp only [Act.put, List.setIfInBounds_toArray, List.set_cons_zero, List.set_cons_succ])
          refine anyU_ready (rs := [9]) (by kernel_rfl) (by simp) ?_
          refine EachU.cons (o := { dst := some 49, op := Op.call { callee := Callee.value (Operand.func 25), args := #[Operand.tmp 47, Operand.tmp 48], argTypes := #[27, 22] }, type := 3, pos := "law.go:103", after := #[{ on := 7, ground := Ground.data }, { on := 8, ground := Ground.data }, { on := 6, ground := Ground.chain }], guard := none }) rfl (fun Kz hK => ?_) EachU.nil
          go_simp
          go_at_call 25
          refine (pick_any (lim 1024) _ _ 0 4 4 (by omega) (by omega) _ HD.out.s.t.tp (HD.out.m (1024, _, 4) (by simp))).mono ?_
          rintro e w5 ⟨x2, rfl, hx2, hs⟩
          unfold lim at hx2
          have HDn := Lib.hid (HD.out.tape hs)
          clear hs
          clear HD
          have HD := HDn
          clear HDn
          refine hK.out _ _ (fun _ => Lib.hid HD.out.s.sb) (fun hH2 => ?_)
          clear hK Kz hHeld
          have hHeld := hH2 rfl
          clear hH2
          (try simp only [Act.put, List.setIfInBounds_toArray, List.set_cons_zero, List.set_cons_succ])
          refine anyU_ready (rs := [10]) (by kernel_rfl) (by simp) ?_
          refine EachU.cons (o := { dst := some 50, op := Op.call { callee := Callee.value (Operand.func 24), args := #[Operand.tmp 46, Operand.tmp 49, Operand.const (Value.int IntKind.i64 10)], argTypes := #[47, 3, 3] }, type := 47, pos := "law.go:103", after := #[{ on := 6, ground := Ground.data }, { on := 9, ground := Ground.data }, { on := 9, ground := Ground.chain }], guard := none }) rfl (fun Kz hK => ?_) EachU.nil
          go_simp
          obtain ⟨B2, hB2⟩ : ∃ X, X = B1 ++ nb x2.toNat 10 := ⟨_, rfl⟩
          have hl2 : B2.length ≤ B1.length + 10 := by rw [hB2, List.length_append, nb_len]; omega
          have HB2 := Lib.hid hB2
          clear hB2
          go_at_call 24
          refine (lput_next w.heap.size x2 10 HB2.out (by omega) (by omega) (by decide) (by decide) (by omega) HD.out.s.lt (HD.out.r (B1, p1, c1) (by simp))).mono ?_
          rintro e w5 ⟨p2, c2, rfl, hR, hg⟩
          have HDn := Lib.hid ((HD.out.keep hg).addr hR)
          clear hR hg
          clear HD
          have HD := HDn
          clear HDn
          refine hK.out _ _ (fun _ => Lib.hid HD.out.s.sb) (fun hH2 => ?_)
          clear hK Kz hHeld
          have hHeld := hH2 rfl
          clear hH2
          (try simp only [Act.put, List.setIfInBounds_toArray, List.set_cons_zero, List.set_cons_succ])
          refine anyU_ready (rs := [13]) (by kernel_rfl) (by simp) ?_
          refine EachU.cons (o := { dst := some 53, op := Op.call { callee := Callee.value (Operand.func 25), args := #[Operand.tmp 51, Operand.tmp 52], argTypes := #[27, 22] }, type := 3, pos := "law.go:103", after := #[{ on := 11, ground := Ground.data }, { on := 12, ground := Ground.data }, { on := 10, ground := Ground.chain }], guard := none }) rfl (fun Kz hK => ?_) EachU.nil
          go_simp
          go_at_call 25
          refine (pick_any (lim 1024) _ _ 0 3 3 (by omega) (by omega) _ HD.out.s.t.tp (HD.out.m (1024, _, 3) (by simp))).mono ?_
          rintro e w5 ⟨x3, rfl, hx3, hs⟩
          unfold lim at hx3
          have HDn := Lib.hid (HD.out.tape hs)
          clear hs
          clear HD
          have HD := HDn
          clear HDn
          refine hK.out _ _ (fun _ => Lib.hid HD.out.s.sb) (fun hH2 => ?_)
          clear hK Kz hHeld
          have hHeld := hH2 rfl
          clear hH2
          (try simp only [Act.put, List.setIfInBounds_toArray, List.set_cons_zero, List.set_cons_succ])
          refine anyU_ready (rs := [14]) (by kernel_rfl) (by simp) ?_
          refine EachU.cons (o := { dst := some 54, op := Op.call { callee := Callee.value (Operand.func 24), args := #[Operand.tmp 50, Operand.tmp 53, Operand.const (Value.int IntKind.i64 10)], argTypes := #[47, 3, 3] }, type := 47, pos := "law.go:103", after := #[{ on := 10, ground := Ground.data }, { on := 13, ground := Ground.data }, { on := 13, ground := Ground.chain }], guard := none }) rfl (fun Kz hK => ?_) EachU.nil
          go_simp
          obtain ⟨B3, hB3⟩ : ∃ X, X = B2 ++ nb x3.toNat 10 := ⟨_, rfl⟩
          have hl3 : B3.length ≤ B2.length + 10 := by rw [hB3, List.length_append, nb_len]; omega
          have HB3 := Lib.hid hB3
          clear hB3
          go_at_call 24
          refine (lput_next w.heap.size x3 10 HB3.out (by omega) (by omega) (by decide) (by decide) (by omega) HD.out.s.lt (HD.out.r (B2, p2, c2) (by simp))).mono ?_
          rintro e w5 ⟨p3, c3, rfl, hR, hg⟩
          have HDn := Lib.hid ((HD.out.keep hg).addr hR)
          clear hR hg
          clear HD
          have HD := HDn
          clear HDn
          refine hK.out _ _ (fun _ => Lib.hid HD.out.s.sb) (fun hH2 => ?_)
          clear hK Kz hHeld
          have hHeld := hH2 rfl
          clear hH2
          (try simp only [Act.put, List.setIfInBounds_toArray, List.set_cons_zero, List.set_cons_succ])
        rotate_left 1
        focus
          go_simp
          have HDn := Lib.hid (HD.out.ints 1024 [1, 0, 1000, 1001] #[.int .i64 (1), .int .i64 (0), .int .i64 (1000), .int .i64 (1001)] (by intro x hx; simp at hx; unfold lim; omega) rfl)
          clear HD
          have HD := HDn
          clear HDn
          refine hK.out _ _ (fun _ => Lib.hid HD.out.s.sb) (fun hH2 => ?_)
          clear hK Kz hHeld
          have hHeld := hH2 rfl
          clear hH2
          (try simp only [Act.put, List.setIfInBounds_toArray, List.set_cons_zero, List.set_cons_succ])
          refine anyU_ready (rs := [6, 12]) (by kernel_rfl) (by simp) ?_
          refine EachU.cons (o := { dst := some 46, op := Op.call { callee := Callee.value (Operand.func 24), args := #[Operand.tmp 40, Operand.tmp 45, Operand.const (Value.int IntKind.i64 7)], argTypes := #[47, 3, 3] }, type := 47, pos := "law.go:103", after := #[{ on := 0, ground := Ground.data }, { on := 5, ground := Ground.data }, { on := 5, ground := Ground.chain }], guard := none }) rfl (fun Kz hK => ?_) (EachU.cons (o := { dst := some 52, op := Op.buildSlice 22 3 #[(0, Operand.const (Value.int IntKind.i64 0)), (1, Operand.const (Value.int IntKind.i64 1000)), (2, Operand.const (Value.int IntKind.i64 1001))], type := 22, pos := "law.go:103", after := #[], guard := none }) rfl (fun Kz hK => ?_) EachU.nil)
        focus
          go_simp
          obtain ⟨B1, hB1⟩ : ∃ X, X = B ++ nb x1.toNat 7 := ⟨_, rfl⟩
          have hl1 : B1.length ≤ B.length + 7 := by rw [hB1, List.length_append, nb_len]; omega
          have HB1 := Lib.hid hB1
          clear hB1
          go_at_call 24
          refine (lput_next w.heap.size x1 7 HB1.out (by omega) (by omega) (by decide) (by decide) (by omega) HD.out.s.lt (HD.out.s.br)).mono ?_
          rintro e w5 ⟨p1, c1, rfl, hR, hg⟩
          have HDn := Lib.hid ((HD.out.keep hg).addr hR)
          clear hR hg
          clear HD
          have HD := HDn
          clear HDn
          refine hK.out _ _ (fun _ => Lib.hid HD.out.s.sb) (fun hH2 => ?_)
          clear hK Kz hHeld
          have hHeld := hH2 rfl
          clear hH2
          (try simp only [Act.put, List.setIfInBounds_toArray, List.set_cons_zero, List.set_cons_succ])
          refine anyU_ready (rs := [9, 12]) (by kernel_rfl) (by simp) ?_
          refine EachU.cons (o := { dst := some 49, op := Op.call { callee := Callee.value (Operand.func 25), args := #[Operand.tmp 47, Operand.tmp 48], argTypes := #[27, 22] }, type := 3, pos := "law.go:103", after := #[{ on := 7, ground := Ground.data }, { on := 8, ground := Ground.data }, { on := 6, ground := Ground.chain }], guard := none }) rfl (fun Kz hK => ?_) (EachU.cons (o := { dst := some 52, op := Op.buildSlice 22 3 #[(0, Operand.const (Value.int IntKind.i64 0)), (1, Operand.const (Value.int IntKind.i64 1000)), (2, Operand.const (Value.int IntKind.i64 1001))], type := 22, pos := "law.go:103", after := #[], guard := none }) rfl (fun Kz hK => ?_) EachU.nil)
        focus
          go_simp
          go_at_call 25
          refine (pick_any (lim 1024) _ _ 0 4 4 (by omega) (by omega) _ HD.out.s.t.tp (HD.out.m (1024, _, 4) (by simp))).mono ?_
          rintro e w5 ⟨x2, rfl, hx2, hs⟩
          unfold lim at hx2
          have HDn := Lib.hid (HD.out.tape hs)
          clear hs
          clear HD
          have HD := HDn
          clear HDn
          refine hK.out _ _ (fun _ => Lib.hid HD.out.s.sb) (fun hH2 => ?_)
          clear hK Kz hHeld
          have hHeld := hH2 rfl
          clear hH2
          (try simp only [Act.put, List.setIfInBounds_toArray, List.set_cons_zero, List.set_cons_succ])
          refine anyU_ready (rs := [10, 12]) (by kernel_rfl) (by simp) ?_
          refine EachU.cons (o := { dst := some 50, op := Op.call { callee := Callee.value (Operand.func 24), args := #[Operand.tmp 46, Operand.tmp 49, Operand.const (Value.int IntKind.i64 10)], argTypes := #[47, 3, 3] }, type := 47, pos := "law.go:103", after := #[{ on := 6, ground := Ground.data }, { on := 9, ground := Ground.data }, { on := 9, ground := Ground.chain }], guard := none }) rfl (fun Kz hK => ?_) (EachU.cons (o := { dst := some 52, op := Op.buildSlice 22 3 #[(0, Operand.const (Value.int IntKind.i64 0)), (1, Operand.const (Value.int IntKind.i64 1000)), (2, Operand.const (Value.int IntKind.i64 1001))], type := 22, pos := "law.go:103", after := #[], guard := none }) rfl (fun Kz hK => ?_) EachU.nil)
        focus
          go_simp
          obtain ⟨B2, hB2⟩ : ∃ X, X = B1 ++ nb x2.toNat 10 := ⟨_, rfl⟩
          have hl2 : B2.length ≤ B1.length + 10 := by rw [hB2, List.length_append, nb_len]; omega
          have HB2 := Lib.hid hB2
          clear hB2
          go_at_call 24
          refine (lput_next w.heap.size x2 10 HB2.out (by omega) (by omega) (by decide) (by decide) (by omega) HD.out.s.lt (HD.out.r (B1, p1, c1) (by simp))).mono ?_
          rintro e w5 ⟨p2, c2, rfl, hR, hg⟩
          have HDn := Lib.hid ((HD.out.keep hg).addr hR)
          clear hR hg
          clear HD
          have HD := HDn
          clear HDn
          refine hK.out _ _ (fun _ => Lib.hid HD.out.s.sb) (fun hH2 => ?_)
          clear hK Kz hHeld
          have hHeld := hH2 rfl
          clear hH2
          (try simp only [Act.put, List.setIfInBounds_toArray, List.set_cons_zero, List.set_cons_succ])
          refine anyU_ready (rs := [12]) (by kernel_rfl) (by simp) ?_
          refine EachU.cons (o := { dst := some 52, op := Op.buildSlice 22 3 #[(0, Operand.const (Value.int IntKind.i64 0)), (1, Operand.const (Value.int IntKind.i64 1000)), (2, Operand.const (Value.int IntKind.i64 1001))], type := 22, pos := "law.go:103", after := #[], guard := none }) rfl (fun Kz hK => ?_) EachU.nil
          go_simp
          have HDn := Lib.hid (HD.out.ints 1024 [0, 1000, 1001] #[.int .i64 (0), .int .i64 (1000), .int .i64 (1001)] (by intro x hx; simp at hx; unfold lim; omega) rfl)
          clear HD
          have HD := HDn
          clear HDn
          refine hK.out _ _ (fun _ => Lib.hid HD.out.s.sb) (fun hH2 => ?_)
          clear hK Kz hHeld
          have hHeld := hH2 rfl
          clear hH2
          (try simp only [Act.put, List.setIfInBounds_toArray, List.set_cons_zero, List.set_cons_succ])
          refine anyU_ready (rs := [13]) (by kernel_rfl) (by simp) ?_
          refine EachU.cons (o := { dst := some 53, op := Op.call { callee := Callee.value (Operand.func 25), args := #[Operand.tmp 51, Operand.tmp 52], argTypes := #[27, 22] }, type := 3, pos := "law.go:103", after := #[{ on := 11, ground := Ground.data }, { on := 12, ground := Ground.data }, { on := 10, ground := Ground.chain }], guard := none }) rfl (fun Kz hK => ?_) EachU.nil
          go_simp
          go_at_call 25
          refine (pick_any (lim 1024) _ _ 0 3 3 (by omega) (by omega) _ HD.out.s.t.tp (HD.out.m (1024, _, 3) (by simp))).mono ?_
          rintro e w5 ⟨x3, rfl, hx3, hs⟩
          unfold lim at hx3
          have HDn := Lib.hid (HD.out.tape hs)
          clear hs
          clear HD
          have HD := HDn
          clear HDn
          refine hK.out _ _ (fun _ => Lib.hid HD.out.s.sb) (fun hH2 => ?_)
          clear hK Kz hHeld
          have hHeld := hH2 rfl
          clear hH2
          (try simp only [Act.put, List.setIfInBounds_toArray, List.set_cons_zero, List.set_cons_succ])
          refine anyU_ready (rs := [14]) (by kernel_rfl) (by simp) ?_
          refine EachU.cons (o := { dst := some 54, op := Op.call { callee := Callee.value (Operand.func 24), args := #[Operand.tmp 50, Operand.tmp 53, Operand.const (Value.int IntKind.i64 10)], argTypes := #[47, 3, 3] }, type := 47, pos := "law.go:103", after := #[{ on := 10, ground := Ground.data }, { on := 13, ground := Ground.data }, { on := 13, ground := Ground.chain }], guard := none }) rfl (fun Kz hK => ?_) EachU.nil
          go_simp
          obtain ⟨B3, hB3⟩ : ∃ X, X = B2 ++ nb x3.toNat 10 := ⟨_, rfl⟩
          have hl3 : B3.length ≤ B2.length + 10 := by rw [hB3, List.length_append, nb_len]; omega
          have HB3 := Lib.hid hB3
          clear hB3
          go_at_call 24
          refine (lput_next w.heap.size x3 10 HB3.out (by omega) (by omega) (by decide) (by decide) (by omega) HD.out.s.lt (HD.out.r (B2, p2, c2) (by simp))).mono ?_
          rintro e w5 ⟨p3, c3, rfl, hR, hg⟩
          have HDn := Lib.hid ((HD.out.keep hg).addr hR)
          clear hR hg
          clear HD
          have HD := HDn
          clear HDn
          refine hK.out _ _ (fun _ => Lib.hid HD.out.s.sb) (fun hH2 => ?_)
          clear hK Kz hHeld
          have hHeld := hH2 rfl
          clear hH2
          (try simp only [Act.put, List.setIfInBounds_toArray, List.set_cons_zero, List.set_cons_succ])
        rotate_left 1
        focus
          go_simp
          have HDn := Lib.hid (HD.out.ints 1024 [0, 1000, 1001] #[.int .i64 (0), .int .i64 (1000), .int .i64 (1001)] (by intro x hx; simp at hx; unfold lim; omega) rfl)
          clear HD
          have HD := HDn
          clear HDn
          refine hK.out _ _ (fun _ => Lib.hid HD.out.s.sb) (fun hH2 => ?_)
          clear hK Kz hHeld
          have hHeld := hH2 rfl
          clear hH2
          (try simp only [Act.put, List.setIfInBounds_toArray, List.set_cons_zero, List.set_cons_succ])
          refine anyU_ready (rs := [10]) (by kernel_rfl) (by simp) ?_
          refine EachU.cons (o := { dst := some 50, op := Op.call { callee := Callee.value (Operand.func 24), args := #[Operand.tmp 46, Operand.tmp 49, Operand.const (Value.int IntKind.i64 10)], argTypes := #[47, 3, 3] }, type := 47, pos := "law.go:103", after := #[{ on := 6, ground := Ground.data }, { on := 9, ground := Ground.data }, { on := 9, ground := Ground.chain }], guard := none }) rfl (fun Kz hK => ?_) EachU.nil
          go_simp
          obtain ⟨B2, hB2⟩ : ∃ X, X = B1 ++ nb x2.toNat 10 := ⟨_, rfl⟩
          have hl2 : B2.length ≤ B1.length + 10 := by rw [hB2, List.length_append, nb_len]; omega
          have HB2 := Lib.hid hB2
          clear hB2
          go_at_call 24
          refine (lput_next w.heap.size x2 10 HB2.out (by omega) (by omega) (by decide) (by decide) (by omega) HD.out.s.lt (HD.out.r (B1, p1, c1) (by simp))).mono ?_
          rintro e w5 ⟨p2, c2, rfl, hR, hg⟩
          have HDn := Lib.hid ((HD.out.keep hg).addr hR)
          clear hR hg
          clear HD
          have HD := HDn
          clear HDn
          refine hK.out _ _ (fun _ => Lib.hid HD.out.s.sb) (fun hH2 => ?_)
          clear hK Kz hHeld
          have hHeld := hH2 rfl
          clear hH2
          (try simp only [Act.put, List.setIfInBounds_toArray, List.set_cons_zero, List.set_cons_succ])
          refine anyU_ready (rs := [13]) (by kernel_rfl) (by simp) ?_
          refine EachU.cons (o := { dst := some 53, op := Op.call { callee := Callee.value (Operand.func 25), args := #[Operand.tmp 51, Operand.tmp 52], argTypes := #[27, 22] }, type := 3, pos := "law.go:103", after := #[{ on := 11, ground := Ground.data }, { on := 12, ground := Ground.data }, { on := 10, ground := Ground.chain }], guard := none }) rfl (fun Kz hK => ?_) EachU.nil
          go_simp
          go_at_call 25
          refine (pick_any (lim 1024) _ _ 0 3 3 (by omega) (by omega) _ HD.out.s.t.tp (HD.out.m (1024, _, 3) (by simp))).mono ?_
          rintro e w5 ⟨x3, rfl, hx3, hs⟩
          unfold lim at hx3
          have HDn := Lib.hid (HD.out.tape hs)
          clear hs
          clear HD
          have HD := HDn
          clear HDn
          refine hK.out _ _ (fun _ => Lib.hid HD.out.s.sb) (fun hH2 => ?_)
          clear hK Kz hHeld
          have hHeld := hH2 rfl
          clear hH2
          (try simp only [Act.put, List.setIfInBounds_toArray, List.set_cons_zero, List.set_cons_succ])
          refine anyU_ready (rs := [14]) (by kernel_rfl) (by simp) ?_
          refine EachU.cons (o := { dst := some 54, op := Op.call { callee := Callee.value (Operand.func 24), args := #[Operand.tmp 50, Operand.tmp 53, Operand.const (Value.int IntKind.i64 10)], argTypes := #[47, 3, 3] }, type := 47, pos := "law.go:103", after := #[{ on := 10, ground := Ground.data }, { on := 13, ground := Ground.data }, { on := 13, ground := Ground.chain }], guard := none }) rfl (fun Kz hK => ?_) EachU.nil
          go_simp
          obtain ⟨B3, hB3⟩ : ∃ X, X = B2 ++ nb x3.toNat 10 := ⟨_, rfl⟩
          have hl3 : B3.length ≤ B2.length + 10 := by rw [hB3, List.length_append, nb_len]; omega
          have HB3 := Lib.hid hB3
          clear hB3
          go_at_call 24
          refine (lput_next w.heap.size x3 10 HB3.out (by omega) (by omega) (by decide) (by decide) (by omega) HD.out.s.lt (HD.out.r (B2, p2, c2) (by simp))).mono ?_
          rintro e w5 ⟨p3, c3, rfl, hR, hg⟩
          have HDn := Lib.hid ((HD.out.keep hg).addr hR)
          clear hR hg
          clear HD
          have HD := HDn
          clear HDn
          refine hK.out _ _ (fun _ => Lib.hid HD.out.s.sb) (fun hH2 => ?_)
          clear hK Kz hHeld
          have hHeld := hH2 rfl
          clear hH2
          (try simp only [Act.put, List.setIfInBounds_toArray, List.set_cons_zero, List.set_cons_succ])
        rotate_left 1
        focus
          go_simp
          have HDn := Lib.hid (HD.out.ints 1024 [0, 1000, 1001] #[.int .i64 (0), .int .i64 (1000), .int .i64 (1001)] (by intro x hx; simp at hx; unfold lim; omega) rfl)
          clear HD
          have HD := HDn
          clear HDn
          refine hK.out _ _ (fun _ => Lib.hid HD.out.s.sb) (fun hH2 => ?_)
          clear hK Kz hHeld
          have hHeld := hH2 rfl
          clear hH2
          (try simp only [Act.put, List.setIfInBounds_toArray, List.set_cons_zero, List.set_cons_succ])
          refine anyU_ready (rs := [9]) (by kernel_rfl) (by simp) ?_
          refine EachU.cons (o := { dst := some 49, op := Op.call { callee := Callee.value (Operand.func 25), args := #[Operand.tmp 47, Operand.tmp 48], argTypes := #[27, 22] }, type := 3, pos := "law.go:103", after := #[{ on := 7, ground := Ground.data }, { on := 8, ground := Ground.data }, { on := 6, ground := Ground.chain }], guard := none }) rfl (fun Kz hK => ?_) EachU.nil
          go_simp
          go_at_call 25
          refine (pick_any (lim 1024) _ _ 0 4 4 (by omega) (by omega) _ HD.out.s.t.tp (HD.out.m (1024, _, 4) (by simp))).mono ?_
          rintro e w5 ⟨x2, rfl, hx2, hs⟩
          unfold lim at hx2
          have HDn := Lib.hid (HD.out.tape hs)
          clear hs
          clear HD
          have HD := HDn
          clear HDn
          refine hK.out _ _ (fun _ => Lib.hid HD.out.s.sb) (fun hH2 => ?_)
          clear hK Kz hHeld
          have hHeld := hH2 rfl
          clear hH2
          (try simp only [Act.put, List.setIfInBounds_toArray, List.set_cons_zero, List.set_cons_succ])
          refine anyU_ready (rs := [10]) (by kernel_rfl) (by simp) ?_
          refine EachU.cons (o := { dst := some 50, op := Op.call { callee := Callee.value (Operand.func 24), args := #[Operand.tmp 46, Operand.tmp 49, Operand.const (Value.int IntKind.i64 10)], argTypes := #[47, 3, 3] }, type := 47, pos := "law.go:103", after := #[{ on := 6, ground := Ground.data }, { on := 9, ground := Ground.data }, { on := 9, ground := Ground.chain }], guard := none }) rfl (fun Kz hK => ?_) EachU.nil
          go_simp
          obtain ⟨B2, hB2⟩ : ∃ X, X = B1 ++ nb x2.toNat 10 := ⟨_, rfl⟩
          have hl2 : B2.length ≤ B1.length + 10 := by rw [hB2, List.length_append, nb_len]; omega
          have HB2 := Lib.hid hB2
          clear hB2
          go_at_call 24
          refine (lput_next w.heap.size x2 10 HB2.out (by omega) (by omega) (by decide) (by decide) (by omega) HD.out.s.lt (HD.out.r (B1, p1, c1) (by simp))).mono ?_
          rintro e w5 ⟨p2, c2, rfl, hR, hg⟩
          have HDn := Lib.hid ((HD.out.keep hg).addr hR)
          clear hR hg
          clear HD
          have HD := HDn
          clear HDn
          refine hK.out _ _ (fun _ => Lib.hid HD.out.s.sb) (fun hH2 => ?_)
          clear hK Kz hHeld
          have hHeld := hH2 rfl
          clear hH2
          (try simp only [Act.put, List.setIfInBounds_toArray, List.set_cons_zero, List.set_cons_succ])
          refine anyU_ready (rs := [13]) (by kernel_rfl) (by simp) ?_
          refine EachU.cons (o := { dst := some 53, op := Op.call { callee := Callee.value (Operand.func 25), args := #[Operand.tmp 51, Operand.tmp 52], argTypes := #[27, 22] }, type := 3, pos := "law.go:103", after := #[{ on := 11, ground := Ground.data }, { on := 12, ground := Ground.data }, { on := 10, ground := Ground.chain }], guard := none }) rfl (fun Kz hK => ?_) EachU.nil
          go_simp
          go_at_call 25
          refine (pick_any (lim 1024) _ _ 0 3 3 (by omega) (by omega) _ HD.out.s.t.tp (HD.out.m (1024, _, 3) (by simp))).mono ?_
          rintro e w5 ⟨x3, rfl, hx3, hs⟩
          unfold lim at hx3
          have HDn := Lib.hid (HD.out.tape hs)
          clear hs
          clear HD
          have HD := HDn
          clear HDn
          refine hK.out _ _ (fun _ => Lib.hid HD.out.s.sb) (fun hH2 => ?_)
          clear hK Kz hHeld
          have hHeld := hH2 rfl
          clear hH2
          (try simp only [Act.put, List.setIfInBounds_toArray, List.set_cons_zero, List.set_cons_succ])
          refine anyU_ready (rs := [14]) (by kernel_rfl) (by simp) ?_
          refine EachU.cons (o := { dst := some 54, op := Op.call { callee := Callee.value (Operand.func 24), args := #[Operand.tmp 50, Operand.tmp 53, Operand.const (Value.int IntKind.i64 10)], argTypes := #[47, 3, 3] }, type := 47, pos := "law.go:103", after := #[{ on := 10, ground := Ground.data }, { on := 13, ground := Ground.data }, { on := 13, ground := Ground.chain }], guard := none }) rfl (fun Kz hK => ?_) EachU.nil
          go_simp
          obtain ⟨B3, hB3⟩ : ∃ X, X = B2 ++ nb x3.toNat 10 := ⟨_, rfl⟩
          have hl3 : B3.length ≤ B2.length + 10 := by rw [hB3, List.length_append, nb_len]; omega
          have HB3 := Lib.hid hB3
          clear hB3
          go_at_call 24
          refine (lput_next w.heap.size x3 10 HB3.out (by omega) (by omega) (by decide) (by decide) (by omega) HD.out.s.lt (HD.out.r (B2, p2, c2) (by simp))).mono ?_
          rintro e w5 ⟨p3, c3, rfl, hR, hg⟩
          have HDn := Lib.hid ((HD.out.keep hg).addr hR)
          clear hR hg
          clear HD
          have HD := HDn
          clear HDn
          refine hK.out _ _ (fun _ => Lib.hid HD.out.s.sb) (fun hH2 => ?_)
          clear hK Kz hHeld
          have hHeld := hH2 rfl
          clear hH2
          (try simp only [Act.put, List.setIfInBounds_toArray, List.set_cons_zero, List.set_cons_succ])
        rotate_left 1
        focus
          go_simp
          have HDn := Lib.hid (HD.out.ints 1024 [0, 1000, 1001] #[.int .i64 (0), .int .i64 (1000), .int .i64 (1001)] (by intro x hx; simp at hx; unfold lim; omega) rfl)
          clear HD
          have HD := HDn
          clear HDn
          refine hK.out _ _ (fun _ => Lib.hid HD.out.s.sb) (fun hH2 => ?_)
          clear hK Kz hHeld
          have hHeld := hH2 rfl
          clear hH2
          (try simp only [Act.put, List.setIfInBounds_toArray, List.set_cons_zero, List.set_cons_succ])
          refine anyU_ready (rs := [6]) (by kernel_rfl) (by simp) ?_
          refine EachU.cons (o := { dst := some 46, op := Op.call { callee := Callee.value (Operand.func 24), args := #[Operand.tmp 40, Operand.tmp 45, Operand.const (Value.int IntKind.i64 7)], argTypes := #[47, 3, 3] }, type := 47, pos := "law.go:103", after := #[{ on := 0, ground := Ground.data }, { on := 5, ground := Ground.data }, { on := 5, ground := Ground.chain }], guard := none }) rfl (fun Kz hK => ?_) EachU.nil
          go_simp
          obtain ⟨B1, hB1⟩ : ∃ X, X = B ++ nb x1.toNat 7 := ⟨_, rfl⟩
          have hl1 : B1.length ≤ B.length + 7 := by rw [hB1, List.length_append, nb_len]; omega
          have HB1 := Lib.hid hB1
          clear hB1
          go_at_call 24
          refine (lput_next w.heap.size x1 7 HB1.out (by omega) (by omega) (by decide) (by decide) (by omega) HD.out.s.lt (HD.out.s.br)).mono ?_
          rintro e w5 ⟨p1, c1, rfl, hR, hg⟩
          have HDn := Lib.hid ((HD.out.keep hg).addr hR)
          clear hR hg
          clear HD
          have HD := HDn
          clear HDn
          refine hK.out _ _ (fun _ => Lib.hid HD.out.s.sb) (fun hH2 => ?_)
          clear hK Kz hHeld
          have hHeld := hH2 rfl
          clear hH2
          (try simp only [Act.put, List.setIfInBounds_toArray, List.set_cons_zero, List.set_cons_succ])
          refine anyU_ready (rs := [9]) (by kernel_rfl) (by simp) ?_
          refine EachU.cons (o := { dst := some 49, op := Op.call { callee := Callee.value (Operand.func 25), args := #[Operand.tmp 47, Operand.tmp 48], argTypes := #[27, 22] }, type := 3, pos := "law.go:103", after := #[{ on := 7, ground := Ground.data }, { on := 8, ground := Ground.data }, { on := 6, ground := Ground.chain }], guard := none }) rfl (fun Kz hK => ?_) EachU.nil
          go_simp
          go_at_call 25
          refine (pick_any (lim 1024) _ _ 0 4 4 (by omega) (by omega) _ HD.out.s.t.tp (HD.out.m (1024, _, 4) (by simp))).mono ?_
          rintro e w5 ⟨x2, rfl, hx2, hs⟩
          unfold lim at hx2
          have HDn := Lib.hid (HD.out.tape hs)
          clear hs
          clear HD
          have HD := HDn
          clear HDn
          refine hK.out _ _ (fun _ => Lib.hid HD.out.s.sb) (fun hH2 => ?_)
          clear hK Kz hHeld
          have hHeld := hH2 rfl
          clear hH2
          (try simp only [Act.put, List.setIfInBounds_toArray, List.set_cons_zero, List.set_cons_succ])
          refine anyU_ready (rs := [10]) (by kernel_rfl) (by simp) ?_
          refine EachU.cons (o := { dst := some 50, op := Op.call { callee := Callee.value (Operand.func 24), args := #[Operand.tmp 46, Operand.tmp 49, Operand.const (Value.int IntKind.i64 10)], argTypes := #[47, 3, 3] }, type := 47, pos := "law.go:103", after := #[{ on := 6, ground := Ground.data }, { on := 9, ground := Ground.data }, { on := 9, ground := Ground.chain }], guard := none }) rfl (fun Kz hK => ?_) EachU.nil
          go_simp
          obtain ⟨B2, hB2⟩ : ∃ X, X = B1 ++ nb x2.toNat 10 := ⟨_, rfl⟩
          have hl2 : B2.length ≤ B1.length + 10 := by rw [hB2, List.length_append, nb_len]; omega
          have HB2 := Lib.hid hB2
          clear hB2
          go_at_call 24
          refine (lput_next w.heap.size x2 10 HB2.out (by omega) (by omega) (by decide) (by decide) (by omega) HD.out.s.lt (HD.out.r (B1, p1, c1) (by simp))).mono ?_
          rintro e w5 ⟨p2, c2, rfl, hR, hg⟩
          have HDn := Lib.hid ((HD.out.keep hg).addr hR)
          clear hR hg
          clear HD
          have HD := HDn
          clear HDn
          refine hK.out _ _ (fun _ => Lib.hid HD.out.s.sb) (fun hH2 => ?_)
          clear hK Kz hHeld
          have hHeld := hH2 rfl
          clear hH2
          (try simp only [Act.put, List.setIfInBounds_toArray, List.set_cons_zero, List.set_cons_succ])
          refine anyU_ready (rs := [13]) (by kernel_rfl) (by simp) ?_
          refine EachU.cons (o := { dst := some 53, op := Op.call { callee := Callee.value (Operand.func 25), args := #[Operand.tmp 51, Operand.tmp 52], argTypes := #[27, 22] }, type := 3, pos := "law.go:103", after := #[{ on := 11, ground := Ground.data }, { on := 12, ground := Ground.data }, { on := 10, ground := Ground.chain }], guard := none }) rfl (fun Kz hK => ?_) EachU.nil
          go_simp
          go_at_call 25
          refine (pick_any (lim 1024) _ _ 0 3 3 (by omega) (by omega) _ HD.out.s.t.tp (HD.out.m (1024, _, 3) (by simp))).mono ?_
          rintro e w5 ⟨x3, rfl, hx3, hs⟩
          unfold lim at hx3
          have HDn := Lib.hid (HD.out.tape hs)
          clear hs
          clear HD
          have HD := HDn
          clear HDn
          refine hK.out _ _ (fun _ => Lib.hid HD.out.s.sb) (fun hH2 => ?_)
          clear hK Kz hHeld
          have hHeld := hH2 rfl
          clear hH2
          (try simp only [Act.put, List.setIfInBounds_toArray, List.set_cons_zero, List.set_cons_succ])
          refine anyU_ready (rs := [14]) (by kernel_rfl) (by simp) ?_
          refine EachU.cons (o := { dst := some 54, op := Op.call { callee := Callee.value (Operand.func 24), args := #[Operand.tmp 50, Operand.tmp 53, Operand.const (Value.int IntKind.i64 10)], argTypes := #[47, 3, 3] }, type := 47, pos := "law.go:103", after := #[{ on := 10, ground := Ground.data }, { on := 13, ground := Ground.data }, { on := 13, ground := Ground.chain }], guard := none }) rfl (fun Kz hK => ?_) EachU.nil
          go_simp
          obtain ⟨B3, hB3⟩ : ∃ X, X = B2 ++ nb x3.toNat 10 := ⟨_, rfl⟩
          have hl3 : B3.length ≤ B2.length + 10 := by rw [hB3, List.length_append, nb_len]; omega
          have HB3 := Lib.hid hB3
          clear hB3
          go_at_call 24
          refine (lput_next w.heap.size x3 10 HB3.out (by omega) (by omega) (by decide) (by decide) (by omega) HD.out.s.lt (HD.out.r (B2, p2, c2) (by simp))).mono ?_
          rintro e w5 ⟨p3, c3, rfl, hR, hg⟩
          have HDn := Lib.hid ((HD.out.keep hg).addr hR)
          clear hR hg
          clear HD
          have HD := HDn
          clear HDn
          refine hK.out _ _ (fun _ => Lib.hid HD.out.s.sb) (fun hH2 => ?_)
          clear hK Kz hHeld
          have hHeld := hH2 rfl
          clear hH2
          (try simp only [Act.put, List.setIfInBounds_toArray, List.set_cons_zero, List.set_cons_succ])
        rotate_left 1
        focus
          go_simp
          have HDn := Lib.hid (HD.out.ints 1024 [0, 1000, 1001] #[.int .i64 (0), .int .i64 (1000), .int .i64 (1001)] (by intro x hx; simp at hx; unfold lim; omega) rfl)
          clear HD
          have HD := HDn
          clear HDn
          refine hK.out _ _ (fun _ => Lib.hid HD.out.s.sb) (fun hH2 => ?_)
          clear hK Kz hHeld
          have hHeld := hH2 rfl
          clear hH2
          (try simp only [Act.put, List.setIfInBounds_toArray, List.set_cons_zero, List.set_cons_succ])
          refine anyU_ready (rs := [6, 8]) (by kernel_rfl) (by simp) ?_
          refine EachU.cons (o := { dst := some 46, op := Op.call { callee := Callee.value (Operand.func 24), args := #[Operand.tmp 40, Operand.tmp 45, Operand.const (Value.int IntKind.i64 7)], argTypes := #[47, 3, 3] }, type := 47, pos := "law.go:103", after := #[{ on := 0, ground := Ground.data }, { on := 5, ground := Ground.data }, { on := 5, ground := Ground.chain }], guard := none }) rfl (fun Kz hK => ?_) (EachU.cons (o := { dst := some 48, op := Op.buildSlice 22 4 #[(0, Operand.const (Value.int IntKind.i64 1)), (1, Operand.const (Value.int IntKind.i64 0)), (2, Operand.const (Value.int IntKind.i64 1000)), (3, Operand.const (Value.int IntKind.i64 1001))], type := 22, pos := "law.go:103", after := #[], guard := none }) rfl (fun Kz hK => ?_) EachU.nil)
        focus
          go_simp
          obtain ⟨B1, hB1⟩ : ∃ X, X = B ++ nb x1.toNat 7 := ⟨_, rfl⟩
          have hl1 : B1.length ≤ B.length + 7 := by rw [hB1, List.length_append, nb_len]; omega
          have HB1 := Lib.hid hB1
          clear hB1
          go_at_call 24
          refine (lput_next w.heap.size x1 7 HB1.out (by omega) (by omega) (by decide) (by decide) (by omega) HD.out.s.lt (HD.out.s.br)).mono ?_
          rintro e w5 ⟨p1, c1, rfl, hR, hg⟩
          have HDn := Lib.hid ((HD.out.keep hg).addr hR)
          clear hR hg
          clear HD
          have HD := HDn
          clear HDn
          refine hK.out _ _ (fun _ => Lib.hid HD.out.s.sb) (fun hH2 => ?_)
          clear hK Kz hHeld
          have hHeld := hH2 rfl
          clear hH2
          (try simp only [Act.put, List.setIfInBounds_toArray, List.set_cons_zero, List.set_cons_succ])
          refine anyU_ready (rs := [8]) (by kernel_rfl) (by simp) ?_
          refine EachU.cons (o := { dst := some 48, op := Op.buildSlice 22 4 #[(0, Operand.const (Value.int IntKind.i64 1)), (1, Operand.const (Value.int IntKind.i64 0)), (2, Operand.const (Value.int IntKind.i64 1000)), (3, Operand.const (Value.int IntKind.i64 1001))], type := 22, pos := "law.go:103", after := #[], guard := none }) rfl (fun Kz hK => ?_) EachU.nil
          go_simp
          have HDn := Lib.hid (HD.out.ints 1024 [1, 0, 1000, 1001] #[.int .i64 (1), .int .i64 (0), .int .i64 (1000), .int .i64 (1001)] (by intro x hx; simp at hx; unfold lim; omega) rfl)
          clear HD
          have HD := HDn
          clear HDn
          refine hK.out _ _ (fun _ => Lib.hid HD.out.s.sb) (fun hH2 => ?_)
          clear hK Kz hHeld
          have hHeld := hH2 rfl
          clear hH2
          (try simp only [Act.put, List.setIfInBounds_toArray, List.set_cons_zero, List.set_cons_succ])
          refine anyU_ready (rs := [9]) (by kernel_rfl) (by simp) ?_
          refine EachU.cons (o := { dst := some 49, op := Op.call { callee := Callee.value (Operand.func 25), args := #[Operand.tmp 47, Operand.tmp 48], argTypes := #[27, 22] }, type := 3, pos := "law.go:103", after := #[{ on := 7, ground := Ground.data }, { on := 8, ground := Ground.data }, { on := 6, ground := Ground.chain }], guard := none }) rfl (fun Kz hK => ?_) EachU.nil
          go_simp
          go_at_call 25
          refine (pick_any (lim 1024) _ _ 0 4 4 (by omega) (by omega) _ HD.out.s.t.tp (HD.out.m (1024, _, 4) (by simp))).mono ?_
          rintro e w5 ⟨x2, rfl, hx2, hs⟩
          unfold lim at hx2
          have HDn := Lib.hid (HD.out.tape hs)
          clear hs
          clear HD
          have HD := HDn
          clear HDn
          refine hK.out _ _ (fun _ => Lib.hid HD.out.s.sb) (fun hH2 => ?_)
          clear hK Kz hHeld
          have hHeld := hH2 rfl
          clear hH2
          (try simp only [Act.put, List.setIfInBounds_toArray, List.set_cons_zero, List.set_cons_succ])
          refine anyU_ready (rs := [10]) (by kernel_rfl) (by simp) ?_
          refine EachU.cons (o := { dst := some 50, op := Op.call { callee := Callee.value (Operand.func 24), args := #[Operand.tmp 46, Operand.tmp 49, Operand.const (Value.int IntKind.i64 10)], argTypes := #[47, 3, 3] }, type := 47, pos := "law.go:103", after := #[{ on := 6, ground := Ground.data }, { on := 9, ground := Ground.data }, { on := 9, ground := Ground.chain }], guard := none }) rfl (fun Kz hK => ?_) EachU.nil
          go_simp
          obtain ⟨B2, hB2⟩ : ∃ X, X = B1 ++ nb x2.toNat 10 := ⟨_, rfl⟩
          have hl2 : B2.length ≤ B1.length + 10 := by rw [hB2, List.length_append, nb_len]; omega
          have HB2 := Lib.hid hB2
          clear hB2
          go_at_call 24
          refine (lput_next w.heap.size x2 10 HB2.out (by omega) (by omega) (by decide) (by decide) (by omega) HD.out.s.lt (HD.out.r (B1, p1, c1) (by simp))).mono ?_
          rintro e w5 ⟨p2, c2, rfl, hR, hg⟩
          have HDn := Lib.hid ((HD.out.keep hg).addr hR)
          clear hR hg
          clear HD
          have HD := HDn
          clear HDn
          refine hK.out _ _ (fun _ => Lib.hid HD.out.s.sb) (fun hH2 => ?_)
          clear hK Kz hHeld
          have hHeld := hH2 rfl
          clear hH2
          (try simp only [Act.put, List.setIfInBounds_toArray, List.set_cons_zero, List.set_cons_succ])
          refine anyU_ready (rs := [13]) (by kernel_rfl) (by simp) ?_
          refine EachU.cons (o := { dst := some 53, op := Op.call { callee := Callee.value (Operand.func 25), args := #[Operand.tmp 51, Operand.tmp 52], argTypes := #[27, 22] }, type := 3, pos := "law.go:103", after := #[{ on := 11, ground := Ground.data }, { on := 12, ground := Ground.data }, { on := 10, ground := Ground.chain }], guard := none }) rfl (fun Kz hK => ?_) EachU.nil
          go_simp
          go_at_call 25
          refine (pick_any (lim 1024) _ _ 0 3 3 (by omega) (by omega) _ HD.out.s.t.tp (HD.out.m (1024, _, 3) (by simp))).mono ?_
          rintro e w5 ⟨x3, rfl, hx3, hs⟩
          unfold lim at hx3
          have HDn := Lib.hid (HD.out.tape hs)
          clear hs
          clear HD
          have HD := HDn
          clear HDn
          refine hK.out _ _ (fun _ => Lib.hid HD.out.s.sb) (fun hH2 => ?_)
          clear hK Kz hHeld
          have hHeld := hH2 rfl
          clear hH2
          (try simp only [Act.put, List.setIfInBounds_toArray, List.set_cons_zero, List.set_cons_succ])
          refine anyU_ready (rs := [14]) (by kernel_rfl) (by simp) ?_
          refine EachU.cons (o := { dst := some 54, op := Op.call { callee := Callee.value (Operand.func 24), args := #[Operand.tmp 50, Operand.tmp 53, Operand.const (Value.int IntKind.i64 10)], argTypes := #[47, 3, 3] }, type := 47, pos := "law.go:103", after := #[{ on := 10, ground := Ground.data }, { on := 13, ground := Ground.data }, { on := 13, ground := Ground.chain }], guard := none }) rfl (fun Kz hK => ?_) EachU.nil
          go_simp
          obtain ⟨B3, hB3⟩ : ∃ X, X = B2 ++ nb x3.toNat 10 := ⟨_, rfl⟩
          have hl3 : B3.length ≤ B2.length + 10 := by rw [hB3, List.length_append, nb_len]; omega
          have HB3 := Lib.hid hB3
          clear hB3
          go_at_call 24
          refine (lput_next w.heap.size x3 10 HB3.out (by omega) (by omega) (by decide) (by decide) (by omega) HD.out.s.lt (HD.out.r (B2, p2, c2) (by simp))).mono ?_
          rintro e w5 ⟨p3, c3, rfl, hR, hg⟩
          have HDn := Lib.hid ((HD.out.keep hg).addr hR)
          clear hR hg
          clear HD
          have HD := HDn
          clear HDn
          refine hK.out _ _ (fun _ => Lib.hid HD.out.s.sb) (fun hH2 => ?_)
          clear hK Kz hHeld
          have hHeld := hH2 rfl
          clear hH2
          (try simp only [Act.put, List.setIfInBounds_toArray, List.set_cons_zero, List.set_cons_succ])
        rotate_left 1
        focus
          go_simp
          have HDn := Lib.hid (HD.out.ints 1024 [1, 0, 1000, 1001] #[.int .i64 (1), .int .i64 (0), .int .i64 (1000), .int .i64 (1001)] (by intro x hx; simp at hx; unfold lim; omega) rfl)
          clear HD
          have HD := HDn
          clear HDn
          refine hK.out _ _ (fun _ => Lib.hid HD.out.s.sb) (fun hH2 => ?_)
          clear hK Kz hHeld
          have hHeld := hH2 rfl
          clear hH2
          (try simp only [Act.put, List.setIfInBounds_toArray, List.set_cons_zero, List.set_cons_succ])
          refine anyU_ready (rs := [6]) (by kernel_rfl) (by simp) ?_
          refine EachU.cons (o := { dst := some 46, op := Op.call { callee := Callee.value (Operand.func 24), args := #[Operand.tmp 40, Operand.tmp 45, Operand.const (Value.int IntKind.i64 7)], argTypes := #[47, 3, 3] }, type := 47, pos := "law.go:103", after := #[{ on := 0, ground := Ground.data }, { on := 5, ground := Ground.data }, { on := 5, ground := Ground.chain }], guard := none }) rfl (fun Kz hK => ?_) EachU.nil
          go_simp
          obtain ⟨B1, hB1⟩ : ∃ X, X = B ++ nb x1.toNat 7 := ⟨_, rfl⟩
          have hl1 : B1.length ≤ B.length + 7 := by rw [hB1, List.length_append, nb_len]; omega
          have HB1 := Lib.hid hB1
          clear hB1
          go_at_call 24
          refine (lput_next w.heap.size x1 7 HB1.out (by omega) (by omega) (by decide) (by decide) (by omega) HD.out.s.lt (HD.out.s.br)).mono ?_
          rintro e w5 ⟨p1, c1, rfl, hR, hg⟩
          have HDn := Lib.hid ((HD.out.keep hg).addr hR)
          clear hR hg
          clear HD
          have HD := HDn
          clear HDn
          refine hK.out _ _ (fun _ => Lib.hid HD.out.s.sb) (fun hH2 => ?_)
          clear hK Kz hHeld
          have hHeld := hH2 rfl
          clear hH2
          (try simp only [Act.put, List.setIfInBounds_toArray, List.set_cons_zero, List.set_cons_succ])
          refine anyU_ready (rs := [9]) (by kernel_rfl) (by simp) ?_
          refine EachU.cons (o := { dst := some 49, op := Op.call { callee := Callee.value (Operand.func 25), args := #[Operand.tmp 47, Operand.tmp 48], argTypes := #[27, 22] }, type := 3, pos := "law.go:103", after := #[{ on := 7, ground := Ground.data }, { on := 8, ground := Ground.data }, { on := 6, ground := Ground.chain }], guard := none }) rfl (fun Kz hK => ?_) EachU.nil
          go_simp
          go_at_call 25
          refine (pick_any (lim 1024) _ _ 0 4 4 (by omega) (by omega) _ HD.out.s.t.tp (HD.out.m (1024, _, 4) (by simp))).mono ?_
          rintro e w5 ⟨x2, rfl, hx2, hs⟩
          unfold lim at hx2
          have HDn := Lib.hid (HD.out.tape hs)
          clear hs
          clear HD
          have HD := HDn
          clear HDn
          refine hK.out _ _ (fun _ => Lib.hid HD.out.s.sb) (fun hH2 => ?_)
          clear hK Kz hHeld
          have hHeld := hH2 rfl
          clear hH2
          (try simp only [Act.put, List.setIfInBounds_toArray, List.set_cons_zero, List.set_cons_succ])
          refine anyU_ready (rs := [10]) (by kernel_rfl) (by simp) ?_
          refine EachU.cons (o := { dst := some 50, op := Op.call { callee := Callee.value (Operand.func 24), args := #[Operand.tmp 46, Operand.tmp 49, Operand.const (Value.int IntKind.i64 10)], argTypes := #[47, 3, 3] }, type := 47, pos := "law.go:103", after := #[{ on := 6, ground := Ground.data }, { on := 9, ground := Ground.data }, { on := 9, ground := Ground.chain }], guard := none }) rfl (fun Kz hK => ?_) EachU.nil
          go_simp
          obtain ⟨B2, hB2⟩ : ∃ X, X = B1 ++ nb x2.toNat 10 := ⟨_, rfl⟩
          have hl2 : B2.length ≤ B1.length + 10 := by rw [hB2, List.length_append, nb_len]; omega
          have HB2 := Lib.hid hB2
          clear hB2
          go_at_call 24
          refine (lput_next w.heap.size x2 10 HB2.out (by omega) (by omega) (by decide) (by decide) (by omega) HD.out.s.lt (HD.out.r (B1, p1, c1) (by simp))).mono ?_
          rintro e w5 ⟨p2, c2, rfl, hR, hg⟩
          have HDn := Lib.hid ((HD.out.keep hg).addr hR)
          clear hR hg
          clear HD
          have HD := HDn
          clear HDn
          refine hK.out _ _ (fun _ => Lib.hid HD.out.s.sb) (fun hH2 => ?_)
          clear hK Kz hHeld
          have hHeld := hH2 rfl
          clear hH2
          (try simp only [Act.put, List.setIfInBounds_toArray, List.set_cons_zero, List.set_cons_succ])
          refine anyU_ready (rs := [13]) (by kernel_rfl) (by simp) ?_
          refine EachU.cons (o := { dst := some 53, op := Op.call { callee := Callee.value (Operand.func 25), args := #[Operand.tmp 51, Operand.tmp 52], argTypes := #[27, 22] }, type := 3, pos := "law.go:103", after := #[{ on := 11, ground := Ground.data }, { on := 12, ground := Ground.data }, { on := 10, ground := Ground.chain }], guard := none }) rfl (fun Kz hK => ?_) EachU.nil
          go_simp
          go_at_call 25
          refine (pick_any (lim 1024) _ _ 0 3 3 (by omega) (by omega) _ HD.out.s.t.tp (HD.out.m (1024, _, 3) (by simp))).mono ?_
          rintro e w5 ⟨x3, rfl, hx3, hs⟩
          unfold lim at hx3
          have HDn := Lib.hid (HD.out.tape hs)
          clear hs
          clear HD
          have HD := HDn
          clear HDn
          refine hK.out _ _ (fun _ => Lib.hid HD.out.s.sb) (fun hH2 => ?_)
          clear hK Kz hHeld
          have hHeld := hH2 rfl
          clear hH2
          (try simp only [Act.put, List.setIfInBounds_toArray, List.set_cons_zero, List.set_cons_succ])
          refine anyU_ready (rs := [14]) (by kernel_rfl) (by simp) ?_
          refine EachU.cons (o := { dst := some 54, op := Op.call { callee := Callee.value (Operand.func 24), args := #[Operand.tmp 50, Operand.tmp 53, Operand.const (Value.int IntKind.i64 10)], argTypes := #[47, 3, 3] }, type := 47, pos := "law.go:103", after := #[{ on := 10, ground := Ground.data }, { on := 13, ground := Ground.data }, { on := 13, ground := Ground.chain }], guard := none }) rfl (fun Kz hK => ?_) EachU.nil
          go_simp
          obtain ⟨B3, hB3⟩ : ∃ X, X = B2 ++ nb x3.toNat 10 := ⟨_, rfl⟩
          have hl3 : B3.length ≤ B2.length + 10 := by rw [hB3, List.length_append, nb_len]; omega
          have HB3 := Lib.hid hB3
          clear hB3
          go_at_call 24
          refine (lput_next w.heap.size x3 10 HB3.out (by omega) (by omega) (by decide) (by decide) (by omega) HD.out.s.lt (HD.out.r (B2, p2, c2) (by simp))).mono ?_
          rintro e w5 ⟨p3, c3, rfl, hR, hg⟩
          have HDn := Lib.hid ((HD.out.keep hg).addr hR)
          clear hR hg
          clear HD
          have HD := HDn
          clear HDn
          refine hK.out _ _ (fun _ => Lib.hid HD.out.s.sb) (fun hH2 => ?_)
          clear hK Kz hHeld
          have hHeld := hH2 rfl
          clear hH2
          (try simp only [Act.put, List.setIfInBounds_toArray, List.set_cons_zero, List.set_cons_succ])
        rotate_left 1
        focus
          go_simp
          have HDn := Lib.hid (HD.out.ints 1024 [1, 0, 1000, 1001] #[.int .i64 (1), .int .i64 (0), .int .i64 (1000), .int .i64 (1001)] (by intro x hx; simp at hx; unfold lim; omega) rfl)
          clear HD
          have HD := HDn
          clear HDn
          refine hK.out _ _ (fun _ => Lib.hid HD.out.s.sb) (fun hH2 => ?_)
          clear hK Kz hHeld
          have hHeld := hH2 rfl
          clear hH2
          (try simp only [Act.put, List.setIfInBounds_toArray, List.set_cons_zero, List.set_cons_succ])
          refine anyU_ready (rs := [5, 12]) (by kernel_rfl) (by simp) ?_
          refine EachU.cons (o := { dst := some 45, op := Op.call { callee := Callee.value (Operand.func 25), args := #[Operand.tmp 41, Operand.tmp 44], argTypes := #[27, 22] }, type := 3, pos := "law.go:103", after := #[{ on := 1, ground := Ground.data }, { on := 4, ground := Ground.data }], guard := none }) rfl (fun Kz hK => ?_) (EachU.cons (o := { dst := some 52, op := Op.buildSlice 22 3 #[(0, Operand.const (Value.int IntKind.i64 0)), (1, Operand.const (Value.int IntKind.i64 1000)), (2, Operand.const (Value.int IntKind.i64 1001))], type := 22, pos := "law.go:103", after := #[], guard := none }) rfl (fun Kz hK => ?_) EachU.nil)
        focus
          go_simp
          go_at_call 25
          refine (pick_any (lim 128) _ _ 0 5 5 (by omega) (by omega) _ HD.out.s.t.tp (HD.out.m (128, _, 5) (by simp))).mono ?_
          rintro e w5 ⟨x1, rfl, hx1, hs⟩
          unfold lim at hx1
          have HDn := Lib.hid (HD.out.tape hs)
          clear hs
          clear HD
          have HD := HDn
          clear HDn
          refine hK.out _ _ (fun _ => Lib.hid HD.out.s.sb) (fun hH2 => ?_)
          clear hK Kz hHeld
          have hHeld := hH2 rfl
          clear hH2
          (try simp only [Act.put, List.setIfInBounds_toArray, List.set_cons_zero, List.set_cons_succ])
          refine anyU_ready (rs := [6, 12]) (by kernel_rfl) (by simp) ?_
          refine EachU.cons (o := { dst := some 46, op := Op.call { callee := Callee.value (Operand.func 24), args := #[Operand.tmp 40, Operand.tmp 45, Operand.const (Value.int IntKind.i64 7)], argTypes := #[47, 3, 3] }, type := 47, pos := "law.go:103", after := #[{ on := 0, ground := Ground.data }, { on := 5, ground := Ground.data }, { on := 5, ground := Ground.chain }], guard := none }) rfl (fun Kz hK => ?_) (EachU.cons (o := { dst := some 52, op := Op.buildSlice 22 3 #[(0, Operand.const (Value.int IntKind.i64 0)), (1, Operand.const (Value.int IntKind.i64 1000)), (2, Operand.const (Value.int IntKind.i64 1001))], type := 22, pos := "law.go:103", after := #[], guard := none }) rfl (fun Kz hK => ?_) EachU.nil)
        focus
          go_simp
          obtain ⟨B1, hB1⟩ : ∃ X, X = B ++ nb x1.toNat 7 := ⟨_, rfl⟩
          have hl1 : B1.length ≤ B.length + 7 := by rw [hB1, List.length_append, nb_len]; omega
          have HB1 := Lib.hid hB1
          clear hB1
          go_at_call 24
          refine (lput_next w.heap.size x1 7 HB1.out (by omega) (by omega) (by decide) (by decide) (by omega) HD.out.s.lt (HD.out.s.br)).mono ?_
          rintro e w5 ⟨p1, c1, rfl, hR, hg⟩
          have HDn := Lib.hid ((HD.out.keep hg).addr hR)
          clear hR hg
          clear HD
          have HD := HDn
          clear HDn
          refine hK.out _ _ (fun _ => Lib.hid HD.out.s.sb) (fun hH2 => ?_)
          clear hK Kz hHeld
          have hHeld := hH2 rfl
          clear hH2
          (try simp only [Act.put, List.setIfInBounds_toArray, List.set_cons_zero, List.set_cons_succ])
          refine anyU_ready (rs := [9, 12]) (by kernel_rfl) (by simp) ?_
          refine EachU.cons (o := { dst := some 49, op := Op.call { callee := Callee.value (Operand.func 25), args := #[Operand.tmp 47, Operand.tmp 48], argTypes := #[27, 22] }, type := 3, pos := "law.go:103", after := #[{ on := 7, ground := Ground.data }, { on := 8, ground := Ground.data }, { on := 6, ground := Ground.chain }], guard := none }) rfl (fun Kz hK => ?_) (EachU.cons (o := { dst := some 52, op := Op.buildSlice 22 3 #[(0, Operand.const (Value.int IntKind.i64 0)), (1, Operand.const (Value.int IntKind.i64 1000)), (2, Operand.const (Value.int IntKind.i64 1001))], type := 22, pos := "law.go:103", after := #[], guard := none }) rfl (fun Kz hK => ?_) EachU.nil)
        focus
          go_simp
          go_at_call 25
          refine (pick_any (lim 1024) _ _ 0 4 4 (by omega) (by omega) _ HD.out.s.t.tp (HD.out.m (1024, _, 4) (by simp))).mono ?_
          rintro e w5 ⟨x2, rfl, hx2, hs⟩
          unfold lim at hx2
          have HDn := Lib.hid (HD.out.tape hs)
          clear hs
          clear HD
          have HD := HDn
          clear HDn
          refine hK.out _ _ (fun _ => Lib.hid HD.out.s.sb) (fun hH2 => ?_)
          clear hK Kz hHeld
          have hHeld := hH2 rfl
          clear hH2
          (try simp only [Act.put, List.setIfInBounds_toArray, List.set_cons_zero, List.set_cons_succ])
          refine anyU_ready (rs := [10, 12]) (by kernel_rfl) (by simp) ?_
          refine EachU.cons (o := { dst := some 50, op := Op.call { callee := Callee.value (Operand.func 24), args := #[Operand.tmp 46, Operand.tmp 49, Operand.const (Value.int IntKind.i64 10)], argTypes := #[47, 3, 3] }, type := 47, pos := "law.go:103", after := #[{ on := 6, ground := Ground.data }, { on := 9, ground := Ground.data }, { on := 9, ground := Ground.chain }], guard := none }) rfl (fun Kz hK => ?_) (EachU.cons (o := { dst := some 52, op := Op.buildSlice 22 3 #[(0, Operand.const (Value.int IntKind.i64 0)), (1, Operand.const (Value.int IntKind.i64 1000)), (2, Operand.const (Value.int IntKind.i64 1001))], type := 22, pos := "law.go:103", after := #[], guard := none }) rfl (fun Kz hK => ?_) EachU.nil)
        focus
          go_simp
          obtain ⟨B2, hB2⟩ : ∃ X, X = B1 ++ nb x2.toNat 10 := ⟨_, rfl⟩
          have hl2 : B2.length ≤ B1.length + 10 := by rw [hB2, List.length_append, nb_len]; omega
          have HB2 := Lib.hid hB2
          clear hB2
          go_at_call 24
          refine (lput_next w.heap.size x2 10 HB2.out (by omega) (by omega) (by decide) (by decide) (by omega) HD.out.s.lt (HD.out.r (B1, p1, c1) (by simp))).mono ?_
          rintro e w5 ⟨p2, c2, rfl, hR, hg⟩
          have HDn := Lib.hid ((HD.out.keep hg).addr hR)
          clear hR hg
          clear HD
          have HD := HDn
          clear HDn
          refine hK.out _ _ (fun _ => Lib.hid HD.out.s.sb) (fun hH2 => ?_)
          clear hK Kz hHeld
          have hHeld := hH2 rfl
          clear hH2
          (try simp only [Act.put, List.setIfInBounds_toArray, List.set_cons_zero, List.set_cons_succ])
          refine anyU_ready (rs := [12]) (by kernel_rfl) (by simp) ?_
          refine EachU.cons (o := { dst := some 52, op := Op.buildSlice 22 3 #[(0, Operand.const (Value.int IntKind.i64 0)), (1, Operand.const (Value.int IntKind.i64 1000)), (2, Operand.const (Value.int IntKind.i64 1001))], type := 22, pos := "law.go:103", after := #[], guard := none }) rfl (fun Kz hK => ?_) EachU.nil
          go_simp
          have HDn := Lib.hid (HD.out.ints 1024 [0, 1000, 1001] #[.int .i64 (0), .int .i64 (1000), .int .i64 (1001)] (by intro x hx; simp at hx; unfold lim; omega) rfl)
          clear HD
          have HD := HDn
          clear HDn
          refine hK.out _ _ (fun _ => Lib.hid HD.out.s.sb) (fun hH2 => ?_)
          clear hK Kz hHeld
          have hHeld := hH2 rfl
          clear hH2
          (try simp only [Act.put, List.setIfInBounds_toArray, List.set_cons_zero, List.set_cons_succ])
          refine anyU_ready (rs := [13]) (by kernel_rfl) (by simp) ?_
          refine EachU.cons (o := { dst := some 53, op := Op.call { callee := Callee.value (Operand.func 25), args := #[Operand.tmp 51, Operand.tmp 52], argTypes := #[27, 22] }, type := 3, pos := "law.go:103", after := #[{ on := 11, ground := Ground.data }, { on := 12, ground := Ground.data }, { on := 10, ground := Ground.chain }], guard := none }) rfl (fun Kz hK => ?_) EachU.nil
          go_simp
          go_at_call 25
          refine (pick_any (lim 1024) _ _ 0 3 3 (by omega) (by omega) _ HD.out.s.t.tp (HD.out.m (1024, _, 3) (by simp))).mono ?_
          rintro e w5 ⟨x3, rfl, hx3, hs⟩
          unfold lim at hx3
          have HDn := Lib.hid (HD.out.tape hs)
          clear hs
          clear HD
          have HD := HDn
          clear HDn
          refine hK.out _ _ (fun _ => Lib.hid HD.out.s.sb) (fun hH2 => ?_)
          clear hK Kz hHeld
          have hHeld := hH2 rfl
          clear hH2
          (try simp only [Act.put, List.setIfInBounds_toArray, List.set_cons_zero, List.set_cons_succ])
          refine anyU_ready (rs := [14]) (by kernel_rfl) (by simp) ?_
          refine EachU.cons (o := { dst := some 54, op := Op.call { callee := Callee.value (Operand.func 24), args := #[Operand.tmp 50, Operand.tmp 53, Operand.const (Value.int IntKind.i64 10)], argTypes := #[47, 3, 3] }, type := 47, pos := "law.go:103", after := #[{ on := 10, ground := Ground.data }, { on := 13, ground := Ground.data }, { on := 13, ground := Ground.chain }], guard := none }) rfl (fun Kz hK => ?_) EachU.nil
          go_simp
          obtain ⟨B3, hB3⟩ : ∃ X, X = B2 ++ nb x3.toNat 10 := ⟨_, rfl⟩
          have hl3 : B3.length ≤ B2.length + 10 := by rw [hB3, List.length_append, nb_len]; omega
          have HB3 := Lib.hid hB3
          clear hB3
          go_at_call 24
          refine (lput_next w.heap.size x3 10 HB3.out (by omega) (by omega) (by decide) (by decide) (by omega) HD.out.s.lt (HD.out.r (B2, p2, c2) (by simp))).mono ?_
          rintro e w5 ⟨p3, c3, rfl, hR, hg⟩
          have HDn := Lib.hid ((HD.out.keep hg).addr hR)
          clear hR hg
          clear HD
          have HD := HDn
          clear HDn
          refine hK.out _ _ (fun _ => Lib.hid HD.out.s.sb) (fun hH2 => ?_)
          clear hK Kz hHeld
          have hHeld := hH2 rfl
          clear hH2
          (try simp only [Act.put, List.setIfInBounds_toArray, List.set_cons_zero, List.set_cons_succ])
        rotate_left 1
        focus
          go_simp
          have HDn := Lib.hid (HD.out.ints 1024 [0, 1000, 1001] #[.int .i64 (0), .int .i64 (1000), .int .i64 (1001)] (by intro x hx; simp at hx; unfold lim; omega) rfl)
          clear HD
          have HD := HDn
          clear HDn
          refine hK.out _ _ (fun _ => Lib.hid HD.out.s.sb) (fun hH2 => ?_)
          clear hK Kz hHeld
          have hHeld := hH2 rfl
          clear hH2
          (try simp only [Act.put, List.setIfInBounds_toArray, List.set_cons_zero, List.set_cons_succ])
          refine anyU_ready (rs := [10]) (by kernel_rfl) (by simp) ?_
          refine EachU.cons (o := { dst := some 50, op := Op.call { callee := Callee.value (Operand.func 24), args := #[Operand.tmp 46, Operand.tmp 49, Operand.const (Value.int IntKind.i64 10)], argTypes := #[47, 3, 3] }, type := 47, pos := "law.go:103", after := #[{ on := 6, ground := Ground.data }, { on := 9, ground := Ground.data }, { on := 9, ground := Ground.chain }], guard := none }) rfl (fun Kz hK => ?_) EachU.nil
          go_simp
          obtain ⟨B2, hB2⟩ : ∃ X, X = B1 ++ nb x2.toNat 10 := ⟨_, rfl⟩
          have hl2 : B2.length ≤ B1.length + 10 := by rw [hB2, List.length_append, nb_len]; omega
          have HB2 := Lib.hid hB2
          clear hB2
          go_at_call 24
          refine (lput_next w.heap.size x2 10 HB2.out (by omega) (by omega) (by decide) (by decide) (by omega) HD.out.s.lt (HD.out.r (B1, p1, c1) (by simp))).mono ?_
          rintro e w5 ⟨p2, c2, rfl, hR, hg⟩
          have HDn := Lib.hid ((HD.out.keep hg).addr hR)
          clear hR hg
          clear HD
          have HD := HDn
          clear HDn
          refine hK.out _ _ (fun _ => Lib.hid HD.out.s.sb) (fun hH2 => ?_)
          clear hK Kz hHeld
          have hHeld := hH2 rfl
          clear hH2
          (try simp only [Act.put, List.setIfInBounds_toArray, List.set_cons_zero, List.set_cons_succ])
          refine anyU_ready (rs := [13]) (by kernel_rfl) (by simp) ?_
          refine EachU.cons (o := { dst := some 53, op := Op.call { callee := Callee.value (Operand.func 25), args := #[Operand.tmp 51, Operand.tmp 52], argTypes := #[27, 22] }, type := 3, pos := "law.go:103", after := #[{ on := 11, ground := Ground.data }, { on := 12, ground := Ground.data }, { on := 10, ground := Ground.chain }], guard := none }) rfl (fun Kz hK => ?_) EachU.nil
          go_simp
          go_at_call 25
          refine (pick_any (lim 1024) _ _ 0 3 3 (by omega) (by omega) _ HD.out.s.t.tp (HD.out.m (1024, _, 3) (by simp))).mono ?_
          rintro e w5 ⟨x3, rfl, hx3, hs⟩
          unfold lim at hx3
          have HDn := Lib.hid (HD.out.tape hs)
          clear hs
          clear HD
          have HD := HDn
          clear HDn
          refine hK.out _ _ (fun _ => Lib.hid HD.out.s.sb) (fun hH2 => ?_)
          clear hK Kz hHeld
          have hHeld := hH2 rfl
          clear hH2
          (try simp only [Act.put, List.setIfInBounds_toArray, List.set_cons_zero, List.set_cons_succ])
          refine anyU_ready (rs := [14]) (by kernel_rfl) (by simp) ?_
          refine EachU.cons (o := { dst := some 54, op := Op.call { callee := Callee.value (Operand.func 24), args := #[Operand.tmp 50, Operand.tmp 53, Operand.const (Value.int IntKind.i64 10)], argTypes := #[47, 3, 3] }, type := 47, pos := "law.go:103", after := #[{ on := 10, ground := Ground.data }, { on := 13, ground := Ground.data }, { on := 13, ground := Ground.chain }], guard := none }) rfl (fun Kz hK => ?_) EachU.nil
          go_simp
          obtain ⟨B3, hB3⟩ : ∃ X, X = B2 ++ nb x3.toNat 10 := ⟨_, rfl⟩
          have hl3 : B3.length ≤ B2.length + 10 := by rw [hB3, List.length_append, nb_len]; omega
          have HB3 := Lib.hid hB3
          clear hB3
          go_at_call 24
          refine (lput_next w.heap.size x3 10 HB3.out (by omega) (by omega) (by decide) (by decide) (by omega) HD.out.s.lt (HD.out.r (B2, p2, c2) (by simp))).mono ?_
          rintro e w5 ⟨p3, c3, rfl, hR, hg⟩
          have HDn := Lib.hid ((HD.out.keep hg).addr hR)
          clear hR hg
          clear HD
          have HD := HDn
          clear HDn
          refine hK.out _ _ (fun _ => Lib.hid HD.out.s.sb) (fun hH2 => ?_)
          clear hK Kz hHeld
          have hHeld := hH2 rfl
          clear hH2
          (try simp only [Act.put, List.setIfInBounds_toArray, List.set_cons_zero, List.set_cons_succ])
        rotate_left 1
        focus
          go_simp
          have HDn := Lib.hid (HD.out.ints 1024 [0, 1000, 1001] #[.int .i64 (0), .int .i64 (1000), .int .i64 (1001)] (by intro x hx; simp at hx; unfold lim; omega) rfl)
          clear HD
          have HD := HDn
          clear HDn
          refine hK.out _ _ (fun _ => Lib.hid HD.out.s.sb) (fun hH2 => ?_)
          clear hK Kz hHeld
          have hHeld := hH2 rfl
          clear hH2
          (try simp only [Act.put, List.setIfInBounds_toArray, List.set_cons_zero, List.set_cons_succ])
          refine anyU_ready (rs := [9]) (by kernel_rfl) (by simp) ?_
          refine EachU.cons (o := { dst := some 49, op := Op.call { callee := Callee.value (Operand.func 25), args := #[Operand.tmp 47, Operand.tmp 48], argTypes := #[27, 22] }, type := 3, pos := "law.go:103", after := #[{ on := 7, ground := Ground.data }, { on := 8, ground := Ground.data }, { on := 6, ground := Ground.chain }], guard := none }) rfl (fun Kz hK => ?_) EachU.nil
          go_simp
          go_at_call 25
          refine (pick_any (lim 1024) _ _ 0 4 4 (by omega) (by omega) _ HD.out.s.t.tp (HD.out.m (1024, _, 4) (by simp))).mono ?_
          rintro e w5 ⟨x2, rfl, hx2, hs⟩
          unfold lim at hx2
          have HDn := Lib.hid (HD.out.tape hs)
          clear hs
          clear HD
          have HD := HDn
          clear HDn
          refine hK.out _ _ (fun _ => Lib.hid HD.out.s.sb) (fun hH2 => ?_)
          clear hK Kz hHeld
          have hHeld := hH2 rfl
          clear hH2
          (try simp only [Act.put, List.setIfInBounds_toArray, List.set_cons_zero, List.set_cons_succ])
          refine anyU_ready (rs := [10]) (by kernel_rfl) (by simp) ?_
          refine EachU.cons (o := { dst := some 50, op := Op.call { callee := Callee.value (Operand.func 24), args := #[Operand.tmp 46, Operand.tmp 49, Operand.const (Value.int IntKind.i64 10)], argTypes := #[47, 3, 3] }, type := 47, pos := "law.go:103", after := #[{ on := 6, ground := Ground.data }, { on := 9, ground := Ground.data }, { on := 9, ground := Ground.chain }], guard := none }) rfl (fun Kz hK => ?_) EachU.nil
          go_simp
          obtain ⟨B2, hB2⟩ : ∃ X, X = B1 ++ nb x2.toNat 10 := ⟨_, rfl⟩
          have hl2 : B2.length ≤ B1.length + 10 := by rw [hB2, List.length_append, nb_len]; omega
          have HB2 := Lib.hid hB2
          clear hB2
          go_at_call 24
          refine (lput_next w.heap.size x2 10 HB2.out (by omega) (by omega) (by decide) (by decide) (by omega) HD.out.s.lt (HD.out.r (B1, p1, c1) (by simp))).mono ?_
          rintro e w5 ⟨p2, c2, rfl, hR, hg⟩
          have HDn := Lib.hid ((HD.out.keep hg).addr hR)
          clear hR hg
          clear HD
          have HD := HDn
          clear HDn
          refine hK.out _ _ (fun _ => Lib.hid HD.out.s.sb) (fun hH2 => ?_)
          clear hK Kz hHeld
          have hHeld := hH2 rfl
          clear hH2
          (try simp only [Act.put, List.setIfInBounds_toArray, List.set_cons_zero, List.set_cons_succ])
          refine anyU_ready (rs := [13]) (by kernel_rfl) (by simp) ?_
          refine EachU.cons (o := { dst := some 53, op := Op.call { callee := Callee.value (Operand.func 25), args := #[Operand.tmp 51, Operand.tmp 52], argTypes := #[27, 22] }, type := 3, pos := "law.go:103", after := #[{ on := 11, ground := Ground.data }, { on := 12, ground := Ground.data }, { on := 10, ground := Ground.chain }], guard := none }) rfl (fun Kz hK => ?_) EachU.nil
          go_simp
          go_at_call 25
          refine (pick_any (lim 1024) _ _ 0 3 3 (by omega) (by omega) _ HD.out.s.t.tp (HD.out.m (1024, _, 3) (by simp))).mono ?_
          rintro e w5 ⟨x3, rfl, hx3, hs⟩
          unfold lim at hx3
          have HDn := Lib.hid (HD.out.tape hs)
          clear hs
          clear HD
          have HD := HDn
          clear HDn
          refine hK.out _ _ (fun _ => Lib.hid HD.out.s.sb) (fun hH2 => ?_)
          clear hK Kz hHeld
          have hHeld := hH2 rfl
          clear hH2
          (try simp only [Act.put, List.setIfInBounds_toArray, List.set_cons_zero, List.set_cons_succ])
          refine anyU_ready (rs := [14]) (by kernel_rfl) (by simp) ?_
          refine EachU.cons (o := { dst := some 54, op := Op.call { callee := Callee.value (Operand.func 24), args := #[Operand.tmp 50, Operand.tmp 53, Operand.const (Value.int IntKind.i64 10)], argTypes := #[47, 3, 3] }, type := 47, pos := "law.go:103", after := #[{ on := 10, ground := Ground.data }, { on := 13, ground := Ground.data }, { on := 13, ground := Ground.chain }], guard := none }) rfl (fun Kz hK => ?_) EachU.nil
          go_simp
          obtain ⟨B3, hB3⟩ : ∃ X, X = B2 ++ nb x3.toNat 10 := ⟨_, rfl⟩
          have hl3 : B3.length ≤ B2.length + 10 := by rw [hB3, List.length_append, nb_len]; omega
          have HB3 := Lib.hid hB3
          clear hB3
          go_at_call 24
          refine (lput_next w.heap.size x3 10 HB3.out (by omega) (by omega) (by decide) (by decide) (by omega) HD.out.s.lt (HD.out.r (B2, p2, c2) (by simp))).mono ?_
          rintro e w5 ⟨p3, c3, rfl, hR, hg⟩
          have HDn := Lib.hid ((HD.out.keep hg).addr hR)
          clear hR hg
          clear HD
          have HD := HDn
          clear HDn
          refine hK.out _ _ (fun _ => Lib.hid HD.out.s.sb) (fun hH2 => ?_)
          clear hK Kz hHeld
          have hHeld := hH2 rfl
          clear hH2
          (try simp only [Act.put, List.setIfInBounds_toArray, List.set_cons_zero, List.set_cons_succ])
        rotate_left 1
        focus
          go_simp
          have HDn := Lib.hid (HD.out.ints 1024 [0, 1000, 1001] #[.int .i64 (0), .int .i64 (1000), .int .i64 (1001)] (by intro x hx; simp at hx; unfold lim; omega) rfl)
          clear HD
          have HD := HDn
          clear HDn
          refine hK.out _ _ (fun _ => Lib.hid HD.out.s.sb) (fun hH2 => ?_)
          clear hK Kz hHeld
          have hHeld := hH2 rfl
          clear hH2
          (try simp only [Act.put, List.setIfInBounds_toArray, List.set_cons_zero, List.set_cons_succ])
          refine anyU_ready (rs := [6]) (by kernel_rfl) (by simp) ?_
          refine EachU.cons (o := { dst := some 46, op := Op.call { callee := Callee.value (Operand.func 24), args := #[Operand.tmp 40, Operand.tmp 45, Operand.const (Value.int IntKind.i64 7)], argTypes := #[47, 3, 3] }, type := 47, pos := "law.go:103", after := #[{ on := 0, ground := Ground.data }, { on := 5, ground := Ground.data }, { on := 5, ground := Ground.chain }], guard := none }) rfl (fun Kz hK => ?_) EachU.nil
          go_simp
          obtain ⟨B1, hB1⟩ : ∃ X, X = B ++ nb x1.toNat 7 := ⟨_, rfl⟩
          have hl1 : B1.length ≤ B.length + 7 := by rw [hB1, List.length_append, nb_len]; omega
          have HB1 := Lib.hid hB1
          clear hB1
          go_at_call 24
          refine (lput_next w.heap.size x1 7 HB1.out (by omega) (by omega) (by decide) (by decide) (by omega) HD.out.s.lt (HD.out.s.br)).mono ?_
          rintro e w5 ⟨p1, c1, rfl, hR, hg⟩
          have HDn := Lib.hid ((HD.out.keep hg).addr hR)
          clear hR hg
          clear HD
          have HD := HDn
          clear HDn
          refine hK.out _ _ (fun _ => Lib.hid HD.out.s.sb) (fun hH2 => ?_)
          clear hK Kz hHeld
          have hHeld := hH2 rfl
          clear hH2
          (try simp only [Act.put, List.setIfInBounds_toArray, List.set_cons_zero, List.set_cons_succ])
          refine anyU_ready (rs := [9]) (by kernel_rfl) (by simp) ?_
          refine EachU.cons (o := { dst := some 49, op := Op.call { callee := Callee.value (Operand.func 25), args := #[Operand.tmp 47, Operand.tmp 48], argTypes := #[27, 22] }, type := 3, pos := "law.go:103", after := #[{ on := 7, ground := Ground.data }, { on := 8, ground := Ground.data }, { on := 6, ground := Ground.chain }], guard := none }) rfl (fun Kz hK => ?_) EachU.nil
          go_simp
          go_at_call 25
          refine (pick_any (lim 1024) _ _ 0 4 4 (by omega) (by omega) _ HD.out.s.t.tp (HD.out.m (1024, _, 4) (by simp))).mono ?_
          rintro e w5 ⟨x2, rfl, hx2, hs⟩
          unfold lim at hx2
          have HDn := Lib.hid (HD.out.tape hs)
          clear hs
          clear HD
          have HD := HDn
          clear HDn
          refine hK.out _ _ (fun _ => Lib.hid HD.out.s.sb) (fun hH2 => ?_)
          clear hK Kz hHeld
          have hHeld := hH2 rfl
          clear hH2
          (try simp only [Act.put, List.setIfInBounds_toArray, List.set_cons_zero, List.set_cons_succ])
          refine anyU_ready (rs := [10]) (by kernel_rfl) (by simp) ?_
          refine EachU.cons (o := { dst := some 50, op := Op.call { callee := Callee.value (Operand.func 24), args := #[Operand.tmp 46, Operand.tmp 49, Operand.const (Value.int IntKind.i64 10)], argTypes := #[47, 3, 3] }, type := 47, pos := "law.go:103", after := #[{ on := 6, ground := Ground.data }, { on := 9, ground := Ground.data }, { on := 9, ground := Ground.chain }], guard := none }) rfl (fun Kz hK => ?_) EachU.nil
          go_simp
          obtain ⟨B2, hB2⟩ : ∃ X, X = B1 ++ nb x2.toNat 10 := ⟨_, rfl⟩
          have hl2 : B2.length ≤ B1.length + 10 := by rw [hB2, List.length_append, nb_len]; omega
          have HB2 := Lib.hid hB2
          clear hB2
          go_at_call 24
          refine (lput_next w.heap.size x2 10 HB2.out (by omega) (by omega) (by decide) (by decide) (by omega) HD.out.s.lt (HD.out.r (B1, p1, c1) (by simp))).mono ?_
          rintro e w5 ⟨p2, c2, rfl, hR, hg⟩
          have HDn := Lib.hid ((HD.out.keep hg).addr hR)
          clear hR hg
          clear HD
          have HD := HDn
          clear HDn
          refine hK.out _ _ (fun _ => Lib.hid HD.out.s.sb) (fun hH2 => ?_)
          clear hK Kz hHeld
          have hHeld := hH2 rfl
          clear hH2
          (try simp only [Act.put, List.setIfInBounds_toArray, List.set_cons_zero, List.set_cons_succ])
          refine anyU_ready (rs := [13]) (by kernel_rfl) (by simp) ?_
          refine EachU.cons (o := { dst := some 53, op := Op.call { callee := Callee.value (Operand.func 25), args := #[Operand.tmp 51, Operand.tmp 52], argTypes := #[27, 22] }, type := 3, pos := "law.go:103", after := #[{ on := 11, ground := Ground.data }, { on := 12, ground := Ground.data }, { on := 10, ground := Ground.chain }], guard := none }) rfl (fun Kz hK => ?_) EachU.nil
          go_simp
          go_at_call 25
          refine (pick_any (lim 1024) _ _ 0 3 3 (by omega) (by omega) _ HD.out.s.t.tp (HD.out.m (1024, _, 3) (by simp))).mono ?_
          rintro e w5 ⟨x3, rfl, hx3, hs⟩
          unfold lim at hx3
          have HDn := Lib.hid (HD.out.tape hs)
          clear hs
          clear HD
          have HD := HDn
          clear HDn
          refine hK.out _ _ (fun _ => Lib.hid HD.out.s.sb) (fun hH2 => ?_)
          clear hK Kz hHeld
          have hHeld := hH2 rfl
          clear hH2
          (try simp only [Act.put, List.setIfInBounds_toArray, List.set_cons_zero, List.set_cons_succ])
          refine anyU_ready (rs := [14]) (by kernel_rfl) (by simp) ?_
          refine EachU.cons (o := { dst := some 54, op := Op.call { callee := Callee.value (Operand.func 24), args := #[Operand.tmp 50, Operand.tmp 53, Operand.const (Value.int IntKind.i64 10)], argTypes := #[47, 3, 3] }, type := 47, pos := "law.go:103", after := #[{ on := 10, ground := Ground.data }, { on := 13, ground := Ground.data }, { on := 13, ground := Ground.chain }], guard := none }) rfl (fun Kz hK => ?_) EachU.nil
          go_simp
          obtain ⟨B3, hB3⟩ : ∃ X, X = B2 ++ nb x3.toNat 10 := ⟨_, rfl⟩
          have hl3 : B3.length ≤ B2.length + 10 := by rw [hB3, List.length_append, nb_len]; omega
          have HB3 := Lib.hid hB3
          clear hB3
          go_at_call 24
          refine (lput_next w.heap.size x3 10 HB3.out (by omega) (by omega) (by decide) (by decide) (by omega) HD.out.s.lt (HD.out.r (B2, p2, c2) (by simp))).mono ?_
          rintro e w5 ⟨p3, c3, rfl, hR, hg⟩
          have HDn := Lib.hid ((HD.out.keep hg).addr hR)
          clear hR hg
          clear HD
          have HD := HDn
          clear HDn
          refine hK.out _ _ (fun _ => Lib.hid HD.out.s.sb) (fun hH2 => ?_)
          clear hK Kz hHeld
          have hHeld := hH2 rfl
          clear hH2
          (try simp only [Act.put, List.setIfInBounds_toArray, List.set_cons_zero, List.set_cons_succ])
        rotate_left 1
        focus
          go_simp
          have HDn := Lib.hid (HD.out.ints 1024 [0, 1000, 1001] #[.int .i64 (0), .int .i64 (1000), .int .i64 (1001)] (by intro x hx; simp at hx; unfold lim; omega) rfl)
          clear HD
          have HD := HDn
          clear HDn
          refine hK.out _ _ (fun _ => Lib.hid HD.out.s.sb) (fun hH2 => ?_)
          clear hK Kz hHeld
          have hHeld := hH2 rfl
          clear hH2
          (try simp only [Act.put, List.setIfInBounds_toArray, List.set_cons_zero, List.set_cons_succ])
          refine anyU_ready (rs := [5]) (by kernel_rfl) (by simp) ?_
          refine EachU.cons (o := { dst := some 45, op := Op.call { callee := Callee.value (Operand.func 25), args := #[Operand.tmp 41, Operand.tmp 44], argTypes := #[27, 22] }, type := 3, pos := "law.go:103", after := #[{ on := 1, ground := Ground.data }, { on := 4, ground := Ground.data }], guard := none }) rfl (fun Kz hK => ?_) EachU.nil
          go_simp
          go_at_call 25
          refine (pick_any (lim 128) _ _ 0 5 5 (by omega) (by omega) _ HD.out.s.t.tp (HD.out.m (128, _, 5) (by simp))).mono ?_
          rintro e w5 ⟨x1, rfl, hx1, hs⟩
          unfold lim at hx1
          have HDn := Lib.hid (HD.out.tape hs)
          clear hs
          clear HD
          have HD := HDn
          clear HDn
          refine hK.out _ _ (fun _ => Lib.hid HD.out.s.sb) (fun hH2 => ?_)
          clear hK Kz hHeld
          have hHeld := hH2 rfl
          clear hH2
          (try simp only [Act.put, List.setIfInBounds_toArray, List.set_cons_zero, List.set_cons_succ])
          refine anyU_ready (rs := [6]) (by kernel_rfl) (by simp) ?_
          refine EachU.cons (o := { dst := some 46, op := Op.call { callee := Callee.value (Operand.func 24), args := #[Operand.tmp 40, Operand.tmp 45, Operand.const (Value.int IntKind.i64 7)], argTypes := #[47, 3, 3] }, type := 47, pos := "law.go:103", after := #[{ on := 0, ground := Ground.data }, { on := 5, ground := Ground.data }, { on := 5, ground := Ground.chain }], guard := none }) rfl (fun Kz hK => ?_) EachU.nil
          go_simp
          obtain ⟨B1, hB1⟩ : ∃ X, X = B ++ nb x1.toNat 7 := ⟨_, rfl⟩
          have hl1 : B1.length ≤ B.length + 7 := by rw [hB1, List.length_append, nb_len]; omega
          have HB1 := Lib.hid hB1
          clear hB1
          go_at_call 24
          refine (lput_next w.heap.size x1 7 HB1.out (by omega) (by omega) (by decide) (by decide) (by omega) HD.out.s.lt (HD.out.s.br)).mono ?_
          rintro e w5 ⟨p1, c1, rfl, hR, hg⟩
          have HDn := Lib.hid ((HD.out.keep hg).addr hR)
          clear hR hg
          clear HD
          have HD := HDn
          clear HDn
          refine hK.out _ _ (fun _ => Lib.hid HD.out.s.sb) (fun hH2 => ?_)
          clear hK Kz hHeld
          have hHeld := hH2 rfl
          clear hH2
          (try simp only [Act.put, List.setIfInBounds_toArray, List.set_cons_zero, List.set_cons_succ])
          refine anyU_ready (rs := [9]) (by kernel_rfl) (by simp) ?_
          refine EachU.cons (o := { dst := some 49, op := Op.call { callee := Callee.value (Operand.func 25), args := #[Operand.tmp 47, Operand.tmp 48], argTypes := #[27, 22] }, type := 3, pos := "law.go:103", after := #[{ on := 7, ground := Ground.data }, { on := 8, ground := Ground.data }, { on := 6, ground := Ground.chain }], guard := none }) rfl (fun Kz hK => ?_) EachU.nil
          go_simp
          go_at_call 25
          refine (pick_any (lim 1024) _ _ 0 4 4 (by omega) (by omega) _ HD.out.s.t.tp (HD.out.m (1024, _, 4) (by simp))).mono ?_
          rintro e w5 ⟨x2, rfl, hx2, hs⟩
          unfold lim at hx2
          have HDn := Lib.hid (HD.out.tape hs)
          clear hs
          clear HD
          have HD := HDn
          clear HDn
          refine hK.out _ _ (fun _ => Lib.hid HD.out.s.sb) (fun hH2 => ?_)
          clear hK Kz hHeld
          have hHeld := hH2 rfl
          clear hH2
          (try simp only [Act.put, List.setIfInBounds_toArray, List.set_cons_zero, List.set_cons_succ])
          refine anyU_ready (rs := [10]) (by kernel_rfl) (by simp) ?_
          refine EachU.cons (o := { dst := some 50, op := Op.call { callee := Callee.value (Operand.func 24), args := #[Operand.tmp 46, Operand.tmp 49, Operand.const (Value.int IntKind.i64 10)], argTypes := #[47, 3, 3] }, type := 47, pos := "law.go:103", after := #[{ on := 6, ground := Ground.data }, { on := 9, ground := Ground.data }, { on := 9, ground := Ground.chain }], guard := none }) rfl (fun Kz hK => ?_) EachU.nil
          go_simp
          obtain ⟨B2, hB2⟩ : ∃ X, X = B1 ++ nb x2.toNat 10 := ⟨_, rfl⟩
          have hl2 : B2.length ≤ B1.length + 10 := by rw [hB2, List.length_append, nb_len]; omega
          have HB2 := Lib.hid hB2
          clear hB2
          go_at_call 24
          refine (lput_next w.heap.size x2 10 HB2.out (by omega) (by omega) (by decide) (by decide) (by omega) HD.out.s.lt (HD.out.r (B1, p1, c1) (by simp))).mono ?_
          rintro e w5 ⟨p2, c2, rfl, hR, hg⟩
          have HDn := Lib.hid ((HD.out.keep hg).addr hR)
          clear hR hg
          clear HD
          have HD := HDn
          clear HDn
          refine hK.out _ _ (fun _ => Lib.hid HD.out.s.sb) (fun hH2 => ?_)
          clear hK Kz hHeld
          have hHeld := hH2 rfl
          clear hH2
          (try simp only [Act.put, List.setIfInBounds_toArray, List.set_cons_zero, List.set_cons_succ])
          refine anyU_ready (rs := [13]) (by kernel_rfl) (by simp) ?_
          refine EachU.cons (o := { dst := some 53, op := Op.call { callee := Callee.value (Operand.func 25), args := #[Operand.tmp 51, Operand.tmp 52], argTypes := #[27, 22] }, type := 3, pos := "law.go:103", after := #[{ on := 11, ground := Ground.data }, { on := 12, ground := Ground.data }, { on := 10, ground := Ground.chain }], guard := none }) rfl (fun Kz hK => ?_) EachU.nil
          go_simp
          go_at_call 25
          refine (pick_any (lim 1024) _ _ 0 3 3 (by omega) (by omega) _ HD.out.s.t.tp (HD.out.m (1024, _, 3) (by simp))).mono ?_
          rintro e w5 ⟨x3, rfl, hx3, hs⟩
          unfold lim at hx3
          have HDn := Lib.hid (HD.out.tape hs)
          clear hs
          clear HD
          have HD := HDn
          clear HDn
          refine hK.out _ _ (fun _ => Lib.hid HD.out.s.sb) (fun hH2 => ?_)
          clear hK Kz hHeld
          have hHeld := hH2 rfl
          clear hH2
          (try simp only [Act.put, List.setIfInBounds_toArray, List.set_cons_zero, List.set_cons_succ])
          refine anyU_ready (rs := [14]) (by kernel_rfl) (by simp) ?_
          refine EachU.cons (o := { dst := some 54, op := Op.call { callee := Callee.value (Operand.func 24), args := #[Operand.tmp 50, Operand.tmp 53, Operand.const (Value.int IntKind.i64 10)], argTypes := #[47, 3, 3] }, type := 47, pos := "law.go:103", after := #[{ on := 10, ground := Ground.data }, { on := 13, ground := Ground.data }, { on := 13, ground := Ground.chain }], guard := none }) rfl (fun Kz hK => ?_) EachU.nil
          go_simp
          obtain ⟨B3, hB3⟩ : ∃ X, X = B2 ++ nb x3.toNat 10 := ⟨_, rfl⟩
          have hl3 : B3.length ≤ B2.length + 10 := by rw [hB3, List.length_append, nb_len]; omega
          have HB3 := Lib.hid hB3
          clear hB3
          go_at_call 24
          refine (lput_next w.heap.size x3 10 HB3.out (by omega) (by omega) (by decide) (by decide) (by omega) HD.out.s.lt (HD.out.r (B2, p2, c2) (by simp))).mono ?_
          rintro e w5 ⟨p3, c3, rfl, hR, hg⟩
          have HDn := Lib.hid ((HD.out.keep hg).addr hR)
          clear hR hg
          clear HD
          have HD := HDn
          clear HDn
          refine hK.out _ _ (fun _ => Lib.hid HD.out.s.sb) (fun hH2 => ?_)
          clear hK Kz hHeld
          have hHeld := hH2 rfl
          clear hH2
          (try simp only [Act.put, List.setIfInBounds_toArray, List.set_cons_zero, List.set_cons_succ])
        rotate_left 1
        focus
          go_simp
          have HDn := Lib.hid (HD.out.ints 1024 [0, 1000, 1001] #[.int .i64 (0), .int .i64 (1000), .int .i64 (1001)] (by intro x hx; simp at hx; unfold lim; omega) rfl)
          clear HD
          have HD := HDn
          clear HDn
          refine hK.out _ _ (fun _ => Lib.hid HD.out.s.sb) (fun hH2 => ?_)
          clear hK Kz hHeld
          have hHeld := hH2 rfl
          clear hH2
          (try simp only [Act.put, List.setIfInBounds_toArray, List.set_cons_zero, List.set_cons_succ])
          refine anyU_ready (rs := [5, 8]) (by kernel_rfl) (by simp) ?_
          refine EachU.cons (o := { dst := some 45, op := Op.call { callee := Callee.value (Operand.func 25), args := #[Operand.tmp 41, Operand.tmp 44], argTypes := #[27, 22] }, type := 3, pos := "law.go:103", after := #[{ on := 1, ground := Ground.data }, { on := 4, ground := Ground.data }], guard := none }) rfl (fun Kz hK => ?_) (EachU.cons (o := { dst := some 48, op := Op.buildSlice 22 4 #[(0, Operand.const (Value.int IntKind.i64 1)), (1, Operand.const (Value.int IntKind.i64 0)), (2, Operand.const (Value.int IntKind.i64 1000)), (3, Operand.const (Value.int IntKind.i64 1001))], type := 22, pos := "law.go:103", after := #[], guard := none }) rfl (fun Kz hK => ?_) EachU.nil)
        focus
          go_simp
          go_at_call 25
          refine (pick_any (lim 128) _ _ 0 5 5 (by omega) (by omega) _ HD.out.s.t.tp (HD.out.m (128, _, 5) (by simp))).mono ?_
          rintro e w5 ⟨x1, rfl, hx1, hs⟩
          unfold lim at hx1
          have HDn := Lib.hid (HD.out.tape hs)
          clear hs
          clear HD
          have HD := HDn
          clear HDn
          refine hK.out _ _ (fun _ => Lib.hid HD.out.s.sb) (fun hH2 => ?_)
          clear hK Kz hHeld
          have hHeld := hH2 rfl
          clear hH2
          (try simp only [Act.put, List.setIfInBounds_toArray, List.set_cons_zero, List.set_cons_succ])
          refine anyU_ready (rs := [6, 8]) (by kernel_rfl) (by simp) ?_
          refine EachU.cons (o := { dst := some 46, op := Op.call { callee := Callee.value (Operand.func 24), args := #[Operand.tmp 40, Operand.tmp 45, Operand.const (Value.int IntKind.i64 7)], argTypes := #[47, 3, 3] }, type := 47, pos := "law.go:103", after := #[{ on := 0, ground := Ground.data }, { on := 5, ground := Ground.data }, { on := 5, ground := Ground.chain }], guard := none }) rfl (fun Kz hK => ?_) (EachU.cons (o := { dst := some 48, op := Op.buildSlice 22 4 #[(0, Operand.const (Value.int IntKind.i64 1)), (1, Operand.const (Value.int IntKind.i64 0)), (2, Operand.const (Value.int IntKind.i64 1000)), (3, Operand.const (Value.int IntKind.i64 1001))], type := 22, pos := "law.go:103", after := #[], guard := none }) rfl (fun Kz hK => ?_) EachU.nil)
        focus
          go_simp
          obtain ⟨B1, hB1⟩ : ∃ X, X = B ++ nb x1.toNat 7 := ⟨_, rfl⟩
          have hl1 : B1.length ≤ B.length + 7 := by rw [hB1, List.length_append, nb_len]; omega
          have HB1 := Lib.hid hB1
          clear hB1
          go_at_call 24
          refine (lput_next w.heap.size x1 7 HB1.out (by omega) (by omega) (by decide) (by decide) (by omega) HD.out.s.lt (HD.out.s.br)).mono ?_
          rintro e w5 ⟨p1, c1, rfl, hR, hg⟩
          have HDn := Lib.hid ((HD.out.keep hg).addr hR)
          clear hR hg
          clear HD
          have HD := HDn
          clear HDn
          refine hK.out _ _ (fun _ => Lib.hid HD.out.s.sb) (fun hH2 => ?_)
          clear hK Kz hHeld
          have hHeld := hH2 rfl
          clear hH2
          (try simp only [Act.put, List.setIfInBounds_toArray, List.set_cons_zero, List.set_cons_succ])
          refine anyU_ready (rs := [8]) (by kernel_rfl) (by simp) ?_
          refine EachU.cons (o := { dst := some 48, op := Op.buildSlice 22 4 #[(0, Operand.const (Value.int IntKind.i64 1)), (1, Operand.const (Value.int IntKind.i64 0)), (2, Operand.const (Value.int IntKind.i64 1000)), (3, Operand.const (Value.int IntKind.i64 1001))], type := 22, pos := "law.go:103", after := #[], guard := none }) rfl (fun Kz hK => ?_) EachU.nil
          go_simp
          have HDn := Lib.hid (HD.out.ints 1024 [1, 0, 1000, 1001] #[.int .i64 (1), .int .i64 (0), .int .i64 (1000), .int .i64 (1001)] (by intro x hx; simp at hx; unfold lim; omega) rfl)
          clear HD
          have HD := HDn
          clear HDn
          refine hK.out _ _ (fun _ => Lib.hid HD.out.s.sb) (fun hH2 => ?_)
          clear hK Kz hHeld
          have hHeld := hH2 rfl
          clear hH2
          (try simp only [Act.put, List.setIfInBounds_toArray, List.set_cons_zero, List.set_cons_succ])
          refine anyU_ready (rs := [9]) (by kernel_rfl) (by simp) ?_
          refine EachU.cons (o := { dst := some 49, op := Op.call { callee := Callee.value (Operand.func 25), args := #[Operand.tmp 47, Operand.tmp 48], argTypes := #[27, 22] }, type := 3, pos := "law.go:103", after := #[{ on := 7, ground := Ground.data }, { on := 8, ground := Ground.data }, { on := 6, ground := Ground.chain }], guard := none }) rfl (fun Kz hK => ?_) EachU.nil
          go_simp
          go_at_call 25
          refine (pick_any (lim 1024) _ _ 0 4 4 (by omega) (by omega) _ HD.out.s.t.tp (HD.out.m (1024, _, 4) (by simp))).mono ?_
          rintro e w5 ⟨x2, rfl, hx2, hs⟩
          unfold lim at hx2
          have HDn := Lib.hid (HD.out.tape hs)
          clear hs
          clear HD
          have HD := HDn
          clear HDn
          refine hK.out _ _ (fun _ => Lib.hid HD.out.s.sb) (fun hH2 => ?_)
          clear hK Kz hHeld
          have hHeld := hH2 rfl
          clear hH2
          (try simp only [Act.put, List.setIfInBounds_toArray, List.set_cons_zero, List.set_cons_succ])
          refine anyU_ready (rs := [10]) (by kernel_rfl) (by simp) ?_
          refine EachU.cons (o := { dst := some 50, op := Op.call { callee := Callee.value (Operand.func 24), args := #[Operand.tmp 46, Operand.tmp 49, Operand.const (Value.int IntKind.i64 10)], argTypes := #[47, 3, 3] }, type := 47, pos := "law.go:103", after := #[{ on := 6, ground := Ground.data }, { on := 9, ground := Ground.data }, { on := 9, ground := Ground.chain }], guard := none }) rfl (fun Kz hK => ?_) EachU.nil
          go_simp
          obtain ⟨B2, hB2⟩ : ∃ X, X = B1 ++ nb x2.toNat 10 := ⟨_, rfl⟩
          have hl2 : B2.length ≤ B1.length + 10 := by rw [hB2, List.length_append, nb_len]; omega
          have HB2 := Lib.hid hB2
          clear hB2
          go_at_call 24
          refine (lput_next w.heap.size x2 10 HB2.out (by omega) (by omega) (by decide) (by decide) (by omega) HD.out.s.lt (HD.out.r (B1, p1, c1) (by simp))).mono ?_
          rintro e w5 ⟨p2, c2, rfl, hR, hg⟩
          have HDn := Lib.hid ((HD.out.keep hg).addr hR)
          clear hR hg
          clear HD
          have HD := HDn
          clear HDn
          refine hK.out _ _ (fun _ => Lib.hid HD.out.s.sb) (fun hH2 => ?_)
          clear hK Kz hHeld
          have hHeld := hH2 rfl
          clear hH2
          (try simp only [Act.put, List.setIfInBounds_toArray, List.set_cons_zero, List.set_cons_succ])
          refine anyU_ready (rs := [13]) (by kernel_rfl) (by simp) ?_
          refine EachU.cons (o := { dst := some 53, op := Op.call { callee := Callee.value (Operand.func 25), args := #[Operand.tmp 51, Operand.tmp 52], argTypes := #[27, 22] }, type := 3, pos := "law.go:103", after := #[{ on := 11, ground := Ground.data }, { on := 12, ground := Ground.data }, { on := 10, ground := Ground.chain }], guard := none }) rfl (fun Kz hK => ?_) EachU.nil
          go_simp
          go_at_call 25
          refine (pick_any (lim 1024) _ _ 0 3 3 (by omega) (by omega) _ HD.out.s.t.tp (HD.out.m (1024, _, 3) (by simp))).mono ?_
          rintro e w5 ⟨x3, rfl, hx3, hs⟩
          unfold lim at hx3
          have HDn := Lib.hid (HD.out.tape hs)
          clear hs
          clear HD
          have HD := HDn
          clear HDn
          refine hK.out _ _ (fun _ => Lib.hid HD.out.s.sb) (fun hH2 => ?_)
          clear hK Kz hHeld
          have hHeld := hH2 rfl
          clear hH2
          (try simp only [Act.put, List.setIfInBounds_toArray, List.set_cons_zero, List.set_cons_succ])
          refine anyU_ready (rs := [14]) (by kernel_rfl) (by simp) ?_
          refine EachU.cons (o := { dst := some 54, op := Op.call { callee := Callee.value (Operand.func 24), args := #[Operand.tmp 50, Operand.tmp 53, Operand.const (Value.int IntKind.i64 10)], argTypes := #[47, 3, 3] }, type := 47, pos := "law.go:103", after := #[{ on := 10, ground := Ground.data }, { on := 13, ground := Ground.data }, { on := 13, ground := Ground.chain }], guard := none }) rfl (fun Kz hK => ?_) EachU.nil
          go_simp
          obtain ⟨B3, hB3⟩ : ∃ X, X = B2 ++ nb x3.toNat 10 := ⟨_, rfl⟩
          have hl3 : B3.length ≤ B2.length + 10 := by rw [hB3, List.length_append, nb_len]; omega
          have HB3 := Lib.hid hB3
          clear hB3
          go_at_call 24
          refine (lput_next w.heap.size x3 10 HB3.out (by omega) (by omega) (by decide) (by decide) (by omega) HD.out.s.lt (HD.out.r (B2, p2, c2) (by simp))).mono ?_
          rintro e w5 ⟨p3, c3, rfl, hR, hg⟩
          have HDn := Lib.hid ((HD.out.keep hg).addr hR)
          clear hR hg
          clear HD
          have HD := HDn
          clear HDn
          refine hK.out _ _ (fun _ => Lib.hid HD.out.s.sb) (fun hH2 => ?_)
          clear hK Kz hHeld
          have hHeld := hH2 rfl
          clear hH2
          (try simp only [Act.put, List.setIfInBounds_toArray, List.set_cons_zero, List.set_cons_succ])
        rotate_left 1
        focus
          go_simp
          have HDn := Lib.hid (HD.out.ints 1024 [1, 0, 1000, 1001] #[.int .i64 (1), .int .i64 (0), .int .i64 (1000), .int .i64 (1001)] (by intro x hx; simp at hx; unfold lim; omega) rfl)
          clear HD
          have HD := HDn
          clear HDn
          refine hK.out _ _ (fun _ => Lib.hid HD.out.s.sb) (fun hH2 => ?_)
          clear hK Kz hHeld
          have hHeld := hH2 rfl
          clear hH2
          (try simp only [Act.put, List.setIfInBounds_toArray, List.set_cons_zero, List.set_cons_succ])
          refine anyU_ready (rs := [6]) (by kernel_rfl) (by simp) ?_
          refine EachU.cons (o := { dst := some 46, op := Op.call { callee := Callee.value (Operand.func 24), args := #[Operand.tmp 40, Operand.tmp 45, Operand.const (Value.int IntKind.i64 7)], argTypes := #[47, 3, 3] }, type := 47, pos := "law.go:103", after := #[{ on := 0, ground := Ground.data }, { on := 5, ground := Ground.data }, { on := 5, ground := Ground.chain }], guard := none }) rfl (fun Kz hK => ?_) EachU.nil
          go_simp
          obtain ⟨B1, hB1⟩ : ∃ X, X = B ++ nb x1.toNat 7 := ⟨_, rfl⟩
          have hl1 : B1.length ≤ B.length + 7 := by rw [hB1, List.length_append, nb_len]; omega
          have HB1 := Lib.hid hB1
          clear hB1
          go_at_call 24
          refine (lput_next w.heap.size x1 7 HB1.out (by omega) (by omega) (by decide) (by decide) (by omega) HD.out.s.lt (HD.out.s.br)).mono ?_
          rintro e w5 ⟨p1, c1, rfl, hR, hg⟩
          have HDn := Lib.hid ((HD.out.keep hg).addr hR)
          clear hR hg
          clear HD
          have HD := HDn
          clear HDn
          refine hK.out _ _ (fun _ => Lib.hid HD.out.s.sb) (fun hH2 => ?_)
          clear hK Kz hHeld
          have hHeld := hH2 rfl
          clear hH2
          (try simp only [Act.put, List.setIfInBounds_toArray, List.set_cons_zero, List.set_cons_succ])
          refine anyU_ready (rs := [9]) (by kernel_rfl) (by simp) ?_
          refine EachU.cons (o := { dst := some 49, op := Op.call { callee := Callee.value (Operand.func 25), args := #[Operand.tmp 47, Operand.tmp 48], argTypes := #[27, 22] }, type := 3, pos := "law.go:103", after := #[{ on := 7, ground := Ground.data }, { on := 8, ground := Ground.data }, { on := 6, ground := Ground.chain }], guard := none }) rfl (fun Kz hK => ?_) EachU.nil
          go_simp
          go_at_call 25
          refine (pick_any (lim 1024) _ _ 0 4 4 (by omega) (by omega) _ HD.out.s.t.tp (HD.out.m (1024, _, 4) (by simp))).mono ?_
          rintro e w5 ⟨x2, rfl, hx2, hs⟩
          unfold lim at hx2
          have HDn := Lib.hid (HD.out.tape hs)
          clear hs
          clear HD
          have HD := HDn
          clear HDn
          refine hK.out _ _ (fun _ => Lib.hid HD.out.s.sb) (fun hH2 => ?_)
          clear hK Kz hHeld
          have hHeld := hH2 rfl
          clear hH2
          (try simp only [Act.put, List.setIfInBounds_toArray, List.set_cons_zero, List.set_cons_succ])
          refine anyU_ready (rs := [10]) (by kernel_rfl) (by simp) ?_
          refine EachU.cons (o := { dst := some 50, op := Op.call { callee := Callee.value (Operand.func 24), args := #[Operand.tmp 46, Operand.tmp 49, Operand.const (Value.int IntKind.i64 10)], argTypes := #[47, 3, 3] }, type := 47, pos := "law.go:103", after := #[{ on := 6, ground := Ground.data }, { on := 9, ground := Ground.data }, { on := 9, ground := Ground.chain }], guard := none }) rfl (fun Kz hK => ?_) EachU.nil
          go_simp
          obtain ⟨B2, hB2⟩ : ∃ X, X = B1 ++ nb x2.toNat 10 := ⟨_, rfl⟩
          have hl2 : B2.length ≤ B1.length + 10 := by rw [hB2, List.length_append, nb_len]; omega
          have HB2 := Lib.hid hB2
          clear hB2
          go_at_call 24
          refine (lput_next w.heap.size x2 10 HB2.out (by omega) (by omega) (by decide) (by decide) (by omega) HD.out.s.lt (HD.out.r (B1, p1, c1) (by simp))).mono ?_
          rintro e w5 ⟨p2, c2, rfl, hR, hg⟩
          have HDn := Lib.hid ((HD.out.keep hg).addr hR)
          clear hR hg
          clear HD
          have HD := HDn
          clear HDn
          refine hK.out _ _ (fun _ => Lib.hid HD.out.s.sb) (fun hH2 => ?_)
          clear hK Kz hHeld
          have hHeld := hH2 rfl
          clear hH2
          (try simp only [Act.put, List.setIfInBounds_toArray, List.set_cons_zero, List.set_cons_succ])
          refine anyU_ready (rs := [13]) (by kernel_rfl) (by simp) ?_
          refine EachU.cons (o := { dst := some 53, op := Op.call { callee := Callee.value (Operand.func 25), args := #[Operand.tmp 51, Operand.tmp 52], argTypes := #[27, 22] }, type := 3, pos := "law.go:103", after := #[{ on := 11, ground := Ground.data }, { on := 12, ground := Ground.data }, { on := 10, ground := Ground.chain }], guard := none }) rfl (fun Kz hK => ?_) EachU.nil
          go_simp
          go_at_call 25
          refine (pick_any (lim 1024) _ _ 0 3 3 (by omega) (by omega) _ HD.out.s.t.tp (HD.out.m (1024, _, 3) (by simp))).mono ?_
          rintro e w5 ⟨x3, rfl, hx3, hs⟩
          unfold lim at hx3
          have HDn := Lib.hid (HD.out.tape hs)
          clear hs
          clear HD
          have HD := HDn
          clear HDn
          refine hK.out _ _ (fun _ => Lib.hid HD.out.s.sb) (fun hH2 => ?_)
          clear hK Kz hHeld
          have hHeld := hH2 rfl
          clear hH2
          (try simp only [Act.put, List.setIfInBounds_toArray, List.set_cons_zero, List.set_cons_succ])
          refine anyU_ready (rs := [14]) (by kernel_rfl) (by simp) ?_
          refine EachU.cons (o := { dst := some 54, op := Op.call { callee := Callee.value (Operand.func 24), args := #[Operand.tmp 50, Operand.tmp 53, Operand.const (Value.int IntKind.i64 10)], argTypes := #[47, 3, 3] }, type := 47, pos := "law.go:103", after := #[{ on := 10, ground := Ground.data }, { on := 13, ground := Ground.data }, { on := 13, ground := Ground.chain }], guard := none }) rfl (fun Kz hK => ?_) EachU.nil
          go_simp
          obtain ⟨B3, hB3⟩ : ∃ X, X = B2 ++ nb x3.toNat 10 := ⟨_, rfl⟩
          have hl3 : B3.length ≤ B2.length + 10 := by rw [hB3, List.length_append, nb_len]; omega
          have HB3 := Lib.hid hB3
          clear hB3
          go_at_call 24
          refine (lput_next w.heap.size x3 10 HB3.out (by omega) (by omega) (by decide) (by decide) (by omega) HD.out.s.lt (HD.out.r (B2, p2, c2) (by simp))).mono ?_
          rintro e w5 ⟨p3, c3, rfl, hR, hg⟩
          have HDn := Lib.hid ((HD.out.keep hg).addr hR)
          clear hR hg
          clear HD
          have HD := HDn
          clear HDn
          refine hK.out _ _ (fun _ => Lib.hid HD.out.s.sb) (fun hH2 => ?_)
          clear hK Kz hHeld
          have hHeld := hH2 rfl
          clear hH2
          (try simp only [Act.put, List.setIfInBounds_toArray, List.set_cons_zero, List.set_cons_succ])
        rotate_left 1
        focus
          go_simp
          have HDn := Lib.hid (HD.out.ints 1024 [1, 0, 1000, 1001] #[.int .i64 (1), .int .i64 (0), .int .i64 (1000), .int .i64 (1001)] (by intro x hx; simp at hx; unfold lim; omega) rfl)
          clear HD
          have HD := HDn
          clear HDn
          refine hK.out _ _ (fun _ => Lib.hid HD.out.s.sb) (fun hH2 => ?_)
          clear hK Kz hHeld
          have hHeld := hH2 rfl
          clear hH2
          (try simp only [Act.put, List.setIfInBounds_toArray, List.set_cons_zero, List.set_cons_succ])
          refine anyU_ready (rs := [5]) (by kernel_rfl) (by simp) ?_
          refine EachU.cons (o := { dst := some 45, op := Op.call { callee := Callee.value (Operand.func 25), args := #[Operand.tmp 41, Operand.tmp 44], argTypes := #[27, 22] }, type := 3, pos := "law.go:103", after := #[{ on := 1, ground := Ground.data }, { on := 4, ground := Ground.data }], guard := none }) rfl (fun Kz hK => ?_) EachU.nil
          go_simp
          go_at_call 25
          refine (pick_any (lim 128) _ _ 0 5 5 (by omega) (by omega) _ HD.out.s.t.tp (HD.out.m (128, _, 5) (by simp))).mono ?_
          rintro e w5 ⟨x1, rfl, hx1, hs⟩
          unfold lim at hx1
          have HDn := Lib.hid (HD.out.tape hs)
          clear hs
          clear HD
          have HD := HDn
          clear HDn
          refine hK.out _ _ (fun _ => Lib.hid HD.out.s.sb) (fun hH2 => ?_)
          clear hK Kz hHeld
          have hHeld := hH2 rfl
          clear hH2
          (try simp only [Act.put, List.setIfInBounds_toArray, List.set_cons_zero, List.set_cons_succ])
          refine anyU_ready (rs := [6]) (by kernel_rfl) (by simp) ?_
          refine EachU.cons (o := { dst := some 46, op := Op.call { callee := Callee.value (Operand.func 24), args := #[Operand.tmp 40, Operand.tmp 45, Operand.const (Value.int IntKind.i64 7)], argTypes := #[47, 3, 3] }, type := 47, pos := "law.go:103", after := #[{ on := 0, ground := Ground.data }, { on := 5, ground := Ground.data }, { on := 5, ground := Ground.chain }], guard := none }) rfl (fun Kz hK => ?_) EachU.nil
          go_simp
          obtain ⟨B1, hB1⟩ : ∃ X, X = B ++ nb x1.toNat 7 := ⟨_, rfl⟩
          have hl1 : B1.length ≤ B.length + 7 := by rw [hB1, List.length_append, nb_len]; omega
          have HB1 := Lib.hid hB1
          clear hB1
          go_at_call 24
          refine (lput_next w.heap.size x1 7 HB1.out (by omega) (by omega) (by decide) (by decide) (by omega) HD.out.s.lt (HD.out.s.br)).mono ?_
          rintro e w5 ⟨p1, c1, rfl, hR, hg⟩
          have HDn := Lib.hid ((HD.out.keep hg).addr hR)
          clear hR hg
          clear HD
          have HD := HDn
          clear HDn
          refine hK.out _ _ (fun _ => Lib.hid HD.out.s.sb) (fun hH2 => ?_)
          clear hK Kz hHeld
          have hHeld := hH2 rfl
          clear hH2
          (try simp only [Act.put, List.setIfInBounds_toArray, List.set_cons_zero, List.set_cons_succ])
          refine anyU_ready (rs := [9]) (by kernel_rfl) (by simp) ?_
          refine EachU.cons (o := { dst := some 49, op := Op.call { callee := Callee.value (Operand.func 25), args := #[Operand.tmp 47, Operand.tmp 48], argTypes := #[27, 22] }, type := 3, pos := "law.go:103", after := #[{ on := 7, ground := Ground.data }, { on := 8, ground := Ground.data }, { on := 6, ground := Ground.chain }], guard := none }) rfl (fun Kz hK => ?_) EachU.nil
          go_simp
          go_at_call 25
          refine (pick_any (lim 1024) _ _ 0 4 4 (by omega) (by omega) _ HD.out.s.t.tp (HD.out.m (1024, _, 4) (by simp))).mono ?_
          rintro e w5 ⟨x2, rfl, hx2, hs⟩
          unfold lim at hx2
          have HDn := Lib.hid (HD.out.tape hs)
          clear hs
          clear HD
          have HD := HDn
          clear HDn
          refine hK.out _ _ (fun _ => Lib.hid HD.out.s.sb) (fun hH2 => ?_)
          clear hK Kz hHeld
          have hHeld := hH2 rfl
          clear hH2
          (try simp only [Act.put, List.setIfInBounds_toArray, List.set_cons_zero, List.set_cons_succ])
          refine anyU_ready (rs := [10]) (by kernel_rfl) (by simp) ?_
          refine EachU.cons (o := { dst := some 50, op := Op.call { callee := Callee.value (Operand.func 24), args := #[Operand.tmp 46, Operand.tmp 49, Operand.const (Value.int IntKind.i64 10)], argTypes := #[47, 3, 3] }, type := 47, pos := "law.go:103", after := #[{ on := 6, ground := Ground.data }, { on := 9, ground := Ground.data }, { on := 9, ground := Ground.chain }], guard := none }) rfl (fun Kz hK => ?_) EachU.nil
          go_simp
          obtain ⟨B2, hB2⟩ : ∃ X, X = B1 ++ nb x2.toNat 10 := ⟨_, rfl⟩
          have hl2 : B2.length ≤ B1.length + 10 := by rw [hB2, List.length_append, nb_len]; omega
          have HB2 := Lib.hid hB2
          clear hB2
          go_at_call 24
          refine (lput_next w.heap.size x2 10 HB2.out (by omega) (by omega) (by decide) (by decide) (by omega) HD.out.s.lt (HD.out.r (B1, p1, c1) (by simp))).mono ?_
          rintro e w5 ⟨p2, c2, rfl, hR, hg⟩
          have HDn := Lib.hid ((HD.out.keep hg).addr hR)
          clear hR hg
          clear HD
          have HD := HDn
          clear HDn
          refine hK.out _ _ (fun _ => Lib.hid HD.out.s.sb) (fun hH2 => ?_)
          clear hK Kz hHeld
          have hHeld := hH2 rfl
          clear hH2
          (try simp only [Act.put, List.setIfInBounds_toArray, List.set_cons_zero, List.set_cons_succ])
          refine anyU_ready (rs := [13]) (by kernel_rfl) (by simp) ?_
          refine EachU.cons (o := { dst := some 53, op := Op.call { callee := Callee.value (Operand.func 25), args := #[Operand.tmp 51, Operand.tmp 52], argTypes := #[27, 22] }, type := 3, pos := "law.go:103", after := #[{ on := 11, ground := Ground.data }, { on := 12, ground := Ground.data }, { on := 10, ground := Ground.chain }], guard := none }) rfl (fun Kz hK => ?_) EachU.nil
          go_simp
          go_at_call 25
          refine (pick_any (lim 1024) _ _ 0 3 3 (by omega) (by omega) _ HD.out.s.t.tp (HD.out.m (1024, _, 3) (by simp))).mono ?_
          rintro e w5 ⟨x3, rfl, hx3, hs⟩
          unfold lim at hx3
          have HDn := Lib.hid (HD.out.tape hs)
          clear hs
          clear HD
          have HD := HDn
          clear HDn
          refine hK.out _ _ (fun _ => Lib.hid HD.out.s.sb) (fun hH2 => ?_)
          clear hK Kz hHeld
          have hHeld := hH2 rfl
          clear hH2
          (try simp only [Act.put, List.setIfInBounds_toArray, List.set_cons_zero, List.set_cons_succ])
          refine anyU_ready (rs := [14]) (by kernel_rfl) (by simp) ?_
          refine EachU.cons (o := { dst := some 54, op := Op.call { callee := Callee.value (Operand.func 24), args := #[Operand.tmp 50, Operand.tmp 53, Operand.const (Value.int IntKind.i64 10)], argTypes := #[47, 3, 3] }, type := 47, pos := "law.go:103", after := #[{ on := 10, ground := Ground.data }, { on := 13, ground := Ground.data }, { on := 13, ground := Ground.chain }], guard := none }) rfl (fun Kz hK => ?_) EachU.nil
          go_simp
          obtain ⟨B3, hB3⟩ : ∃ X, X = B2 ++ nb x3.toNat 10 := ⟨_, rfl⟩
          have hl3 : B3.length ≤ B2.length + 10 := by rw [hB3, List.length_append, nb_len]; omega
          have HB3 := Lib.hid hB3
          clear hB3
          go_at_call 24
          refine (lput_next w.heap.size x3 10 HB3.out (by omega) (by omega) (by decide) (by decide) (by omega) HD.out.s.lt (HD.out.r (B2, p2, c2) (by simp))).mono ?_
          rintro e w5 ⟨p3, c3, rfl, hR, hg⟩
          have HDn := Lib.hid ((HD.out.keep hg).addr hR)
          clear hR hg
          clear HD
          have HD := HDn
          clear HDn
          refine hK.out _ _ (fun _ => Lib.hid HD.out.s.sb) (fun hH2 => ?_)
          clear hK Kz hHeld
          have hHeld := hH2 rfl
          clear hH2
          (try simp only [Act.put, List.setIfInBounds_toArray, List.set_cons_zero, List.set_cons_succ])
        rotate_left 1
        focus
          go_simp
          have HDn := Lib.hid (HD.out.ints 1024 [1, 0, 1000, 1001] #[.int .i64 (1), .int .i64 (0), .int .i64 (1000), .int .i64 (1001)] (by intro x hx; simp at hx; unfold lim; omega) rfl)
          clear HD
          have HD := HDn
          clear HDn
          refine hK.out _ _ (fun _ => Lib.hid HD.out.s.sb) (fun hH2 => ?_)
          clear hK Kz hHeld
          have hHeld := hH2 rfl
          clear hH2
          (try simp only [Act.put, List.setIfInBounds_toArray, List.set_cons_zero, List.set_cons_succ])
          refine anyU_ready (rs := [4, 12]) (by kernel_rfl) (by simp) ?_
          refine EachU.cons (o := { dst := some 44, op := Op.buildSlice 22 5 #[(0, Operand.tmp 43), (1, Operand.const (Value.int IntKind.i64 3)), (2, Operand.const (Value.int IntKind.i64 0)), (3, Operand.const (Value.int IntKind.i64 1)), (4, Operand.const (Value.int IntKind.i64 100))], type := 22, pos := "law.go:103", after := #[{ on := 3, ground := Ground.data }], guard := none }) rfl (fun Kz hK => ?_) (EachU.cons (o := { dst := some 52, op := Op.buildSlice 22 3 #[(0, Operand.const (Value.int IntKind.i64 0)), (1, Operand.const (Value.int IntKind.i64 1000)), (2, Operand.const (Value.int IntKind.i64 1001))], type := 22, pos := "law.go:103", after := #[], guard := none }) rfl (fun Kz hK => ?_) EachU.nil)
        focus
          go_simp
          have HDn := Lib.hid (HD.out.ints 128 [3 + (k : Int), 3, 0, 1, 100] #[.int .i64 (3 + (k : Int)), .int .i64 (3), .int .i64 (0), .int .i64 (1), .int .i64 (100)] (by intro x hx; simp at hx; unfold lim; omega) rfl)
          clear HD
          have HD := HDn
          clear HDn
          refine hK.out _ _ (fun _ => Lib.hid HD.out.s.sb) (fun hH2 => ?_)
          clear hK Kz hHeld
          have hHeld := hH2 rfl
          clear hH2
          (try simp only [Act.put, List.setIfInBounds_toArray, List.set_cons_zero, List.set_cons_succ])
          refine anyU_ready (rs := [5, 12]) (by kernel_rfl) (by simp) ?_
          refine EachU.cons (o := { dst := some 45, op := Op.call { callee := Callee.value (Operand.func 25), args := #[Operand.tmp 41, Operand.tmp 44], argTypes := #[27, 22] }, type := 3, pos := "law.go:103", after := #[{ on := 1, ground := Ground.data }, { on := 4, ground := Ground.data }], guard := none }) rfl (fun Kz hK => ?_) (EachU.cons (o := { dst := some 52, op := Op.buildSlice 22 3 #[(0, Operand.const (Value.int IntKind.i64 0)), (1, Operand.const (Value.int IntKind.i64 1000)), (2, Operand.const (Value.int IntKind.i64 1001))], type := 22, pos := "law.go:103", after := #[], guard := none }) rfl (fun Kz hK => ?_) EachU.nil)
        focus
          go_simp
          go_at_call 25
          refine (pick_any (lim 128) _ _ 0 5 5 (by omega) (by omega) _ HD.out.s.t.tp (HD.out.m (128, _, 5) (by simp))).mono ?_
          rintro e w5 ⟨x1, rfl, hx1, hs⟩
          unfold lim at hx1
          have HDn := Lib.hid (HD.out.tape hs)
          clear hs
          clear HD
          have HD := HDn
          clear HDn
          refine hK.out _ _ (fun _ => Lib.hid HD.out.s.sb) (fun hH2 => ?_)
          clear hK Kz hHeld
          have hHeld := hH2 rfl
          clear hH2
          (try simp only [Act.put, List.setIfInBounds_toArray, List.set_cons_zero, List.set_cons_succ])
          refine anyU_ready (rs := [6, 12]) (by kernel_rfl) (by simp) ?_
          refine EachU.cons (o := { dst := some 46, op := Op.call { callee := Callee.value (Operand.func 24), args := #[Operand.tmp 40, Operand.tmp 45, Operand.const (Value.int IntKind.i64 7)], argTypes := #[47, 3, 3] }, type := 47, pos := "law.go:103", after := #[{ on := 0, ground := Ground.data }, { on := 5, ground := Ground.data }, { on := 5, ground := Ground.chain }], guard := none }) rfl (fun Kz hK => ?_) (EachU.cons (o := { dst := some 52, op := Op.buildSlice 22 3 #[(0, Operand.const (Value.int IntKind.i64 0)), (1, Operand.const (Value.int IntKind.i64 1000)), (2, Operand.const (Value.int IntKind.i64 1001))], type := 22, pos := "law.go:103", after := #[], guard := none }) rfl (fun Kz hK => ?_) EachU.nil)
        focus
          go_simp
          obtain ⟨B1, hB1⟩ : ∃ X, X = B ++ nb x1.toNat 7 := ⟨_, rfl⟩
          have hl1 : B1.length ≤ B.length + 7 := by rw [hB1, List.length_append, nb_len]; omega
          have HB1 := Lib.hid hB1
          clear hB1
          go_at_call 24
          refine (lput_next w.heap.size x1 7 HB1.out (by omega) (by omega) (by decide) (by decide) (by omega) HD.out.s.lt (HD.out.s.br)).mono ?_
          rintro e w5 ⟨p1, c1, rfl, hR, hg⟩
          have HDn := Lib.hid ((HD.out.keep hg).addr hR)
          clear hR hg
          clear HD
          have HD := HDn
          clear HDn
          refine hK.out _ _ (fun _ => Lib.hid HD.out.s.sb) (fun hH2 => ?_)
          clear hK Kz hHeld
          have hHeld := hH2 rfl
          clear hH2
          (try simp only [Act.put, List.setIfInBounds_toArray, List.set_cons_zero, List.set_cons_succ])
          refine anyU_ready (rs := [9, 12]) (by kernel_rfl) (by simp) ?_
          refine EachU.cons (o := { dst := some 49, op := Op.call { callee := Callee.value (Operand.func 25), args := #[Operand.tmp 47, Operand.tmp 48], argTypes := #[27, 22] }, type := 3, pos := "law.go:103", after := #[{ on := 7, ground := Ground.data }, { on := 8, ground := Ground.data }, { on := 6, ground := Ground.chain }], guard := none }) rfl (fun Kz hK => ?_) (EachU.cons (o := { dst := some 52, op := Op.buildSlice 22 3 #[(0, Operand.const (Value.int IntKind.i64 0)), (1, Operand.const (Value.int IntKind.i64 1000)), (2, Operand.const (Value.int IntKind.i64 1001))], type := 22, pos := "law.go:103", after := #[], guard := none }) rfl (fun Kz hK => ?_) EachU.nil)
        focus
          go_simp
          go_at_call 25
          refine (pick_any (lim 1024) _ _ 0 4 4 (by omega) (by omega) _ HD.out.s.t.tp (HD.out.m (1024, _, 4) (by simp))).mono ?_
          rintro e w5 ⟨x2, rfl, hx2, hs⟩
          unfold lim at hx2
          have HDn := Lib.hid (HD.out.tape hs)
          clear hs
          clear HD
          have HD := HDn
          clear HDn
          refine hK.out _ _ (fun _ => Lib.hid HD.out.s.sb) (fun hH2 => ?_)
          clear hK Kz hHeld
          have hHeld := hH2 rfl
          clear hH2
          (try simp only [Act.put, List.setIfInBounds_toArray, List.set_cons_zero, List.set_cons_succ])
          refine anyU_ready (rs := [10, 12]) (by kernel_rfl) (by simp) ?_
          refine EachU.cons (o := { dst := some 50, op := Op.call { callee := Callee.value (Operand.func 24), args := #[Operand.tmp 46, Operand.tmp 49, Operand.const (Value.int IntKind.i64 10)], argTypes := #[47, 3, 3] }, type := 47, pos := "law.go:103", after := #[{ on := 6, ground := Ground.data }, { on := 9, ground := Ground.data }, { on := 9, ground := Ground.chain }], guard := none }) rfl (fun Kz hK => ?_) (EachU.cons (o := { dst := some 52, op := Op.buildSlice 22 3 #[(0, Operand.const (Value.int IntKind.i64 0)), (1, Operand.const (Value.int IntKind.i64 1000)), (2, Operand.const (Value.int IntKind.i64 1001))], type := 22, pos := "law.go:103", after := #[], guard := none }) rfl (fun Kz hK => ?_) EachU.nil)
        focus
          go_simp
          obtain ⟨B2, hB2⟩ : ∃ X, X = B1 ++ nb x2.toNat 10 := ⟨_, rfl⟩
          have hl2 : B2.length ≤ B1.length + 10 := by rw [hB2, List.length_append, nb_len]; omega
          have HB2 := Lib.hid hB2
          clear hB2
          go_at_call 24
          refine (lput_next w.heap.size x2 10 HB2.out (by omega) (by omega) (by decide) (by decide) (by omega) HD.out.s.lt (HD.out.r (B1, p1, c1) (by simp))).mono ?_
          rintro e w5 ⟨p2, c2, rfl, hR, hg⟩
          have HDn := Lib.hid ((HD.out.keep hg).addr hR)
          clear hR hg
          clear HD
          have HD := HDn
          clear HDn
          refine hK.out _ _ (fun _ => Lib.hid HD.out.s.sb) (fun hH2 => ?_)
          clear hK Kz hHeld
          have hHeld := hH2 rfl
          clear hH2
          (try simp only [Act.put, List.setIfInBounds_toArray, List.set_cons_zero, List.set_cons_succ])
          refine anyU_ready (rs := [12]) (by kernel_rfl) (by simp) ?_
          refine EachU.cons (o := { dst := some 52, op := Op.buildSlice 22 3 #[(0, Operand.const (Value.int IntKind.i64 0)), (1, Operand.const (Value.int IntKind.i64 1000)), (2, Operand.const (Value.int IntKind.i64 1001))], type := 22, pos := "law.go:103", after := #[], guard := none }) rfl (fun Kz hK => ?_) EachU.nil
          go_simp
          have HDn := Lib.hid (HD.out.ints 1024 [0, 1000, 1001] #[.int .i64 (0), .int .i64 (1000), .int .i64 (1001)] (by intro x hx; simp at hx; unfold lim; omega) rfl)
          clear HD
          have HD := HDn
          clear HDn
          refine hK.out _ _ (fun _ => Lib.hid HD.out.s.sb) (fun hH2 => ?_)
          clear hK Kz hHeld
          have hHeld := hH2 rfl
          clear hH2
          (try simp only [Act.put, List.setIfInBounds_toArray, List.set_cons_zero, List.set_cons_succ])
          refine anyU_ready (rs := [13]) (by kernel_rfl) (by simp) ?_
          refine EachU.cons (o := { dst := some 53, op := Op.call { callee := Callee.value (Operand.func 25), args := #[Operand.tmp 51, Operand.tmp 52], argTypes := #[27, 22] }, type := 3, pos := "law.go:103", after := #[{ on := 11, ground := Ground.data }, { on := 12, ground := Ground.data }, { on := 10, ground := Ground.chain }], guard := none }) rfl (fun Kz hK => ?_) EachU.nil
          go_simp
          go_at_call 25
          refine (pick_any (lim 1024) _ _ 0 3 3 (by omega) (by omega) _ HD.out.s.t.tp (HD.out.m (1024, _, 3) (by simp))).mono ?_
          rintro e w5 ⟨x3, rfl, hx3, hs⟩
          unfold lim at hx3
          have HDn := Lib.hid (HD.out.tape hs)
          clear hs
          clear HD
          have HD := HDn
          clear HDn
          refine hK.out _ _ (fun _ => Lib.hid HD.out.s.sb) (fun hH2 => ?_)
          clear hK Kz hHeld
          have hHeld := hH2 rfl
          clear hH2
          (try simp only [Act.put, List.setIfInBounds_toArray, List.set_cons_zero, List.set_cons_succ])
          refine anyU_ready (rs := [14]) (by kernel_rfl) (by simp) ?_
          refine EachU.cons (o := { dst := some 54, op := Op.call { callee := Callee.value (Operand.func 24), args := #[Operand.tmp 50, Operand.tmp 53, Operand.const (Value.int IntKind.i64 10)], argTypes := #[47, 3, 3] }, type := 47, pos := "law.go:103", after := #[{ on := 10, ground := Ground.data }, { on := 13, ground := Ground.data }, { on := 13, ground := Ground.chain }], guard := none }) rfl (fun Kz hK => ?_) EachU.nil
          go_simp
          obtain ⟨B3, hB3⟩ : ∃ X, X = B2 ++ nb x3.toNat 10 := ⟨_, rfl⟩
          have hl3 : B3.length ≤ B2.length + 10 := by rw [hB3, List.length_append, nb_len]; omega
          have HB3 := Lib.hid hB3
          clear hB3
          go_at_call 24
          refine (lput_next w.heap.size x3 10 HB3.out (by omega) (by omega) (by decide) (by decide) (by omega) HD.out.s.lt (HD.out.r (B2, p2, c2) (by simp))).mono ?_
          rintro e w5 ⟨p3, c3, rfl, hR, hg⟩
          have HDn := Lib.hid ((HD.out.keep hg).addr hR)
          clear hR hg
          clear HD
          have HD := HDn
          clear HDn
          refine hK.out _ _ (fun _ => Lib.hid HD.out.s.sb) (fun hH2 => ?_)
          clear hK Kz hHeld
          have hHeld := hH2 rfl
          clear hH2
          (try simp only [Act.put, List.setIfInBounds_toArray, List.set_cons_zero, List.set_cons_succ])
        rotate_left 1
        focus
          go_simp
          have HDn := Lib.hid (HD.out.ints 1024 [0, 1000, 1001] #[.int .i64 (0), .int .i64 (1000), .int .i64 (1001)] (by intro x hx; simp at hx; unfold lim; omega) rfl)
          clear HD
          have HD := HDn
          clear HDn
          refine hK.out _ _ (fun _ => Lib.hid HD.out.s.sb) (fun hH2 => ?_)
          clear hK Kz hHeld
          have hHeld := hH2 rfl
          clear hH2
          (try simp only [Act.put, List.setIfInBounds_toArray, List.set_cons_zero, List.set_cons_succ])
          refine anyU_ready (rs := [10]) (by kernel_rfl) (by simp) ?_
          refine EachU.cons (o := { dst := some 50, op := Op.call { callee := Callee.value (Operand.func 24), args := #[Operand.tmp 46, Operand.tmp 49, Operand.const (Value.int IntKind.i64 10)], argTypes := #[47, 3, 3] }, type := 47, pos := "law.go:103", after := #[{ on := 6, ground := Ground.data }, { on := 9, ground := Ground.data }, { on := 9, ground := Ground.chain }], guard := none }) rfl (fun Kz hK => ?_) EachU.nil
          go_simp
          obtain ⟨B2, hB2⟩ : ∃ X, X = B1 ++ nb x2.toNat 10 := ⟨_, rfl⟩
          have hl2 : B2.length ≤ B1.length + 10 := by rw [hB2, List.length_append, nb_len]; omega
          have HB2 := Lib.hid hB2
          clear hB2
          go_at_call 24
          refine (lput_next w.heap.size x2 10 HB2.out (by omega) (by omega) (by decide) (by decide) (by omega) HD.out.s.lt (HD.out.r (B1, p1, c1) (by simp))).mono ?_
          rintro e w5 ⟨p2, c2, rfl, hR, hg⟩
          have HDn := Lib.hid ((HD.out.keep hg).addr hR)
          clear hR hg
          clear HD
          have HD := HDn
          clear HDn
          refine hK.out _ _ (fun _ => Lib.hid HD.out.s.sb) (fun hH2 => ?_)
          clear hK Kz hHeld
          have hHeld := hH2 rfl
          clear hH2
          (try simp only [Act.put, List.setIfInBounds_toArray, List.set_cons_zero, List.set_cons_succ])
          refine anyU_ready (rs := [13]) (by kernel_rfl) (by simp) ?_
          refine EachU.cons (o := { dst := some 53, op := Op.call { callee := Callee.value (Operand.func 25), args := #[Operand.tmp 51, Operand.tmp 52], argTypes := #[27, 22] }, type := 3, pos := "law.go:103", after := #[{ on := 11, ground := Ground.data }, { on := 12, ground := Ground.data }, { on := 10, ground := Ground.chain }], guard := none }) rfl (fun Kz hK => ?_) EachU.nil
          go_simp
          go_at_call 25
          refine (pick_any (lim 1024) _ _ 0 3 3 (by omega) (by omega) _ HD.out.s.t.tp (HD.out.m (1024, _, 3) (by simp))).mono ?_
          rintro e w5 ⟨x3, rfl, hx3, hs⟩
          unfold lim at hx3
          have HDn := Lib.hid (HD.out.tape hs)
          clear hs
          clear HD
          have HD := HDn
          clear HDn
          refine hK.out _ _ (fun _ => Lib.hid HD.out.s.sb) (fun hH2 => ?_)
          clear hK Kz hHeld
          have hHeld := hH2 rfl
          clear hH2
          (try simp only [Act.put, List.setIfInBounds_toArray, List.set_cons_zero, List.set_cons_succ])
          refine anyU_ready (rs := [14]) (by kernel_rfl) (by simp) ?_
          refine EachU.cons (o := { dst := some 54, op := Op.call { callee := Callee.value (Operand.func 24), args := #[Operand.tmp 50, Operand.tmp 53, Operand.const (Value.int IntKind.i64 10)], argTypes := #[47, 3, 3] }, type := 47, pos := "law.go:103", after := #[{ on := 10, ground := Ground.data }, { on := 13, ground := Ground.data }, { on := 13, ground := Ground.chain }], guard := none }) rfl (fun Kz hK => ?_) EachU.nil
          go_simp
          obtain ⟨B3, hB3⟩ : ∃ X, X = B2 ++ nb x3.toNat 10 := ⟨_, rfl⟩
          have hl3 : B3.length ≤ B2.length + 10 := by rw [hB3, List.length_append, nb_len]; omega
          have HB3 := Lib.hid hB3
          clear hB3
          go_at_call 24
          refine (lput_next w.heap.size x3 10 HB3.out (by omega) (by omega) (by decide) (by decide) (by omega) HD.out.s.lt (HD.out.r (B2, p2, c2) (by simp))).mono ?_
          rintro e w5 ⟨p3, c3, rfl, hR, hg⟩
          have HDn := Lib.hid ((HD.out.keep hg).addr hR)
          clear hR hg
          clear HD
          have HD := HDn
          clear HDn
          refine hK.out _ _ (fun _ => Lib.hid HD.out.s.sb) (fun hH2 => ?_)
          clear hK Kz hHeld
          have hHeld := hH2 rfl
          clear hH2
          (try simp only [Act.put, List.setIfInBounds_toArray, List.set_cons_zero, List.set_cons_succ])
        rotate_left 1
        focus
          go_simp
          have HDn := Lib.hid (HD.out.ints 1024 [0, 1000, 1001] #[.int .i64 (0), .int .i64 (1000), .int .i64 (1001)] (by intro x hx; simp at hx; unfold lim; omega) rfl)
          clear HD
          have HD := HDn
          clear HDn
          refine hK.out _ _ (fun _ => Lib.hid HD.out.s.sb) (fun hH2 => ?_)
          clear hK Kz hHeld
          have hHeld := hH2 rfl
          clear hH2
          (try simp only [Act.put, List.setIfInBounds_toArray, List.set_cons_zero, List.set_cons_succ])
          refine anyU_ready (rs := [9]) (by kernel_rfl) (by simp) ?_
          refine EachU.cons (o := { dst := some 49, op := Op.call { callee := Callee.value (Operand.func 25), args := #[Operand.tmp 47, Operand.tmp 48], argTypes := #[27, 22] }, type := 3, pos := "law.go:103", after := #[{ on := 7, ground := Ground.data }, { on := 8, ground := Ground.data }, { on := 6, ground := Ground.chain }], guard := none }) rfl (fun Kz hK => ?_) EachU.nil
          go_simp
          go_at_call 25
          refine (pick_any (lim 1024) _ _ 0 4 4 (by omega) (by omega) _ HD.out.s.t.tp (HD.out.m (1024, _, 4) (by simp))).mono ?_
          rintro e w5 ⟨x2, rfl, hx2, hs⟩
          unfold lim at hx2
          have HDn := Lib.hid (HD.out.tape hs)
          clear hs
          clear HD
          have HD := HDn
          clear HDn
          refine hK.out _ _ (fun _ => Lib.hid HD.out.s.sb) (fun hH2 => ?_)
          clear hK Kz hHeld
          have hHeld := hH2 rfl
          clear hH2
          (try simp only [Act.put, List.setIfInBounds_toArray, List.set_cons_zero, List.set_cons_succ])
          refine anyU_ready (rs := [10]) (by kernel_rfl) (by simp) ?_
          refine EachU.cons (o := { dst := some 50, op := Op.call { callee := Callee.value (Operand.func 24), args := #[Operand.tmp 46, Operand.tmp 49, Operand.const (Value.int IntKind.i64 10)], argTypes := #[47, 3, 3] }, type := 47, pos := "law.go:103", after := #[{ on := 6, ground := Ground.data }, { on := 9, ground := Ground.data }, { on := 9, ground := Ground.chain }], guard := none }) rfl (fun Kz hK => ?_) EachU.nil
          go_simp
          obtain ⟨B2, hB2⟩ : ∃ X, X = B1 ++ nb x2.toNat 10 := ⟨_, rfl⟩
          have hl2 : B2.length ≤ B1.length + 10 := by rw [hB2, List.length_append, nb_len]; omega
          have HB2 := Lib.hid hB2
          clear hB2
          go_at_call 24
          refine (lput_next w.heap.size x2 10 HB2.out (by omega) (by omega) (by decide) (by decide) (by omega) HD.out.s.lt (HD.out.r (B1, p1, c1) (by simp))).mono ?_
          rintro e w5 ⟨p2, c2, rfl, hR, hg⟩
          have HDn := Lib.hid ((HD.out.keep hg).addr hR)
          clear hR hg
          clear HD
          have HD := HDn
          clear HDn
          refine hK.out _ _ (fun _ => Lib.hid HD.out.s.sb) (fun hH2 => ?_)
          clear hK Kz hHeld
          have hHeld := hH2 rfl
          clear hH2
          (try simp only [Act.put, List.setIfInBounds_toArray, List.set_cons_zero, List.set_cons_succ])
          refine anyU_ready (rs := [13]) (by kernel_rfl) (by simp) ?_
          refine EachU.cons (o := { dst := some 53, op := Op.call { callee := Callee.value (Operand.func 25), args := #[Operand.tmp 51, Operand.tmp 52], argTypes := #[27, 22] }, type := 3, pos := "law.go:103", after := #[{ on := 11, ground := Ground.data }, { on := 12, ground := Ground.data }, { on := 10, ground := Ground.chain }], guard := none }) rfl (fun Kz hK => ?_) EachU.nil
          go_simp
          go_at_call 25
          refine (pick_any (lim 1024) _ _ 0 3 3 (by omega) (by omega) _ HD.out.s.t.tp (HD.out.m (1024, _, 3) (by simp))).mono ?_
          rintro e w5 ⟨x3, rfl, hx3, hs⟩
          unfold lim at hx3
          have HDn := Lib.hid (HD.out.tape hs)
          clear hs
          clear HD
          have HD := HDn
          clear HDn
          refine hK.out _ _ (fun _ => Lib.hid HD.out.s.sb) (fun hH2 => ?_)
          clear hK Kz hHeld
          have hHeld := hH2 rfl
          clear hH2
          (try simp only [Act.put, List.setIfInBounds_toArray, List.set_cons_zero, List.set_cons_succ])
          refine anyU_ready (rs := [14]) (by kernel_rfl) (by simp) ?_
          refine EachU.cons (o := { dst := some 54, op := Op.call { callee := Callee.value (Operand.func 24), args := #[Operand.tmp 50, Operand.tmp 53, Operand.const (Value.int IntKind.i64 10)], argTypes := #[47, 3, 3] }, type := 47, pos := "law.go:103", after := #[{ on := 10, ground := Ground.data }, { on := 13, ground := Ground.data }, { on := 13, ground := Ground.chain }], guard := none }) rfl (fun Kz hK => ?_) EachU.nil
          go_simp
          obtain ⟨B3, hB3⟩ : ∃ X, X = B2 ++ nb x3.toNat 10 := ⟨_, rfl⟩
          have hl3 : B3.length ≤ B2.length + 10 := by rw [hB3, List.length_append, nb_len]; omega
          have HB3 := Lib.hid hB3
          clear hB3
          go_at_call 24
          refine (lput_next w.heap.size x3 10 HB3.out (by omega) (by omega) (by decide) (by decide) (by omega) HD.out.s.lt (HD.out.r (B2, p2, c2) (by simp))).mono ?_
          rintro e w5 ⟨p3, c3, rfl, hR, hg⟩
          have HDn := Lib.hid ((HD.out.keep hg).addr hR)
          clear hR hg
          clear HD
          have HD := HDn
          clear HDn
          refine hK.out _ _ (fun _ => Lib.hid HD.out.s.sb) (fun hH2 => ?_)
          clear hK Kz hHeld
          have hHeld := hH2 rfl
          clear hH2
          (try simp only [Act.put, List.setIfInBounds_toArray, List.set_cons_zero, List.set_cons_succ])
        rotate_left 1
        focus
          go_simp
          have HDn := Lib.hid (HD.out.ints 1024 [0, 1000, 1001] #[.int .i64 (0), .int .i64 (1000), .int .i64 (1001)] (by intro x hx; simp at hx; unfold lim; omega) rfl)
          clear HD
          have HD := HDn
          clear HDn
          refine hK.out _ _ (fun _ => Lib.hid HD.out.s.sb) (fun hH2 => ?_)
          clear hK Kz hHeld
          have hHeld := hH2 rfl
          clear hH2
          (try simp only [Act.put, List.setIfInBounds_toArray, List.set_cons_zero, List.set_cons_succ])
          refine anyU_ready (rs := [6]) (by kernel_rfl) (by simp) ?_
          refine EachU.cons (o := { dst := some 46, op := Op.call { callee := Callee.value (Operand.func 24), args := #[Operand.tmp 40, Operand.tmp 45, Operand.const (Value.int IntKind.i64 7)], argTypes := #[47, 3, 3] }, type := 47, pos := "law.go:103", after := #[{ on := 0, ground := Ground.data }, { on := 5, ground := Ground.data }, { on := 5, ground := Ground.chain }], guard := none }) rfl (fun Kz hK => ?_) EachU.nil
          go_simp
          obtain ⟨B1, hB1⟩ : ∃ X, X = B ++ nb x1.toNat 7 := ⟨_, rfl⟩
          have hl1 : B1.length ≤ B.length + 7 := by rw [hB1, List.length_append, nb_len]; omega
          have HB1 := Lib.hid hB1
          clear hB1
          go_at_call 24
          refine (lput_next w.heap.size x1 7 HB1.out (by omega) (by omega) (by decide) (by decide) (by omega) HD.out.s.lt (HD.out.s.br)).mono ?_
          rintro e w5 ⟨p1, c1, rfl, hR, hg⟩
          have HDn := Lib.hid ((HD.out.keep hg).addr hR)
          clear hR hg
          clear HD
          have HD := HDn
          clear HDn
          refine hK.out _ _ (fun _ => Lib.hid HD.out.s.sb) (fun hH2 => ?_)
          clear hK Kz hHeld
          have hHeld := hH2 rfl
          clear hH2
          (try simp only [Act.put, List.setIfInBounds_toArray, List.set_cons_zero, List.set_cons_succ])
          refine anyU_ready (rs := [9]) (by kernel_rfl) (by simp) ?_
          refine EachU.cons (o := { dst := some 49, op := Op.call { callee := Callee.value (Operand.func 25), args := #[Operand.tmp 47, Operand.tmp 48], argTypes := #[27, 22] }, type := 3, pos := "law.go:103", after := #[{ on := 7, ground := Ground.data }, { on := 8, ground := Ground.data }, { on := 6, ground := Ground.chain }], guard := none }) rfl (fun Kz hK => ?_) EachU.nil
          go_simp
          go_at_call 25
          refine (pick_any (lim 1024) _ _ 0 4 4 (by omega) (by omega) _ HD.out.s.t.tp (HD.out.m (1024, _, 4) (by simp))).mono ?_
          rintro e w5 ⟨x2, rfl, hx2, hs⟩
          unfold lim at hx2
          have HDn := Lib.hid (HD.out.tape hs)
          clear hs
          clear HD
          have HD := HDn
          clear HDn
          refine hK.out _ _ (fun _ => Lib.hid HD.out.s.sb) (fun hH2 => ?_)
          clear hK Kz hHeld
          have hHeld := hH2 rfl
          clear hH2
          (try simp only [Act.put, List.setIfInBounds_toArray, List.set_cons_zero, List.set_cons_succ])
          refine anyU_ready (rs := [10]) (by kernel_rfl) (by simp) ?_
          refine EachU.cons (o := { dst := some 50, op := Op.call { callee := Callee.value (Operand.func 24), args := #[Operand.tmp 46, Operand.tmp 49, Operand.const (Value.int IntKind.i64 10)], argTypes := #[47, 3, 3] }, type := 47, pos := "law.go:103", after := #[{ on := 6, ground := Ground.data }, { on := 9, ground := Ground.data }, { on := 9, ground := Ground.chain }], guard := none }) rfl (fun Kz hK => ?_) EachU.nil
          go_simp
          obtain ⟨B2, hB2⟩ : ∃ X, X = B1 ++ nb x2.toNat 10 := ⟨_, rfl⟩
          have hl2 : B2.length ≤ B1.length + 10 := by rw [hB2, List.length_append, nb_len]; omega
          have HB2 := Lib.hid hB2
          clear hB2
          go_at_call 24
          refine (lput_next w.heap.size x2 10 HB2.out (by omega) (by omega) (by decide) (by decide) (by omega) HD.out.s.lt (HD.out.r (B1, p1, c1) (by simp))).mono ?_
          rintro e w5 ⟨p2, c2, rfl, hR, hg⟩
          have HDn := Lib.hid ((HD.out.keep hg).addr hR)
          clear hR hg
          clear HD
          have HD := HDn
          clear HDn
          refine hK.out _ _ (fun _ => Lib.hid HD.out.s.sb) (fun hH2 => ?_)
          clear hK Kz hHeld
          have hHeld := hH2 rfl
          clear hH2
          (try simp only [Act.put, List.setIfInBounds_toArray, List.set_cons_zero, List.set_cons_succ])
          refine anyU_ready (rs := [13]) (by kernel_rfl) (by simp) ?_
          refine EachU.cons (o := { dst := some 53, op := Op.call { callee := Callee.value (Operand.func 25), args := #[Operand.tmp 51, Operand.tmp 52], argTypes := #[27, 22] }, type := 3, pos := "law.go:103", after := #[{ on := 11, ground := Ground.data }, { on := 12, ground := Ground.data }, { on := 10, ground := Ground.chain }], guard := none }) rfl (fun Kz hK => ?_) EachU.nil
          go_simp
          go_at_call 25
          refine (pick_any (lim 1024) _ _ 0 3 3 (by omega) (by omega) _ HD.out.s.t.tp (HD.out.m (1024, _, 3) (by simp))).mono ?_
          rintro e w5 ⟨x3, rfl, hx3, hs⟩
          unfold lim at hx3
          have HDn := Lib.hid (HD.out.tape hs)
          clear hs
          clear HD
          have HD := HDn
          clear HDn
          refine hK.out _ _ (fun _ => Lib.hid HD.out.s.sb) (fun hH2 => ?_)
          clear hK Kz hHeld
          have hHeld := hH2 rfl
          clear hH2
          (try simp only [Act.put, List.setIfInBounds_toArray, List.set_cons_zero, List.set_cons_succ])
          refine anyU_ready (rs := [14]) (by kernel_rfl) (by simp) ?_
          refine EachU.cons (o := { dst := some 54, op := Op.call { callee := Callee.value (Operand.func 24), args := #[Operand.tmp 50, Operand.tmp 53, Operand.const (Value.int IntKind.i64 10)], argTypes := #[47, 3, 3] }, type := 47, pos := "law.go:103", after := #[{ on := 10, ground := Ground.data }, { on := 13, ground := Ground.data }, { on := 13, ground := Ground.chain }], guard := none }) rfl (fun Kz hK => ?_) EachU.nil
          go_simp
          obtain ⟨B3, hB3⟩ : ∃ X, X = B2 ++ nb x3.toNat 10 := ⟨_, rfl⟩
          have hl3 : B3.length ≤ B2.length + 10 := by rw [hB3, List.length_append, nb_len]; omega
          have HB3 := Lib.hid hB3
          clear hB3
          go_at_call 24
          refine (lput_next w.heap.size x3 10 HB3.out (by omega) (by omega) (by decide) (by decide) (by omega) HD.out.s.lt (HD.out.r (B2, p2, c2) (by simp))).mono ?_
          rintro e w5 ⟨p3, c3, rfl, hR, hg⟩
          have HDn := Lib.hid ((HD.out.keep hg).addr hR)
          clear hR hg
          clear HD
          have HD := HDn
          clear HDn
          refine hK.out _ _ (fun _ => Lib.hid HD.out.s.sb) (fun hH2 => ?_)
          clear hK Kz hHeld
          have hHeld := hH2 rfl
          clear hH2
          (try simp only [Act.put, List.setIfInBounds_toArray, List.set_cons_zero, List.set_cons_succ])
        rotate_left 1
        focus
          go_simp
          have HDn := Lib.hid (HD.out.ints 1024 [0, 1000, 1001] #[.int .i64 (0), .int .i64 (1000), .int .i64 (1001)] (by intro x hx; simp at hx; unfold lim; omega) rfl)
          clear HD
          have HD := HDn
          clear HDn
          refine hK.out _ _ (fun _ => Lib.hid HD.out.s.sb) (fun hH2 => ?_)
          clear hK Kz hHeld
          have hHeld := hH2 rfl
          clear hH2
          (try simp only [Act.put, List.setIfInBounds_toArray, List.set_cons_zero, List.set_cons_succ])
          refine anyU_ready (rs := [5]) (by kernel_rfl) (by simp) ?_
          refine EachU.cons (o := { dst := some 45, op := Op.call { callee := Callee.value (Operand.func 25), args := #[Operand.tmp 41, Operand.tmp 44], argTypes := #[27, 22] }, type := 3, pos := "law.go:103", after := #[{ on := 1, ground := Ground.data }, { on := 4, ground := Ground.data }], guard := none }) rfl (fun Kz hK => ?_) EachU.nil
          go_simp
          go_at_call 25
          refine (pick_any (lim 128) _ _ 0 5 5 (by omega) (by omega) _ HD.out.s.t.tp (HD.out.m (128, _, 5) (by simp))).mono ?_
          rintro e w5 ⟨x1, rfl, hx1, hs⟩
          unfold lim at hx1
          have HDn := Lib.hid (HD.out.tape hs)
          clear hs
          clear HD
          have HD := HDn
          clear HDn
          refine hK.out _ _ (fun _ => Lib.hid HD.out.s.sb) (fun hH2 => ?_)
          clear hK Kz hHeld
          have hHeld := hH2 rfl
          clear hH2
          (try simp only [Act.put, List.setIfInBounds_toArray, List.set_cons_zero, List.set_cons_succ])
          refine anyU_ready (rs := [6]) (by kernel_rfl) (by simp) ?_
          refine EachU.cons (o := { dst := some 46, op := Op.call { callee := Callee.value (Operand.func 24), args := #[Operand.tmp 40, Operand.tmp 45, Operand.const (Value.int IntKind.i64 7)], argTypes := #[47, 3, 3] }, type := 47, pos := "law.go:103", after := #[{ on := 0, ground := Ground.data }, { on := 5, ground := Ground.data }, { on := 5, ground := Ground.chain }], guard := none }) rfl (fun Kz hK => ?_) EachU.nil
          go_simp
          obtain ⟨B1, hB1⟩ : ∃ X, X = B ++ nb x1.toNat 7 := ⟨_, rfl⟩
          have hl1 : B1.length ≤ B.length + 7 := by rw [hB1, List.length_append, nb_len]; omega
          have HB1 := Lib.hid hB1
          clear hB1
          go_at_call 24
          refine (lput_next w.heap.size x1 7 HB1.out (by omega) (by omega) (by decide) (by decide) (by omega) HD.out.s.lt (HD.out.s.br)).mono ?_
          rintro e w5 ⟨p1, c1, rfl, hR, hg⟩
          have HDn := Lib.hid ((HD.out.keep hg).addr hR)
          clear hR hg
          clear HD
          have HD := HDn
          clear HDn
          refine hK.out _ _ (fun _ => Lib.hid HD.out.s.sb) (fun hH2 => ?_)
          clear hK Kz hHeld
          have hHeld := hH2 rfl
          clear hH2
          (try simp only [Act.put, List.setIfInBounds_toArray, List.set_cons_zero, List.set_cons_succ])
          refine anyU_ready (rs := [9]) (by kernel_rfl) (by simp) ?_
          refine EachU.cons (o := { dst := some 49, op := Op.call { callee := Callee.value (Operand.func 25), args := #[Operand.tmp 47, Operand.tmp 48], argTypes := #[27, 22] }, type := 3, pos := "law.go:103", after := #[{ on := 7, ground := Ground.data }, { on := 8, ground := Ground.data }, { on := 6, ground := Ground.chain }], guard := none }) rfl (fun Kz hK => ?_) EachU.nil
          go_simp
          go_at_call 25
          refine (pick_any (lim 1024) _ _ 0 4 4 (by omega) (by omega) _ HD.out.s.t.tp (HD.out.m (1024, _, 4) (by simp))).mono ?_
          rintro e w5 ⟨x2, rfl, hx2, hs⟩
          unfold lim at hx2
          have HDn := Lib.hid (HD.out.tape hs)
          clear hs
          clear HD
          have HD := HDn
          clear HDn
          refine hK.out _ _ (fun _ => Lib.hid HD.out.s.sb) (fun hH2 => ?_)
          clear hK Kz hHeld
          have hHeld := hH2 rfl
          clear hH2
          (try simp only [Act.put, List.setIfInBounds_toArray, List.set_cons_zero, List.set_cons_succ])
          refine anyU_ready (rs := [10]) (by kernel_rfl) (by simp) ?_
          refine EachU.cons (o := { dst := some 50, op := Op.call { callee := Callee.value (Operand.func 24), args := #[Operand.tmp 46, Operand.tmp 49, Operand.const (Value.int IntKind.i64 10)], argTypes := #[47, 3, 3] }, type := 47, pos := "law.go:103", after := #[{ on := 6, ground := Ground.data }, { on := 9, ground := Ground.data }, { on := 9, ground := Ground.chain }], guard := none }) rfl (fun Kz hK => ?_) EachU.nil
          go_simp
          obtain ⟨B2, hB2⟩ : ∃ X, X = B1 ++ nb x2.toNat 10 := ⟨_, rfl⟩
          have hl2 : B2.length ≤ B1.length + 10 := by rw [hB2, List.length_append, nb_len]; omega
          have HB2 := Lib.hid hB2
          clear hB2
          go_at_call 24
          refine (lput_next w.heap.size x2 10 HB2.out (by omega) (by omega) (by decide) (by decide) (by omega) HD.out.s.lt (HD.out.r (B1, p1, c1) (by simp))).mono ?_
          rintro e w5 ⟨p2, c2, rfl, hR, hg⟩
          have HDn := Lib.hid ((HD.out.keep hg).addr hR)
          clear hR hg
          clear HD
          have HD := HDn
          clear HDn
          refine hK.out _ _ (fun _ => Lib.hid HD.out.s.sb) (fun hH2 => ?_)
          clear hK Kz hHeld
          have hHeld := hH2 rfl
          clear hH2
          (try simp only [Act.put, List.setIfInBounds_toArray, List.set_cons_zero, List.set_cons_succ])
          refine anyU_ready (rs := [13]) (by kernel_rfl) (by simp) ?_
          refine EachU.cons (o := { dst := some 53, op := Op.call { callee := Callee.value (Operand.func 25), args := #[Operand.tmp 51, Operand.tmp 52], argTypes := #[27, 22] }, type := 3, pos := "law.go:103", after := #[{ on := 11, ground := Ground.data }, { on := 12, ground := Ground.data }, { on := 10, ground := Ground.chain }], guard := none }) rfl (fun Kz hK => ?_) EachU.nil
          go_simp
          go_at_call 25
          refine (pick_any (lim 1024) _ _ 0 3 3 (by omega) (by omega) _ HD.out.s.t.tp (HD.out.m (1024, _, 3) (by simp))).mono ?_
          rintro e w5 ⟨x3, rfl, hx3, hs⟩
          unfold lim at hx3
          have HDn := Lib.hid (HD.out.tape hs)
          clear hs
          clear HD
          have HD := HDn
          clear HDn
          refine hK.out _ _ (fun _ => Lib.hid HD.out.s.sb) (fun hH2 => ?_)
          clear hK Kz hHeld
          have hHeld := hH2 rfl
          clear hH2
          (try simp only [Act.put, List.setIfInBounds_toArray, List.set_cons_zero, List.set_cons_succ])
          refine anyU_ready (rs := [14]) (by kernel_rfl) (by simp) ?_
          refine EachU.cons (o := { dst := some 54, op := Op.call { callee := Callee.value (Operand.func 24), args := #[Operand.tmp 50, Operand.tmp 53, Operand.const (Value.int IntKind.i64 10)], argTypes := #[47, 3, 3] }, type := 47, pos := "law.go:103", after := #[{ on := 10, ground := Ground.data }, { on := 13, ground := Ground.data }, { on := 13, ground := Ground.chain }], guard := none }) rfl (fun Kz hK => ?_) EachU.nil
          go_simp
          obtain ⟨B3, hB3⟩ : ∃ X, X = B2 ++ nb x3.toNat 10 := ⟨_, rfl⟩
          have hl3 : B3.length ≤ B2.length + 10 := by rw [hB3, List.length_append, nb_len]; omega
          have HB3 := Lib.hid hB3
          clear hB3
          go_at_call 24
          refine (lput_next w.heap.size x3 10 HB3.out (by omega) (by omega) (by decide) (by decide) (by omega) HD.out.s.lt (HD.out.r (B2, p2, c2) (by simp))).mono ?_
          rintro e w5 ⟨p3, c3, rfl, hR, hg⟩
          have HDn := Lib.hid ((HD.out.keep hg).addr hR)
          clear hR hg
          clear HD
          have HD := HDn
          clear HDn
          refine hK.out _ _ (fun _ => Lib.hid HD.out.s.sb) (fun hH2 => ?_)
          clear hK Kz hHeld
          have hHeld := hH2 rfl
          clear hH2
          (try simp only [Act.put, List.setIfInBounds_toArray, List.set_cons_zero, List.set_cons_succ])
        rotate_left 1
        focus
          go_simp
          have HDn := Lib.hid (HD.out.ints 1024 [0, 1000, 1001] #[.int .i64 (0), .int .i64 (1000), .int .i64 (1001)] (by intro x hx; simp at hx; unfold lim; omega) rfl)
          clear HD
          have HD := HDn
          clear HDn
          refine hK.out _ _ (fun _ => Lib.hid HD.out.s.sb) (fun hH2 => ?_)
          clear hK Kz hHeld
          have hHeld := hH2 rfl
          clear hH2
          (try simp only [Act.put, List.setIfInBounds_toArray, List.set_cons_zero, List.set_cons_succ])
          refine anyU_ready (rs := [4]) (by kernel_rfl) (by simp) ?_
          refine EachU.cons (o := { dst := some 44, op := Op.buildSlice 22 5 #[(0, Operand.tmp 43), (1, Operand.const (Value.int IntKind.i64 3)), (2, Operand.const (Value.int IntKind.i64 0)), (3, Operand.const (Value.int IntKind.i64 1)), (4, Operand.const (Value.int IntKind.i64 100))], type := 22, pos := "law.go:103", after := #[{ on := 3, ground := Ground.data }], guard := none }) rfl (fun Kz hK => ?_) EachU.nil
          go_simp
          have HDn := Lib.hid (HD.out.ints 128 [3 + (k : Int), 3, 0, 1, 100] #[.int .i64 (3 + (k : Int)), .int .i64 (3), .int .i64 (0), .int .i64 (1), .int .i64 (100)] (by intro x hx; simp at hx; unfold lim; omega) rfl)
          clear HD
          have HD := HDn
          clear HDn
          refine hK.out _ _ (fun _ => Lib.hid HD.out.s.sb) (fun hH2 => ?_)
          clear hK Kz hHeld
          have hHeld := hH2 rfl
          clear hH2
          (try simp only [Act.put, List.setIfInBounds_toArray, List.set_cons_zero, List.set_cons_succ])
          refine anyU_ready (rs := [5]) (by kernel_rfl) (by simp) ?_
          refine EachU.cons (o := { dst := some 45, op := Op.call { callee := Callee.value (Operand.func 25), args := #[Operand.tmp 41, Operand.tmp 44], argTypes := #[27, 22] }, type := 3, pos := "law.go:103", after := #[{ on := 1, ground := Ground.data }, { on := 4, ground := Ground.data }], guard := none }) rfl (fun Kz hK => ?_) EachU.nil
          go_simp
          go_at_call 25
          refine (pick_any (lim 128) _ _ 0 5 5 (by omega) (by omega) _ HD.out.s.t.tp (HD.out.m (128, _, 5) (by simp))).mono ?_
          rintro e w5 ⟨x1, rfl, hx1, hs⟩
          unfold lim at hx1
          have HDn := Lib.hid (HD.out.tape hs)
          clear hs
          clear HD
          have HD := HDn
          clear HDn
          refine hK.out _ _ (fun _ => Lib.hid HD.out.s.sb) (fun hH2 => ?_)
          clear hK Kz hHeld
          have hHeld := hH2 rfl
          clear hH2
          (try simp only [Act.put, List.setIfInBounds_toArray, List.set_cons_zero, List.set_cons_succ])
          refine anyU_ready (rs := [6]) (by kernel_rfl) (by simp) ?_
          refine EachU.cons (o := { dst := some 46, op := Op.call { callee := Callee.value (Operand.func 24), args := #[Operand.tmp 40, Operand.tmp 45, Operand.const (Value.int IntKind.i64 7)], argTypes := #[47, 3, 3] }, type := 47, pos := "law.go:103", after := #[{ on := 0, ground := Ground.data }, { on := 5, ground := Ground.data }, { on := 5, ground := Ground.chain }], guard := none }) rfl (fun Kz hK => ?_) EachU.nil
          go_simp
          obtain ⟨B1, hB1⟩ : ∃ X, X = B ++ nb x1.toNat 7 := ⟨_, rfl⟩
          have hl1 : B1.length ≤ B.length + 7 := by rw [hB1, List.length_append, nb_len]; omega
          have HB1 := Lib.hid hB1
          clear hB1
          go_at_call 24
          refine (lput_next w.heap.size x1 7 HB1.out (by omega) (by omega) (by decide) (by decide) (by omega) HD.out.s.lt (HD.out.s.br)).mono ?_
          rintro e w5 ⟨p1, c1, rfl, hR, hg⟩
          have HDn := Lib.hid ((HD.out.keep hg).addr hR)
          clear hR hg
          clear HD
          have HD := HDn
          clear HDn
          refine hK.out _ _ (fun _ => Lib.hid HD.out.s.sb) (fun hH2 => ?_)
          clear hK Kz hHeld
          have hHeld := hH2 rfl
          clear hH2
          (try simp only [Act.put, List.setIfInBounds_toArray, List.set_cons_zero, List.set_cons_succ])
          refine anyU_ready (rs := [9]) (by kernel_rfl) (by simp) ?_
          refine EachU.cons (o := { dst := some 49, op := Op.call { callee := Callee.value (Operand.func 25), args := #[Operand.tmp 47, Operand.tmp 48], argTypes := #[27, 22] }, type := 3, pos := "law.go:103", after := #[{ on := 7, ground := Ground.data }, { on := 8, ground := Ground.data }, { on := 6, ground := Ground.chain }], guard := none }) rfl (fun Kz hK => ?_) EachU.nil
          go_simp
          go_at_call 25
          refine (pick_any (lim 1024) _ _ 0 4 4 (by omega) (by omega) _ HD.out.s.t.tp (HD.out.m (1024, _, 4) (by simp))).mono ?_
          rintro e w5 ⟨x2, rfl, hx2, hs⟩
          unfold lim at hx2
          have HDn := Lib.hid (HD.out.tape hs)
          clear hs
          clear HD
          have HD := HDn
          clear HDn
          refine hK.out _ _ (fun _ => Lib.hid HD.out.s.sb) (fun hH2 => ?_)
          clear hK Kz hHeld
          have hHeld := hH2 rfl
          clear hH2
          (try simp only [Act.put, List.setIfInBounds_toArray, List.set_cons_zero, List.set_cons_succ])
          refine anyU_ready (rs := [10]) (by kernel_rfl) (by simp) ?_
          refine EachU.cons (o := { dst := some 50, op := Op.call { callee := Callee.value (Operand.func 24), args := #[Operand.tmp 46, Operand.tmp 49, Operand.const (Value.int IntKind.i64 10)], argTypes := #[47, 3, 3] }, type := 47, pos := "law.go:103", after := #[{ on := 6, ground := Ground.data }, { on := 9, ground := Ground.data }, { on := 9, ground := Ground.chain }], guard := none }) rfl (fun Kz hK => ?_) EachU.nil
          go_simp
          obtain ⟨B2, hB2⟩ : ∃ X, X = B1 ++ nb x2.toNat 10 := ⟨_, rfl⟩
          have hl2 : B2.length ≤ B1.length + 10 := by rw [hB2, List.length_append, nb_len]; omega
          have HB2 := Lib.hid hB2
          clear hB2
          go_at_call 24
          refine (lput_next w.heap.size x2 10 HB2.out (by omega) (by omega) (by decide) (by decide) (by omega) HD.out.s.lt (HD.out.r (B1, p1, c1) (by simp))).mono ?_
          rintro e w5 ⟨p2, c2, rfl, hR, hg⟩
          have HDn := Lib.hid ((HD.out.keep hg).addr hR)
          clear hR hg
          clear HD
          have HD := HDn
          clear HDn
          refine hK.out _ _ (fun _ => Lib.hid HD.out.s.sb) (fun hH2 => ?_)
          clear hK Kz hHeld
          have hHeld := hH2 rfl
          clear hH2
          (try simp only [Act.put, List.setIfInBounds_toArray, List.set_cons_zero, List.set_cons_succ])
          refine anyU_ready (rs := [13]) (by kernel_rfl) (by simp) ?_
          refine EachU.cons (o := { dst := some 53, op := Op.call { callee := Callee.value (Operand.func 25), args := #[Operand.tmp 51, Operand.tmp 52], argTypes := #[27, 22] }, type := 3, pos := "law.go:103", after := #[{ on := 11, ground := Ground.data }, { on := 12, ground := Ground.data }, { on := 10, ground := Ground.chain }], guard := none }) rfl (fun Kz hK => ?_) EachU.nil
          go_simp
          go_at_call 25
          refine (pick_any (lim 1024) _ _ 0 3 3 (by omega) (by omega) _ HD.out.s.t.tp (HD.out.m (1024, _, 3) (by simp))).mono ?_
          rintro e w5 ⟨x3, rfl, hx3, hs⟩
          unfold lim at hx3
          have HDn := Lib.hid (HD.out.tape hs)
          clear hs
          clear HD
          have HD := HDn
          clear HDn
          refine hK.out _ _ (fun _ => Lib.hid HD.out.s.sb) (fun hH2 => ?_)
          clear hK Kz hHeld
          have hHeld := hH2 rfl
          clear hH2
          (try simp only [Act.put, List.setIfInBounds_toArray, List.set_cons_zero, List.set_cons_succ])
          refine anyU_ready (rs := [14]) (by kernel_rfl) (by simp) ?_
          refine EachU.cons (o := { dst := some 54, op := Op.call { callee := Callee.value (Operand.func 24), args := #[Operand.tmp 50, Operand.tmp 53, Operand.const (Value.int IntKind.i64 10)], argTypes := #[47, 3, 3] }, type := 47, pos := "law.go:103", after := #[{ on := 10, ground := Ground.data }, { on := 13, ground := Ground.data }, { on := 13, ground := Ground.chain }], guard := none }) rfl (fun Kz hK => ?_) EachU.nil
          go_simp
          obtain ⟨B3, hB3⟩ : ∃ X, X = B2 ++ nb x3.toNat 10 := ⟨_, rfl⟩
          have hl3 : B3.length ≤ B2.length + 10 := by rw [hB3, List.length_append, nb_len]; omega
          have HB3 := Lib.hid hB3
          clear hB3
          go_at_call 24
          refine (lput_next w.heap.size x3 10 HB3.out (by omega) (by omega) (by decide) (by decide) (by omega) HD.out.s.lt (HD.out.r (B2, p2, c2) (by simp))).mono ?_
          rintro e w5 ⟨p3, c3, rfl, hR, hg⟩
          have HDn := Lib.hid ((HD.out.keep hg).addr hR)
          clear hR hg
          clear HD
          have HD := HDn
          clear HDn
          refine hK.out _ _ (fun _ => Lib.hid HD.out.s.sb) (fun hH2 => ?_)
          clear hK Kz hHeld
          have hHeld := hH2 rfl
          clear hH2
          (try simp only [Act.put, List.setIfInBounds_toArray, List.set_cons_zero, List.set_cons_succ])
        rotate_left 1
        focus
          go_simp
          have HDn := Lib.hid (HD.out.ints 1024 [0, 1000, 1001] #[.int .i64 (0), .int .i64 (1000), .int .i64 (1001)] (by intro x hx; simp at hx; unfold lim; omega) rfl)
          clear HD
          have HD := HDn
          clear HDn
          refine hK.out _ _ (fun _ => Lib.hid HD.out.s.sb) (fun hH2 => ?_)
          clear hK Kz hHeld
          have hHeld := hH2 rfl
          clear hH2
          (try simp only [Act.put, List.setIfInBounds_toArray, List.set_cons_zero, List.set_cons_succ])
          refine anyU_ready (rs := [4, 8]) (by kernel_rfl) (by simp) ?_
          refine EachU.cons (o := { dst := some 44, op := Op.buildSlice 22 5 #[(0, Operand.tmp 43), (1, Operand.const (Value.int IntKind.i64 3)), (2, Operand.const (Value.int IntKind.i64 0)), (3, Operand.const (Value.int IntKind.i64 1)), (4, Operand.const (Value.int IntKind.i64 100))], type := 22, pos := "law.go:103", after := #[{ on := 3, ground := Ground.data }], guard := none }) rfl (fun Kz hK => ?_) (EachU.cons (o := { dst := some 48, op := Op.buildSlice 22 4 #[(0, Operand.const (Value.int IntKind.i64 1)), (1, Operand.const (Value.int IntKind.i64 0)), (2, Operand.const (Value.int IntKind.i64 1000)), (3, Operand.const (Value.int IntKind.i64 1001))], type := 22, pos := "law.go:103", after := #[], guard := none }) rfl (fun Kz hK => ?_) EachU.nil)
        focus
          go_simp
          have HDn := Lib.hid (HD.out.ints 128 [3 + (k : Int), 3, 0, 1, 100] #[.int .i64 (3 + (k : Int)), .int .i64 (3), .int .i64 (0), .int .i64 (1), .int .i64 (100)] (by intro x hx; simp at hx; unfold lim; omega) rfl)
          clear HD
          have HD := HDn
          clear HDn
          refine hK.out _ _ (fun _ => Lib.hid HD.out.s.sb) (fun hH2 => ?_)
          clear hK Kz hHeld
          have hHeld := hH2 rfl
          clear hH2
          (try simp only [Act.put, List.setIfInBounds_toArray, List.set_cons_zero, List.set_cons_succ])
          refine anyU_ready (rs := [5, 8]) (by kernel_rfl) (by simp) ?_
          refine EachU.cons (o := { dst := some 45, op := Op.call { callee := Callee.value (Operand.func 25), args := #[Operand.tmp 41, Operand.tmp 44], argTypes := #[27, 22] }, type := 3, pos := "law.go:103", after := #[{ on := 1, ground := Ground.data }, { on := 4, ground := Ground.data }], guard := none }) rfl (fun Kz hK => ?_) (EachU.cons (o := { dst := some 48, op := Op.buildSlice 22 4 #[(0, Operand.const (Value.int IntKind.i64 1)), (1, Operand.const (Value.int IntKind.i64 0)), (2, Operand.const (Value.int IntKind.i64 1000)), (3, Operand.const (Value.int IntKind.i64 1001))], type := 22, pos := "law.go:103", after := #[], guard := none }) rfl (fun Kz hK => ?_) EachU.nil)
        focus
          go_simp
          go_at_call 25
          refine (pick_any (lim 128) _ _ 0 5 5 (by omega) (by omega) _ HD.out.s.t.tp (HD.out.m (128, _, 5) (by simp))).mono ?_
          rintro e w5 ⟨x1, rfl, hx1, hs⟩
          unfold lim at hx1
          have HDn := Lib.hid (HD.out.tape hs)
          clear hs
          clear HD
          have HD := HDn
          clear HDn
          refine hK.out _ _ (fun _ => Lib.hid HD.out.s.sb) (fun hH2 => ?_)
          clear hK Kz hHeld
          have hHeld := hH2 rfl
          clear hH2
          (try simp only [Act.put, List.setIfInBounds_toArray, List.set_cons_zero, List.set_cons_succ])
          refine anyU_ready (rs := [6, 8]) (by kernel_rfl) (by simp) ?_
          refine EachU.cons (o := { dst := some 46, op := Op.call { callee := Callee.value (Operand.func 24), args := #[Operand.tmp 40, Operand.tmp 45, Operand.const (Value.int IntKind.i64 7)], argTypes := #[47, 3, 3] }, type := 47, pos := "law.go:103", after := #[{ on := 0, ground := Ground.data }, { on := 5, ground := Ground.data }, { on := 5, ground := Ground.chain }], guard := none }) rfl (fun Kz hK => ?_) (EachU.cons (o := { dst := some 48, op := Op.buildSlice 22 4 #[(0, Operand.const (Value.int IntKind.i64 1)), (1, Operand.const (Value.int IntKind.i64 0)), (2, Operand.const (Value.int IntKind.i64 1000)), (3, Operand.const (Value.int IntKind.i64 1001))], type := 22, pos := "law.go:103", after := #[], guard := none }) rfl (fun Kz hK => ?_) EachU.nil)
        focus
          go_simp
          obtain ⟨B1, hB1⟩ : ∃ X, X = B ++ nb x1.toNat 7 := ⟨_, rfl⟩
          have hl1 : B1.length ≤ B.length + 7 := by rw [hB1, List.length_append, nb_len]; omega
          have HB1 := Lib.hid hB1
          clear hB1
          go_at_call 24
          refine (lput_next w.heap.size x1 7 HB1.out (by omega) (by omega) (by decide) (by decide) (by omega) HD.out.s.lt (HD.out.s.br)).mono ?_
          rintro e w5 ⟨p1, c1, rfl, hR, hg⟩
          have HDn := Lib.hid ((HD.out.keep hg).addr hR)
          clear hR hg
          clear HD
          have HD := HDn
          clear HDn
          refine hK.out _ _ (fun _ => Lib.hid HD.out.s.sb) (fun hH2 => ?_)
          clear hK Kz hHeld
          have hHeld := hH2 rfl
          clear hH2
          (try simp only [Act.put, List.setIfInBounds_toArray, List.set_cons_zero, List.set_cons_succ])
          refine anyU_ready (rs := [8]) (by kernel_rfl) (by simp) ?_
          refine EachU.cons (o := { dst := some 48, op := Op.buildSlice 22 4 #[(0, Operand.const (Value.int IntKind.i64 1)), (1, Operand.const (Value.int IntKind.i64 0)), (2, Operand.const (Value.int IntKind.i64 1000)), (3, Operand.const (Value.int IntKind.i64 1001))], type := 22, pos := "law.go:103", after := #[], guard := none }) rfl (fun Kz hK => ?_) EachU.nil
          go_simp
          have HDn := Lib.hid (HD.out.ints 1024 [1, 0, 1000, 1001] #[.int .i64 (1), .int .i64 (0), .int .i64 (1000), .int .i64 (1001)] (by intro x hx; simp at hx; unfold lim; omega) rfl)
          clear HD
          have HD := HDn
          clear HDn
          refine hK.out _ _ (fun _ => Lib.hid HD.out.s.sb) (fun hH2 => ?_)
          clear hK Kz hHeld
          have hHeld := hH2 rfl
          clear hH2
          (try simp only [Act.put, List.setIfInBounds_toArray, List.set_cons_zero, List.set_cons_succ])
          refine anyU_ready (rs := [9]) (by kernel_rfl) (by simp) ?_
          refine EachU.cons (o := { dst := some 49, op := Op.call { callee := Callee.value (Operand.func 25), args := #[Operand.tmp 47, Operand.tmp 48], argTypes := #[27, 22] }, type := 3, pos := "law.go:103", after := #[{ on := 7, ground := Ground.data }, { on := 8, ground := Ground.data }, { on := 6, ground := Ground.chain }], guard := none }) rfl (fun Kz hK => ?_) EachU.nil
          go_simp
          go_at_call 25
          refine (pick_any (lim 1024) _ _ 0 4 4 (by omega) (by omega) _ HD.out.s.t.tp (HD.out.m (1024, _, 4) (by simp))).mono ?_
          rintro e w5 ⟨x2, rfl, hx2, hs⟩
          unfold lim at hx2
          have HDn := Lib.hid (HD.out.tape hs)
          clear hs
          clear HD
          have HD := HDn
          clear HDn
          refine hK.out _ _ (fun _ => Lib.hid HD.out.s.sb) (fun hH2 => ?_)
          clear hK Kz hHeld
          have hHeld := hH2 rfl
          clear hH2
          (try simp only [Act.put, List.setIfInBounds_toArray, List.set_cons_zero, List.set_cons_succ])
          refine anyU_ready (rs := [10]) (by kernel_rfl) (by simp) ?_
          refine EachU.cons (o := { dst := some 50, op := Op.call { callee := Callee.value (Operand.func 24), args := #[Operand.tmp 46, Operand.tmp 49, Operand.const (Value.int IntKind.i64 10)], argTypes := #[47, 3, 3] }, type := 47, pos := "law.go:103", after := #[{ on := 6, ground := Ground.data }, { on := 9, ground := Ground.data }, { on := 9, ground := Ground.chain }], guard := none }) rfl (fun Kz hK => ?_) EachU.nil
          go_simp
          obtain ⟨B2, hB2⟩ : ∃ X, X = B1 ++ nb x2.toNat 10 := ⟨_, rfl⟩
          have hl2 : B2.length ≤ B1.length + 10 := by rw [hB2, List.length_append, nb_len]; omega
          have HB2 := Lib.hid hB2
          clear hB2
          go_at_call 24
          refine (lput_next w.heap.size x2 10 HB2.out (by omega) (by omega) (by decide) (by decide) (by omega) HD.out.s.lt (HD.out.r (B1, p1, c1) (by simp))).mono ?_
          rintro e w5 ⟨p2, c2, rfl, hR, hg⟩
          have HDn := Lib.hid ((HD.out.keep hg).addr hR)
          clear hR hg
          clear HD
          have HD := HDn
          clear HDn
          refine hK.out _ _ (fun _ => Lib.hid HD.out.s.sb) (fun hH2 => ?_)
          clear hK Kz hHeld
          have hHeld := hH2 rfl
          clear hH2
          (try simp only [Act.put, List.setIfInBounds_toArray, List.set_cons_zero, List.set_cons_succ])
          refine anyU_ready (rs := [13]) (by kernel_rfl) (by simp) ?_
          refine EachU.cons (o := { dst := some 53, op := Op.call { callee := Callee.value (Operand.func 25), args := #[Operand.tmp 51, Operand.tmp 52], argTypes := #[27, 22] }, type := 3, pos := "law.go:103", after := #[{ on := 11, ground := Ground.data }, { on := 12, ground := Ground.data }, { on := 10, ground := Ground.chain }], guard := none }) rfl (fun Kz hK => ?_) EachU.nil
          go_simp
          go_at_call 25
          refine (pick_any (lim 1024) _ _ 0 3 3 (by omega) (by omega) _ HD.out.s.t.tp (HD.out.m (1024, _, 3) (by simp))).mono ?_
          rintro e w5 ⟨x3, rfl, hx3, hs⟩
          unfold lim at hx3
          have HDn := Lib.hid (HD.out.tape hs)
          clear hs
          clear HD
          have HD := HDn
          clear HDn
          refine hK.out _ _ (fun _ => Lib.hid HD.out.s.sb) (fun hH2 => ?_)
          clear hK Kz hHeld
          have hHeld := hH2 rfl
          clear hH2
          (try simp only [Act.put, List.setIfInBounds_toArray, List.set_cons_zero, List.set_cons_succ])
          refine anyU_ready (rs := [14]) (by kernel_rfl) (by simp) ?_
          refine EachU.cons (o := { dst := some 54, op := Op.call { callee := Callee.value (Operand.func 24), args := #[Operand.tmp 50, Operand.tmp 53, Operand.const (Value.int IntKind.i64 10)], argTypes := #[47, 3, 3] }, type := 47, pos := "law.go:103", after := #[{ on := 10, ground := Ground.data }, { on := 13, ground := Ground.data }, { on := 13, ground := Ground.chain }], guard := none }) rfl (fun Kz hK => ?_) EachU.nil
          go_simp
          obtain ⟨B3, hB3⟩ : ∃ X, X = B2 ++ nb x3.toNat 10 := ⟨_, rfl⟩
          have hl3 : B3.length ≤ B2.length + 10 := by rw [hB3, List.length_append, nb_len]; omega
          have HB3 := Lib.hid hB3
          clear hB3
          go_at_call 24
          refine (lput_next w.heap.size x3 10 HB3.out (by omega) (by omega) (by decide) (by decide) (by omega) HD.out.s.lt (HD.out.r (B2, p2, c2) (by simp))).mono ?_
          rintro e w5 ⟨p3, c3, rfl, hR, hg⟩
          have HDn := Lib.hid ((HD.out.keep hg).addr hR)
          clear hR hg
          clear HD
          have HD := HDn
          clear HDn
          refine hK.out _ _ (fun _ => Lib.hid HD.out.s.sb) (fun hH2 => ?_)
          clear hK Kz hHeld
          have hHeld := hH2 rfl
          clear hH2
          (try simp only [Act.put, List.setIfInBounds_toArray, List.set_cons_zero, List.set_cons_succ])
        rotate_left 1
        focus
          go_simp
          have HDn := Lib.hid (HD.out.ints 1024 [1, 0, 1000, 1001] #[.int .i64 (1), .int .i64 (0), .int .i64 (1000), .int .i64 (1001)] (by intro x hx; simp at hx; unfold lim; omega) rfl)
          clear HD
          have HD := HDn
          clear HDn
          refine hK.out _ _ (fun _ => Lib.hid HD.out.s.sb) (fun hH2 => ?_)
          clear hK Kz hHeld
          have hHeld := hH2 rfl
          clear hH2
          (try simp only [Act.put, List.setIfInBounds_toArray, List.set_cons_zero, List.set_cons_succ])
          refine anyU_ready (rs := [6]) (by kernel_rfl) (by simp) ?_
          refine EachU.cons (o := { dst := some 46, op := Op.call { callee := Callee.value (Operand.func 24), args := #[Operand.tmp 40, Operand.tmp 45, Operand.const (Value.int IntKind.i64 7)], argTypes := #[47, 3, 3] }, type := 47, pos := "law.go:103", after := #[{ on := 0, ground := Ground.data }, { on := 5, ground := Ground.data }, { on := 5, ground := Ground.chain }], guard := none }) rfl (fun Kz hK => ?_) EachU.nil
          go_simp
          obtain ⟨B1, hB1⟩ : ∃ X, X = B ++ nb x1.toNat 7 := ⟨_, rfl⟩
          have hl1 : B1.length ≤ B.length + 7 := by rw [hB1, List.length_append, nb_len]; omega
          have HB1 := Lib.hid hB1
          clear hB1
          go_at_call 24
          refine (lput_next w.heap.size x1 7 HB1.out (by omega) (by omega) (by decide) (by decide) (by omega) HD.out.s.lt (HD.out.s.br)).mono ?_
          rintro e w5 ⟨p1, c1, rfl, hR, hg⟩
          have HDn := Lib.hid ((HD.out.keep hg).addr hR)
          clear hR hg
          clear HD
          have HD := HDn
          clear HDn
          refine hK.out _ _ (fun _ => Lib.hid HD.out.s.sb) (fun hH2 => ?_)
          clear hK Kz hHeld
          have hHeld := hH2 rfl
          clear hH2
          (try simp only [Act.put, List.setIfInBounds_toArray, List.set_cons_zero, List.set_cons_succ])
          refine anyU_ready (rs := [9]) (by kernel_rfl) (by simp) ?_
          refine EachU.cons (o := { dst := some 49, op := Op.call { callee := Callee.value (Operand.func 25), args := #[Operand.tmp 47, Operand.tmp 48], argTypes := #[27, 22] }, type := 3, pos := "law.go:103", after := #[{ on := 7, ground := Ground.data }, { on := 8, ground := Ground.data }, { on := 6, ground := Ground.chain }], guard := none }) rfl (fun Kz hK => ?_) EachU.nil
          go_simp
          go_at_call 25
          refine (pick_any (lim 1024) _ _ 0 4 4 (by omega) (by omega) _ HD.out.s.t.tp (HD.out.m (1024, _, 4) (by simp))).mono ?_
          rintro e w5 ⟨x2, rfl, hx2, hs⟩
          unfold lim at hx2
          have HDn := Lib.hid (HD.out.tape hs)
          clear hs
          clear HD
          have HD := HDn
          clear HDn
          refine hK.out _ _ (fun _ => Lib.hid HD.out.s.sb) (fun hH2 => ?_)
          clear hK Kz hHeld
          have hHeld := hH2 rfl
          clear hH2
          (try simp only [Act.put, List.setIfInBounds_toArray, List.set_cons_zero, List.set_cons_succ])
          refine anyU_ready (rs := [10]) (by kernel_rfl) (by simp) ?_
          refine EachU.cons (o := { dst := some 50, op := Op.call { callee := Callee.value (Operand.func 24), args := #[Operand.tmp 46, Operand.tmp 49, Operand.const (Value.int IntKind.i64 10)], argTypes := #[47, 3, 3] }, type := 47, pos := "law.go:103", after := #[{ on := 6, ground := Ground.data }, { on := 9, ground := Ground.data }, { on := 9, ground := Ground.chain }], guard := none }) rfl (fun Kz hK => ?_) EachU.nil
          go_simp
          obtain ⟨B2, hB2⟩ : ∃ X, X = B1 ++ nb x2.toNat 10 := ⟨_, rfl⟩
          have hl2 : B2.length ≤ B1.length + 10 := by rw [hB2, List.length_append, nb_len]; omega
          have HB2 := Lib.hid hB2
          clear hB2
          go_at_call 24
          refine (lput_next w.heap.size x2 10 HB2.out (by omega) (by omega) (by decide) (by decide) (by omega) HD.out.s.lt (HD.out.r (B1, p1, c1) (by simp))).mono ?_
          rintro e w5 ⟨p2, c2, rfl, hR, hg⟩
          have HDn := Lib.hid ((HD.out.keep hg).addr hR)
          clear hR hg
          clear HD
          have HD := HDn
          clear HDn
          refine hK.out _ _ (fun _ => Lib.hid HD.out.s.sb) (fun hH2 => ?_)
          clear hK Kz hHeld
          have hHeld := hH2 rfl
          clear hH2
          (try simp only [Act.put, List.setIfInBounds_toArray, List.set_cons_zero, List.set_cons_succ])
          refine anyU_ready (rs := [13]) (by kernel_rfl) (by simp) ?_
          refine EachU.cons (o := { dst := some 53, op := Op.call { callee := Callee.value (Operand.func 25), args := #[Operand.tmp 51, Operand.tmp 52], argTypes := #[27, 22] }, type := 3, pos := "law.go:103", after := #[{ on := 11, ground := Ground.data }, { on := 12, ground := Ground.data }, { on := 10, ground := Ground.chain }], guard := none }) rfl (fun Kz hK => ?_) EachU.nil
          go_simp
          go_at_call 25
          refine (pick_any (lim 1024) _ _ 0 3 3 (by omega) (by omega) _ HD.out.s.t.tp (HD.out.m (1024, _, 3) (by simp))).mono ?_
          rintro e w5 ⟨x3, rfl, hx3, hs⟩
          unfold lim at hx3
          have HDn := Lib.hid (HD.out.tape hs)
          clear hs
          clear HD
          have HD := HDn
          clear HDn
          refine hK.out _ _ (fun _ => Lib.hid HD.out.s.sb) (fun hH2 => ?_)
          clear hK Kz hHeld
          have hHeld := hH2 rfl
          clear hH2
          (try simp only [Act.put, List.setIfInBounds_toArray, List.set_cons_zero, List.set_cons_succ])
          refine anyU_ready (rs := [14]) (by kernel_rfl) (by simp) ?_
          refine EachU.cons (o := { dst := some 54, op := Op.call { callee := Callee.value (Operand.func 24), args := #[Operand.tmp 50, Operand.tmp 53, Operand.const (Value.int IntKind.i64 10)], argTypes := #[47, 3, 3] }, type := 47, pos := "law.go:103", after := #[{ on := 10, ground := Ground.data }, { on := 13, ground := Ground.data }, { on := 13, ground := Ground.chain }], guard := none }) rfl (fun Kz hK => ?_) EachU.nil
          go_simp
          obtain ⟨B3, hB3⟩ : ∃ X, X = B2 ++ nb x3.toNat 10 := ⟨_, rfl⟩
          have hl3 : B3.length ≤ B2.length + 10 := by rw [hB3, List.length_append, nb_len]; omega
          have HB3 := Lib.hid hB3
          clear hB3
          go_at_call 24
          refine (lput_next w.heap.size x3 10 HB3.out (by omega) (by omega) (by decide) (by decide) (by omega) HD.out.s.lt (HD.out.r (B2, p2, c2) (by simp))).mono ?_
          rintro e w5 ⟨p3, c3, rfl, hR, hg⟩
          have HDn := Lib.hid ((HD.out.keep hg).addr hR)
          clear hR hg
          clear HD
          have HD := HDn
          clear HDn
          refine hK.out _ _ (fun _ => Lib.hid HD.out.s.sb) (fun hH2 => ?_)
          clear hK Kz hHeld
          have hHeld := hH2 rfl
          clear hH2
          (try simp only [Act.put, List.setIfInBounds_toArray, List.set_cons_zero, List.set_cons_succ])
        rotate_left 1
        focus
          go_simp
          have HDn := Lib.hid (HD.out.ints 1024 [1, 0, 1000, 1001] #[.int .i64 (1), .int .i64 (0), .int .i64 (1000), .int .i64 (1001)] (by intro x hx; simp at hx; unfold lim; omega) rfl)
          clear HD
          have HD := HDn
          clear HDn
          refine hK.out _ _ (fun _ => Lib.hid HD.out.s.sb) (fun hH2 => ?_)
          clear hK Kz hHeld
          have hHeld := hH2 rfl
          clear hH2
          (try simp only [Act.put, List.setIfInBounds_toArray, List.set_cons_zero, List.set_cons_succ])
          refine anyU_ready (rs := [5]) (by kernel_rfl) (by simp) ?_
          refine EachU.cons (o := { dst := some 45, op := Op.call { callee := Callee.value (Operand.func 25), args := #[Operand.tmp 41, Operand.tmp 44], argTypes := #[27, 22] }, type := 3, pos := "law.go:103", after := #[{ on := 1, ground := Ground.data }, { on := 4, ground := Ground.data }], guard := none }) rfl (fun Kz hK => ?_) EachU.nil
          go_simp
          go_at_call 25
          refine (pick_any (lim 128) _ _ 0 5 5 (by omega) (by omega) _ HD.out.s.t.tp (HD.out.m (128, _, 5) (by simp))).mono ?_
          rintro e w5 ⟨x1, rfl, hx1, hs⟩
          unfold lim at hx1
          have HDn := Lib.hid (HD.out.tape hs)
          clear hs
          clear HD
          have HD := HDn
          clear HDn
          refine hK.out _ _ (fun _ => Lib.hid HD.out.s.sb) (fun hH2 => ?_)
          clear hK Kz hHeld
          have hHeld := hH2 rfl
          clear hH2
          (try simp only [Act.put, List.setIfInBounds_toArray, List.set_cons_zero, List.set_cons_succ])
          refine anyU_ready (rs := [6]) (by kernel_rfl) (by simp) ?_
          refine EachU.cons (o := { dst := some 46, op := Op.call { callee := Callee.value (Operand.func 24), args := #[Operand.tmp 40, Operand.tmp 45, Operand.const (Value.int IntKind.i64 7)], argTypes := #[47, 3, 3] }, type := 47, pos := "law.go:103", after := #[{ on := 0, ground := Ground.data }, { on := 5, ground := Ground.data }, { on := 5, ground := Ground.chain }], guard := none }) rfl (fun Kz hK => ?_) EachU.nil
          go_simp
          obtain ⟨B1, hB1⟩ : ∃ X, X = B ++ nb x1.toNat 7 := ⟨_, rfl⟩
          have hl1 : B1.length ≤ B.length + 7 := by rw [hB1, List.length_append, nb_len]; omega
          have HB1 := Lib.hid hB1
          clear hB1
          go_at_call 24
          refine (lput_next w.heap.size x1 7 HB1.out (by omega) (by omega) (by decide) (by decide) (by omega) HD.out.s.lt (HD.out.s.br)).mono ?_
          rintro e w5 ⟨p1, c1, rfl, hR, hg⟩
          have HDn := Lib.hid ((HD.out.keep hg).addr hR)
          clear hR hg
          clear HD
          have HD := HDn
          clear HDn
          refine hK.out _ _ (fun _ => Lib.hid HD.out.s.sb) (fun hH2 => ?_)
          clear hK Kz hHeld
          have hHeld := hH2 rfl
          clear hH2
          (try simp only [Act.put, List.setIfInBounds_toArray, List.set_cons_zero, List.set_cons_succ])
          refine anyU_ready (rs := [9]) (by kernel_rfl) (by simp) ?_
          refine EachU.cons (o := { dst := some 49, op := Op.call { callee := Callee.value (Operand.func 25), args := #[Operand.tmp 47, Operand.tmp 48], argTypes := #[27, 22] }, type := 3, pos := "law.go:103", after := #[{ on := 7, ground := Ground.data }, { on := 8, ground := Ground.data }, { on := 6, ground := Ground.chain }], guard := none }) rfl (fun Kz hK => ?_) EachU.nil
          go_simp
          go_at_call 25
          refine (pick_any (lim 1024) _ _ 0 4 4 (by omega) (by omega) _ HD.out.s.t.tp (HD.out.m (1024, _, 4) (by simp))).mono ?_
          rintro e w5 ⟨x2, rfl, hx2, hs⟩
          unfold lim at hx2
          have HDn := Lib.hid (HD.out.tape hs)
          clear hs
          clear HD
          have HD := HDn
          clear HDn
          refine hK.out _ _ (fun _ => Lib.hid HD.out.s.sb) (fun hH2 => ?_)
          clear hK Kz hHeld
          have hHeld := hH2 rfl
          clear hH2
          (try simp only [Act.put, List.setIfInBounds_toArray, List.set_cons_zero, List.set_cons_succ])
          refine anyU_ready (rs := [10]) (by kernel_rfl) (by simp) ?_
          refine EachU.cons (o := { dst := some 50, op := Op.call { callee := Callee.value (Operand.func 24), args := #[Operand.tmp 46, Operand.tmp 49, Operand.const (Value.int IntKind.i64 10)], argTypes := #[47, 3, 3] }, type := 47, pos := "law.go:103", after := #[{ on := 6, ground := Ground.data }, { on := 9, ground := Ground.data }, { on := 9, ground := Ground.chain }], guard := none }) rfl (fun Kz hK => ?_) EachU.nil
          go_simp
          obtain ⟨B2, hB2⟩ : ∃ X, X = B1 ++ nb x2.toNat 10 := ⟨_, rfl⟩
          have hl2 : B2.length ≤ B1.length + 10 := by rw [hB2, List.length_append, nb_len]; omega
          have HB2 := Lib.hid hB2
          clear hB2
          go_at_call 24
          refine (lput_next w.heap.size x2 10 HB2.out (by omega) (by omega) (by decide) (by decide) (by omega) HD.out.s.lt (HD.out.r (B1, p1, c1) (by simp))).mono ?_
          rintro e w5 ⟨p2, c2, rfl, hR, hg⟩
          have HDn := Lib.hid ((HD.out.keep hg).addr hR)
          clear hR hg
          clear HD
          have HD := HDn
          clear HDn
          refine hK.out _ _ (fun _ => Lib.hid HD.out.s.sb) (fun hH2 => ?_)
          clear hK Kz hHeld
          have hHeld := hH2 rfl
          clear hH2
          (try simp only [Act.put, List.setIfInBounds_toArray, List.set_cons_zero, List.set_cons_succ])
          refine anyU_ready (rs := [13]) (by kernel_rfl) (by simp) ?_
          refine EachU.cons (o := { dst := some 53, op := Op.call { callee := Callee.value (Operand.func 25), args := #[Operand.tmp 51, Operand.tmp 52], argTypes := #[27, 22] }, type := 3, pos := "law.go:103", after := #[{ on := 11, ground := Ground.data }, { on := 12, ground := Ground.data }, { on := 10, ground := Ground.chain }], guard := none }) rfl (fun Kz hK => ?_) EachU.nil
          go_simp
          go_at_call 25
          refine (pick_any (lim 1024) _ _ 0 3 3 (by omega) (by omega) _ HD.out.s.t.tp (HD.out.m (1024, _, 3) (by simp))).mono ?_
          rintro e w5 ⟨x3, rfl, hx3, hs⟩
          unfold lim at hx3
          have HDn := Lib.hid (HD.out.tape hs)
          clear hs
          clear HD
          have HD := HDn
          clear HDn
          refine hK.out _ _ (fun _ => Lib.hid HD.out.s.sb) (fun hH2 => ?_)
          clear hK Kz hHeld
          have hHeld := hH2 rfl
          clear hH2
          (try simp only [Act.put, List.setIfInBounds_toArray, List.set_cons_zero, List.set_cons_succ])
          refine anyU_ready (rs := [14]) (by kernel_rfl) (by simp) ?_
          refine EachU.cons (o := { dst := some 54, op := Op.call { callee := Callee.value (Operand.func 24), args := #[Operand.tmp 50, Operand.tmp 53, Operand.const (Value.int IntKind.i64 10)], argTypes := #[47, 3, 3] }, type := 47, pos := "law.go:103", after := #[{ on := 10, ground := Ground.data }, { on := 13, ground := Ground.data }, { on := 13, ground := Ground.chain }], guard := none }) rfl (fun Kz hK => ?_) EachU.nil
          go_simp
          obtain ⟨B3, hB3⟩ : ∃ X, X = B2 ++ nb x3.toNat 10 := ⟨_, rfl⟩
          have hl3 : B3.length ≤ B2.length + 10 := by rw [hB3, List.length_append, nb_len]; omega
          have HB3 := Lib.hid hB3
          clear hB3
          go_at_call 24
          refine (lput_next w.heap.size x3 10 HB3.out (by omega) (by omega) (by decide) (by decide) (by omega) HD.out.s.lt (HD.out.r (B2, p2, c2) (by simp))).mono ?_
          rintro e w5 ⟨p3, c3, rfl, hR, hg⟩
          have HDn := Lib.hid ((HD.out.keep hg).addr hR)
          clear hR hg
          clear HD
          have HD := HDn
          clear HDn
          refine hK.out _ _ (fun _ => Lib.hid HD.out.s.sb) (fun hH2 => ?_)
          clear hK Kz hHeld
          have hHeld := hH2 rfl
          clear hH2
          (try simp only [Act.put, List.setIfInBounds_toArray, List.set_cons_zero, List.set_cons_succ])
        rotate_left 1
        focus
          go_simp
          have HDn := Lib.hid (HD.out.ints 1024 [1, 0, 1000, 1001] #[.int .i64 (1), .int .i64 (0), .int .i64 (1000), .int .i64 (1001)] (by intro x hx; simp at hx; unfold lim; omega) rfl)
          clear HD
          have HD := HDn
          clear HDn
          refine hK.out _ _ (fun _ => Lib.hid HD.out.s.sb) (fun hH2 => ?_)
          clear hK Kz hHeld
          have hHeld := hH2 rfl
          clear hH2
          (try simp only [Act.put, List.setIfInBounds_toArray, List.set_cons_zero, List.set_cons_succ])
          refine anyU_ready (rs := [4]) (by kernel_rfl) (by simp) ?_
          refine EachU.cons (o := { dst := some 44, op := Op.buildSlice 22 5 #[(0, Operand.tmp 43), (1, Operand.const (Value.int IntKind.i64 3)), (2, Operand.const (Value.int IntKind.i64 0)), (3, Operand.const (Value.int IntKind.i64 1)), (4, Operand.const (Value.int IntKind.i64 100))], type := 22, pos := "law.go:103", after := #[{ on := 3, ground := Ground.data }], guard := none }) rfl (fun Kz hK => ?_) EachU.nil
          go_simp
          have HDn := Lib.hid (HD.out.ints 128 [3 + (k : Int), 3, 0, 1, 100] #[.int .i64 (3 + (k : Int)), .int .i64 (3), .int .i64 (0), .int .i64 (1), .int .i64 (100)] (by intro x hx; simp at hx; unfold lim; omega) rfl)
          clear HD
          have HD := HDn
          clear HDn
          refine hK.out _ _ (fun _ => Lib.hid HD.out.s.sb) (fun hH2 => ?_)
          clear hK Kz hHeld
          have hHeld := hH2 rfl
          clear hH2
          (try simp only [Act.put, List.setIfInBounds_toArray, List.set_cons_zero, List.set_cons_succ])
          refine anyU_ready (rs := [5]) (by kernel_rfl) (by simp) ?_
          refine EachU.cons (o := { dst := some 45, op := Op.call { callee := Callee.value (Operand.func 25), args := #[Operand.tmp 41, Operand.tmp 44], argTypes := #[27, 22] }, type := 3, pos := "law.go:103", after := #[{ on := 1, ground := Ground.data }, { on := 4, ground := Ground.data }], guard := none }) rfl (fun Kz hK => ?_) EachU.nil
          go_simp
          go_at_call 25
          refine (pick_any (lim 128) _ _ 0 5 5 (by omega) (by omega) _ HD.out.s.t.tp (HD.out.m (128, _, 5) (by simp))).mono ?_
          rintro e w5 ⟨x1, rfl, hx1, hs⟩
          unfold lim at hx1
          have HDn := Lib.hid (HD.out.tape hs)
          clear hs
          clear HD
          have HD := HDn
          clear HDn
          refine hK.out _ _ (fun _ => Lib.hid HD.out.s.sb) (fun hH2 => ?_)
          clear hK Kz hHeld
          have hHeld := hH2 rfl
          clear hH2
          (try simp only [Act.put, List.setIfInBounds_toArray, List.set_cons_zero, List.set_cons_succ])
          refine anyU_ready (rs := [6]) (by kernel_rfl) (by simp) ?_
          refine EachU.cons (o := { dst := some 46, op := Op.call { callee := Callee.value (Operand.func 24), args := #[Operand.tmp 40, Operand.tmp 45, Operand.const (Value.int IntKind.i64 7)], argTypes := #[47, 3, 3] }, type := 47, pos := "law.go:103", after := #[{ on := 0, ground := Ground.data }, { on := 5, ground := Ground.data }, { on := 5, ground := Ground.chain }], guard := none }) rfl (fun Kz hK => ?_) EachU.nil
          go_simp
          obtain ⟨B1, hB1⟩ : ∃ X, X = B ++ nb x1.toNat 7 := ⟨_, rfl⟩
          have hl1 : B1.length ≤ B.length + 7 := by rw [hB1, List.length_append, nb_len]; omega
          have HB1 := Lib.hid hB1
          clear hB1
          go_at_call 24
          refine (lput_next w.heap.size x1 7 HB1.out (by omega) (by omega) (by decide) (by decide) (by omega) HD.out.s.lt (HD.out.s.br)).mono ?_
          rintro e w5 ⟨p1, c1, rfl, hR, hg⟩
          have HDn := Lib.hid ((HD.out.keep hg).addr hR)
          clear hR hg
          clear HD
          have HD := HDn
          clear HDn
          refine hK.out _ _ (fun _ => Lib.hid HD.out.s.sb) (fun hH2 => ?_)
          clear hK Kz hHeld
          have hHeld := hH2 rfl
          clear hH2
          (try simp only [Act.put, List.setIfInBounds_toArray, List.set_cons_zero, List.set_cons_succ])
          refine anyU_ready (rs := [9]) (by kernel_rfl) (by simp) ?_
          refine EachU.cons (o := { dst := some 49, op := Op.call { callee := Callee.value (Operand.func 25), args := #[Operand.tmp 47, Operand.tmp 48], argTypes := #[27, 22] }, type := 3, pos := "law.go:103", after := #[{ on := 7, ground := Ground.data }, { on := 8, ground := Ground.data }, { on := 6, ground := Ground.chain }], guard := none }) rfl (fun Kz hK => ?_) EachU.nil
          go_simp
          go_at_call 25
          refine (pick_any (lim 1024) _ _ 0 4 4 (by omega) (by omega) _ HD.out.s.t.tp (HD.out.m (1024, _, 4) (by simp))).mono ?_
          rintro e w5 ⟨x2, rfl, hx2, hs⟩
          unfold lim at hx2
          have HDn := Lib.hid (HD.out.tape hs)
          clear hs
          clear HD
          have HD := HDn
          clear HDn
          refine hK.out _ _ (fun _ => Lib.hid HD.out.s.sb) (fun hH2 => ?_)
          clear hK Kz hHeld
          have hHeld := hH2 rfl
          clear hH2
          (try simp only [Act.put, List.setIfInBounds_toArray, List.set_cons_zero, List.set_cons_succ])
          refine anyU_ready (rs := [10]) (by kernel_rfl) (by simp) ?_
          refine EachU.cons (o := { dst := some 50, op := Op.call { callee := Callee.value (Operand.func 24), args := #[Operand.tmp 46, Operand.tmp 49, Operand.const (Value.int IntKind.i64 10)], argTypes := #[47, 3, 3] }, type := 47, pos := "law.go:103", after := #[{ on := 6, ground := Ground.data }, { on := 9, ground := Ground.data }, { on := 9, ground := Ground.chain }], guard := none }) rfl (fun Kz hK => ?_) EachU.nil
          go_simp
          obtain ⟨B2, hB2⟩ : ∃ X, X = B1 ++ nb x2.toNat 10 := ⟨_, rfl⟩
          have hl2 : B2.length ≤ B1.length + 10 := by rw [hB2, List.length_append, nb_len]; omega
          have HB2 := Lib.hid hB2
          clear hB2
          go_at_call 24
          refine (lput_next w.heap.size x2 10 HB2.out (by omega) (by omega) (by decide) (by decide) (by omega) HD.out.s.lt (HD.out.r (B1, p1, c1) (by simp))).mono ?_
          rintro e w5 ⟨p2, c2, rfl, hR, hg⟩
          have HDn := Lib.hid ((HD.out.keep hg).addr hR)
          clear hR hg
          clear HD
          have HD := HDn
          clear HDn
          refine hK.out _ _ (fun _ => Lib.hid HD.out.s.sb) (fun hH2 => ?_)
          clear hK Kz hHeld
          have hHeld := hH2 rfl
          clear hH2
          (try simp only [Act.put, List.setIfInBounds_toArray, List.set_cons_zero, List.set_cons_succ])
          refine anyU_ready (rs := [13]) (by kernel_rfl) (by simp) ?_
          refine EachU.cons (o := { dst := some 53, op := Op.call { callee := Callee.value (Operand.func 25), args := #[Operand.tmp 51, Operand.tmp 52], argTypes := #[27, 22] }, type := 3, pos := "law.go:103", after := #[{ on := 11, ground := Ground.data }, { on := 12, ground := Ground.data }, { on := 10, ground := Ground.chain }], guard := none }) rfl (fun Kz hK => ?_) EachU.nil
          go_simp
          go_at_call 25
          refine (pick_any (lim 1024) _ _ 0 3 3 (by omega) (by omega) _ HD.out.s.t.tp (HD.out.m (1024, _, 3) (by simp))).mono ?_
          rintro e w5 ⟨x3, rfl, hx3, hs⟩
          unfold lim at hx3
          have HDn := Lib.hid (HD.out.tape hs)
          clear hs
          clear HD
          have HD := HDn
          clear HDn
          refine hK.out _ _ (fun _ => Lib.hid HD.out.s.sb) (fun hH2 => ?_)
          clear hK Kz hHeld
          have hHeld := hH2 rfl
          clear hH2
          (try simp only [Act.put, List.setIfInBounds_toArray, List.set_cons_zero, List.set_cons_succ])
          refine anyU_ready (rs := [14]) (by kernel_rfl) (by simp) ?_
          refine EachU.cons (o := { dst := some 54, op := Op.call { callee := Callee.value (Operand.func 24), args := #[Operand.tmp 50, Operand.tmp 53, Operand.const (Value.int IntKind.i64 10)], argTypes := #[47, 3, 3] }, type := 47, pos := "law.go:103", after := #[{ on := 10, ground := Ground.data }, { on := 13, ground := Ground.data }, { on := 13, ground := Ground.chain }], guard := none }) rfl (fun Kz hK => ?_) EachU.nil
          go_simp
          obtain ⟨B3, hB3⟩ : ∃ X, X = B2 ++ nb x3.toNat 10 := ⟨_, rfl⟩
          have hl3 : B3.length ≤ B2.length + 10 := by rw [hB3, List.length_append, nb_len]; omega
          have HB3 := Lib.hid hB3
          clear hB3
          go_at_call 24
          refine (lput_next w.heap.size x3 10 HB3.out (by omega) (by omega) (by decide) (by decide) (by omega) HD.out.s.lt (HD.out.r (B2, p2, c2) (by simp))).mono ?_
          rintro e w5 ⟨p3, c3, rfl, hR, hg⟩
          have HDn := Lib.hid ((HD.out.keep hg).addr hR)
          clear hR hg
          clear HD
          have HD := HDn
          clear HDn
          refine hK.out _ _ (fun _ => Lib.hid HD.out.s.sb) (fun hH2 => ?_)
          clear hK Kz hHeld
          have hHeld := hH2 rfl
          clear hH2
          (try simp only [Act.put, List.setIfInBounds_toArray, List.set_cons_zero, List.set_cons_succ])
        rotate_left 1
        all_goals
          refine anyU_ready (rs := [15]) (by kernel_rfl) (by simp) ?_
          refine EachU.cons (o := { dst := none, op := Op.store 47 (Operand.tmp 6) (Operand.tmp 54), type := 0, pos := "law.go:103", after := #[{ on := 14, ground := Ground.data }, { on := 14, ground := Ground.chain }, { on := 0, ground := Ground.phase }, { on := 1, ground := Ground.phase }, { on := 2, ground := Ground.phase }, { on := 3, ground := Ground.phase }, { on := 4, ground := Ground.phase }, { on := 5, ground := Ground.phase }, { on := 6, ground := Ground.phase }, { on := 7, ground := Ground.phase }, { on := 8, ground := Ground.phase }, { on := 9, ground := Ground.phase }, { on := 10, ground := Ground.phase }, { on := 11, ground := Ground.phase }, { on := 12, ground := Ground.phase }, { on := 13, ground := Ground.phase }, { on := 14, ground := Ground.phase }], guard := none }) rfl (fun Kz hK => ?_) EachU.nil
          obtain ⟨s0, s1⟩ := row_cells HD.out.s.sb
          have f0 := frozen_of_row _ _ 0 _ _ HD.out.s.sb
          have f1 := frozen_of_row _ _ 1 _ _ HD.out.s.sb
          have HE := Lib.hid (fs_put HD.out.s (HD.out.r (B3, p3, c3) (by simp)))
          go_simp
          refine hK.out _ _ (fun h => by cases h) (fun _ => ?_)
          clear hK Kz
          (try simp only [Act.put, List.setIfInBounds_toArray, List.set_cons_zero, List.set_cons_succ])
          refine anyU_done (by kernel_rfl) ?_ _
          have HQ : Hid (B3 = B0 ++ (L ++ [(⟨x1, x2, x3⟩ : T3)]).flatMap encR) := Lib.hid (by rw [HB3.out, HB2.out, HB1.out, HBL.out, List.flatMap_append]; simp [encR, List.append_assoc])
          have HF : Hid (∀ x ∈ L ++ [(⟨x1, x2, x3⟩ : T3)], (0 ≤ x.a ∧ x.a < 128) ∧ (0 ≤ x.b ∧ x.b < 1024) ∧ 0 ≤ x.c ∧ x.c < 1024) := Lib.hid (snoc_all HFL.out ⟨hx1, hx2, hx3⟩)
          clear hHeld HD HB1 HB2 HB3 s0 s1 f0 f1
          go_wp2_with fail
          exact ⟨⟨k + 1, by omega, congrArg _ (by omega), _, B3, p3, c3, by rw [List.length_append, hLl]; rfl, HF, HQ, by omega, HE⟩, by simp only [RowKit.intOf]; omega⟩
      · obtain rfl : k = n := by omega
        go_wp2_with fail
        go_meet
        exact ⟨L, B, p, c, hLl, HFL, HBL, hBl, HK⟩
  case rest =>
  obtain ⟨L, B, p, c, hLl, HFL, HBL, hBl, HK⟩ := hcut
  clear H12
  obtain ⟨B5, hB5⟩ : ∃ X, X = B ++ nb ((m : Nat) : Int).toNat 4 := ⟨_, rfl⟩
  have hl5 : B5.length ≤ B.length + 4 := by rw [hB5, List.length_append, nb_len]; omega
  have HB5 := Lib.hid hB5
  clear hB5
  obtain ⟨s0, s1⟩ := row_cells HK.out.sb
  go_wp2_with fail
  refine (lput_next w.heap.size ((m : Nat) : Int) 4 HB5.out (by omega) (by rw [Int.toNat_natCast]; omega) (by decide) (by decide) (by omega) HK.out.lt HK.out.br).mono ?_
  rintro e w12 ⟨p5, c5, rfl, hR, hg⟩
  have H13 := Lib.hid (HK.out.keep hg)
  have H14 := Lib.hid (fs_put H13.out hR)
  clear hR hg HK s0 s1
  obtain ⟨s0, s1⟩ := row_cells H13.out.sb
  have f0 := frozen_of_row _ _ 0 _ _ H13.out.sb
  have f1 := frozen_of_row _ _ 1 _ _ H13.out.sb
  go_upto_region 9 with fail
  clear s0 s1 f0 f1 H13
  generalize (w12.setCell _ _).setCell _ _ = w13 at *
  go_upto_block 2 with fail
  go_cut [] from 58 to 75 (fun wx => ∃ C B p c, (C : List T3).length = m ∧ Hid (∀ x ∈ C, (0 ≤ x.a ∧ x.a < 8) ∧ (0 ≤ x.b ∧ x.b < 512) ∧ (x.c = 8 ∨ x.c = 16 ∨ x.c = 32 ∨ x.c = 64)) ∧ Hid (B = B5 ++ C.flatMap encK) ∧ B.length ≤ B5.length + m * 14 ∧ Hid (FS w D B p c wx))
  case first =>
    go_wp2_with fail
    go_loopw [8] (fun i wr => ∃ k : Nat, k ≤ m ∧ i = .int .i64 (k : Int) ∧ ∃ C B p c, (C : List T3).length = k ∧ Hid (∀ x ∈ C, (0 ≤ x.a ∧ x.a < 8) ∧ (0 ≤ x.b ∧ x.b < 512) ∧ (x.c = 8 ∨ x.c = 16 ∨ x.c = 32 ∨ x.c = 64)) ∧ Hid (B = B5 ++ C.flatMap encK) ∧ B.length ≤ B5.length + k * 14 ∧ Hid (FS w D B p c wr)) (fun i _ => m - (RowKit.intOf i).toNat)
    case atStart => exact ⟨0, Nat.zero_le _, rfl, [], B5, p5, c5, rfl, Lib.hid (fun x h => by cases h), Lib.hid (by simp), by omega, H14⟩
    case round =>
      obtain ⟨k, hk, rfl, C, B, p, c, hCl, HFC, HBC, hBl2, HK⟩ := hrel
      clear H14
      by_cases hlt : k < m
      · go_upto_region 12 with fail
        have HD : Hid (FK w D B p c [] [] wr.drew) := Lib.hid ⟨HK.out.keep (grown_drew (grown_refl wr none)), fun _ h => (by cases h), fun _ h => (by cases h)⟩
        clear HK
        refine region_until (S := fun w' => Hid (w'.heap[D]? = some (.cells #[.slice p (pk B).length c, .int .i64 (B.length : Int)] 47 (0, 0)))) (fun j => j == 13) (by kernel_rfl) (Lib.hid HD.out.s.sb) (fun hHeld => ?_)
        focus
          refine anyU_take (i := 0) (oi := { dst := some 63, op := Op.load 47 (Operand.tmp 6), type := 47, pos := "law.go:107", after := #[], guard := none }) (v := ?_) rfl (by kernel_rfl) (by kernel_rfl) (by kernel_rfl) (by kernel_rfl) (by kernel_rfl) (fun _ _ _ h => h) (Or.inl ⟨by rfl, ?_⟩) hHeld ?_
          rotate_left 1
          · intro u hSu
            obtain ⟨s0, s1⟩ := row_cells hSu.out
            go_simp
            first | done | with_reducible rfl
          (try simp only [Act.put, List.setIfInBounds_toArray, List.set_cons_zero, List.set_cons_succ])
          refine anyU_take (i := 1) (oi := { dst := some 64, op := Op.move (Operand.tmp 3), type := 27, pos := "law.go:107", after := #[], guard := none }) (v := ?_) rfl (by kernel_rfl) (by kernel_rfl) (by kernel_rfl) (by kernel_rfl) (by kernel_rfl) (fun _ _ _ h => h) (Or.inl ⟨by rfl, ?_⟩) hHeld ?_
          rotate_left 1
          · intro u hSu
            obtain ⟨s0, s1⟩ := row_cells hSu.out
            go_simp
            first | done | with_reducible rfl
          (try simp only [Act.put, List.setIfInBounds_toArray, List.set_cons_zero, List.set_cons_succ])
          refine anyU_take (i := 2) (oi := { dst := some 65, op := Op.move (Operand.tmp 8), type := 3, pos := "law.go:107", after := #[], guard := none }) (v := ?_) rfl (by kernel_rfl) (by kernel_rfl) (by kernel_rfl) (by kernel_rfl) (by kernel_rfl) (fun _ _ _ h => h) (Or.inl ⟨by rfl, ?_⟩) hHeld ?_
          rotate_left 1
          · intro u hSu
            obtain ⟨s0, s1⟩ := row_cells hSu.out
            go_simp
            first | done | with_reducible rfl
          (try simp only [Act.put, List.setIfInBounds_toArray, List.set_cons_zero, List.set_cons_succ])
          refine anyU_take (i := 6) (oi := { dst := some 69, op := Op.move (Operand.tmp 3), type := 27, pos := "law.go:107", after := #[], guard := none }) (v := ?_) rfl (by kernel_rfl) (by kernel_rfl) (by kernel_rfl) (by kernel_rfl) (by kernel_rfl) (fun _ _ _ h => h) (Or.inl ⟨by rfl, ?_⟩) hHeld ?_
          rotate_left 1
          · intro u hSu
            obtain ⟨s0, s1⟩ := row_cells hSu.out
            go_simp
            first | done | with_reducible rfl
          (try simp only [Act.put, List.setIfInBounds_toArray, List.set_cons_zero, List.set_cons_succ])
          refine anyU_take (i := 10) (oi := { dst := some 73, op := Op.move (Operand.tmp 3), type := 27, pos := "law.go:107", after := #[], guard := none }) (v := ?_) rfl (by kernel_rfl) (by kernel_rfl) (by kernel_rfl) (by kernel_rfl) (by kernel_rfl) (fun _ _ _ h => h) (Or.inl ⟨by rfl, ?_⟩) hHeld ?_
          rotate_left 1
          · intro u hSu
            obtain ⟨s0, s1⟩ := row_cells hSu.out
            go_simp
            first | done | with_reducible rfl
          (try simp only [Act.put, List.setIfInBounds_toArray, List.set_cons_zero, List.set_cons_succ])
          refine anyU_ready (rs := [3, 7]) (by kernel_rfl) (by simp) ?_
          refine EachU.cons (o := { dst := some 66, op := Op.buildSlice 22 3 #[(0, Operand.tmp 65), (1, Operand.const (Value.int IntKind.i64 0)), (2, Operand.const (Value.int IntKind.i64 7))], type := 22, pos := "law.go:107", after := #[{ on := 2, ground := Ground.data }], guard := none }) rfl (fun Kz hK => ?_) (EachU.cons (o := { dst := some 70, op := Op.buildSlice 22 4 #[(0, Operand.const (Value.int IntKind.i64 1)), (1, Operand.const (Value.int IntKind.i64 0)), (2, Operand.const (Value.int IntKind.i64 256)), (3, Operand.const (Value.int IntKind.i64 257))], type := 22, pos := "law.go:107", after := #[], guard := none }) rfl (fun Kz hK => ?_) EachU.nil)
        focus
          go_simp
          have HDn := Lib.hid (HD.out.ints 8 [(k : Int), 0, 7] #[.int .i64 ((k : Int)), .int .i64 (0), .int .i64 (7)] (by intro x hx; simp at hx; unfold lim; omega) rfl)
          clear HD
          have HD := HDn
          clear HDn
          refine hK.out _ _ (fun _ => Lib.hid HD.out.s.sb) (fun hH2 => ?_)
          clear hK Kz hHeld
          have hHeld := hH2 rfl
          clear hH2
          (try simp only [Act.put, List.setIfInBounds_toArray, List.set_cons_zero, List.set_cons_succ])
          refine anyU_ready (rs := [4, 7]) (by kernel_rfl) (by simp) ?_
          refine EachU.cons (o := { dst := some 67, op := Op.call { callee := Callee.value (Operand.func 25), args := #[Operand.tmp 64, Operand.tmp 66], argTypes := #[27, 22] }, type := 3, pos := "law.go:107", after := #[{ on := 1, ground := Ground.data }, { on := 3, ground := Ground.data }], guard := none }) rfl (fun Kz hK => ?_) (EachU.cons (o := { dst := some 70, op := Op.buildSlice 22 4 #[(0, Operand.const (Value.int IntKind.i64 1)), (1, Operand.const (Value.int IntKind.i64 0)), (2, Operand.const (Value.int IntKind.i64 256)), (3, Operand.const (Value.int IntKind.i64 257))], type := 22, pos := "law.go:107", after := #[], guard := none }) rfl (fun Kz hK => ?_) EachU.nil)
        focus
          go_simp
          go_at_call 25
          refine (pick_any (lim 8) _ _ 0 3 3 (by omega) (by omega) _ HD.out.s.t.tp (HD.out.m (8, _, 3) (by simp))).mono ?_
          rintro e w5 ⟨x1, rfl, hx1, hs⟩
          unfold lim at hx1
          have HDn := Lib.hid (HD.out.tape hs)
          clear hs
          clear HD
          have HD := HDn
          clear HDn
          refine hK.out _ _ (fun _ => Lib.hid HD.out.s.sb) (fun hH2 => ?_)
          clear hK Kz hHeld
          have hHeld := hH2 rfl
          clear hH2
          (try simp only [Act.put, List.setIfInBounds_toArray, List.set_cons_zero, List.set_cons_succ])
          refine anyU_ready (rs := [5, 7]) (by kernel_rfl) (by simp) ?_
          refine EachU.cons (o := { dst := some 68, op := Op.call { callee := Callee.value (Operand.func 24), args := #[Operand.tmp 63, Operand.tmp 67, Operand.const (Value.int IntKind.i64 3)], argTypes := #[47, 3, 3] }, type := 47, pos := "law.go:107", after := #[{ on := 0, ground := Ground.data }, { on := 4, ground := Ground.data }, { on := 4, ground := Ground.chain }], guard := none }) rfl (fun Kz hK => ?_) (EachU.cons (o := { dst := some 70, op := Op.buildSlice 22 4 #[(0, Operand.const (Value.int IntKind.i64 1)), (1, Operand.const (Value.int IntKind.i64 0)), (2, Operand.const (Value.int IntKind.i64 256)), (3, Operand.const (Value.int IntKind.i64 257))], type := 22, pos := "law.go:107", after := #[], guard := none }) rfl (fun Kz hK => ?_) EachU.nil)
        focus
          go_simp
          obtain ⟨B1, hB1⟩ : ∃ X, X = B ++ nb x1.toNat 3 := ⟨_, rfl⟩
          have hl1 : B1.length ≤ B.length + 3 := by rw [hB1, List.length_append, nb_len]; omega
          have HB1 := Lib.hid hB1
          clear hB1
          go_at_call 24
          refine (lput_next w.heap.size x1 3 HB1.out (by omega) (by omega) (by decide) (by decide) (by omega) HD.out.s.lt (HD.out.s.br)).mono ?_
          rintro e w5 ⟨p1, c1, rfl, hR, hg⟩
          have HDn := Lib.hid ((HD.out.keep hg).addr hR)
          clear hR hg
          clear HD
          have HD := HDn
          clear HDn
          refine hK.out _ _ (fun _ => Lib.hid HD.out.s.sb) (fun hH2 => ?_)
          clear hK Kz hHeld
          have hHeld := hH2 rfl
          clear hH2
          (try simp only [Act.put, List.setIfInBounds_toArray, List.set_cons_zero, List.set_cons_succ])
          refine anyU_ready (rs := [7]) (by kernel_rfl) (by simp) ?_
          refine EachU.cons (o := { dst := some 70, op := Op.buildSlice 22 4 #[(0, Operand.const (Value.int IntKind.i64 1)), (1, Operand.const (Value.int IntKind.i64 0)), (2, Operand.const (Value.int IntKind.i64 256)), (3, Operand.const (Value.int IntKind.i64 257))], type := 22, pos := "law.go:107", after := #[], guard := none }) rfl (fun Kz hK => ?_) EachU.nil
          go_simp
          have HDn := Lib.hid (HD.out.ints 512 [1, 0, 256, 257] #[.int .i64 (1), .int .i64 (0), .int .i64 (256), .int .i64 (257)] (by intro x hx; simp at hx; unfold lim; omega) rfl)
          clear HD
          have HD := HDn
          clear HDn
          refine hK.out _ _ (fun _ => Lib.hid HD.out.s.sb) (fun hH2 => ?_)
          clear hK Kz hHeld
          have hHeld := hH2 rfl
          clear hH2
          (try simp only [Act.put, List.setIfInBounds_toArray, List.set_cons_zero, List.set_cons_succ])
          refine anyU_ready (rs := [8]) (by kernel_rfl) (by simp) ?_
          refine EachU.cons (o := { dst := some 71, op := Op.call { callee := Callee.value (Operand.func 25), args := #[Operand.tmp 69, Operand.tmp 70], argTypes := #[27, 22] }, type := 3, pos := "law.go:107", after := #[{ on := 6, ground := Ground.data }, { on := 7, ground := Ground.data }, { on := 5, ground := Ground.chain }], guard := none }) rfl (fun Kz hK => ?_) EachU.nil
          go_simp
          go_at_call 25
          refine (pick_any (lim 512) _ _ 0 4 4 (by omega) (by omega) _ HD.out.s.t.tp (HD.out.m (512, _, 4) (by simp))).mono ?_
          rintro e w5 ⟨x2, rfl, hx2, hs⟩
          unfold lim at hx2
          have HDn := Lib.hid (HD.out.tape hs)
          clear hs
          clear HD
          have HD := HDn
          clear HDn
          refine hK.out _ _ (fun _ => Lib.hid HD.out.s.sb) (fun hH2 => ?_)
          clear hK Kz hHeld
          have hHeld := hH2 rfl
          clear hH2
          (try simp only [Act.put, List.setIfInBounds_toArray, List.set_cons_zero, List.set_cons_succ])
          refine anyU_ready (rs := [9]) (by kernel_rfl) (by simp) ?_
          refine EachU.cons (o := { dst := some 72, op := Op.call { callee := Callee.value (Operand.func 24), args := #[Operand.tmp 68, Operand.tmp 71, Operand.const (Value.int IntKind.i64 9)], argTypes := #[47, 3, 3] }, type := 47, pos := "law.go:107", after := #[{ on := 5, ground := Ground.data }, { on := 8, ground := Ground.data }, { on := 8, ground := Ground.chain }], guard := none }) rfl (fun Kz hK => ?_) EachU.nil
          go_simp
          obtain ⟨B2, hB2⟩ : ∃ X, X = B1 ++ nb x2.toNat 9 := ⟨_, rfl⟩
          have hl2 : B2.length ≤ B1.length + 9 := by rw [hB2, List.length_append, nb_len]; omega
          have HB2 := Lib.hid hB2
          clear hB2
          go_at_call 24
          refine (lput_next w.heap.size x2 9 HB2.out (by omega) (by omega) (by decide) (by decide) (by omega) HD.out.s.lt (HD.out.r (B1, p1, c1) (by simp))).mono ?_
          rintro e w5 ⟨p2, c2, rfl, hR, hg⟩
          have HDn := Lib.hid ((HD.out.keep hg).addr hR)
          clear hR hg
          clear HD
          have HD := HDn
          clear HDn
          refine hK.out _ _ (fun _ => Lib.hid HD.out.s.sb) (fun hH2 => ?_)
          clear hK Kz hHeld
          have hHeld := hH2 rfl
          clear hH2
          (try simp only [Act.put, List.setIfInBounds_toArray, List.set_cons_zero, List.set_cons_succ])
          refine anyU_ready (rs := [11]) (by kernel_rfl) (by simp) ?_
          refine EachU.cons (o := { dst := some 74, op := Op.call { callee := Callee.value (Operand.func 22), args := #[Operand.tmp 73, Operand.const (Value.int IntKind.i64 4)], argTypes := #[27, 3] }, type := 3, pos := "law.go:107", after := #[{ on := 10, ground := Ground.data }, { on := 9, ground := Ground.chain }], guard := none }) rfl (fun Kz hK => ?_) EachU.nil
          go_simp
          go_at_call 22
          refine (next_any _ 4 (by unfold I64; omega) _ HD.out.s.t.tp).mono ?_
          rintro e w5 ⟨x3, rfl, hx, hs⟩
          have hx3 : 0 ≤ x3 ∧ x3 < 4 := by have h1 := hx.1; have h2 := hx.2.1 (by decide); omega
          clear hx
          have HDn := Lib.hid (HD.out.tape hs)
          clear hs
          clear HD
          have HD := HDn
          clear HDn
          refine hK.out _ _ (fun _ => Lib.hid HD.out.s.sb) (fun hH2 => ?_)
          clear hK Kz hHeld
          have hHeld := hH2 rfl
          clear hH2
          (try simp only [Act.put, List.setIfInBounds_toArray, List.set_cons_zero, List.set_cons_succ])
          refine anyU_ready (rs := [12]) (by kernel_rfl) (by simp) ?_
          refine EachU.cons (o := { dst := some 75, op := Op.call { callee := Callee.value (Operand.func 24), args := #[Operand.tmp 72, Operand.tmp 74, Operand.const (Value.int IntKind.i64 2)], argTypes := #[47, 3, 3] }, type := 47, pos := "law.go:107", after := #[{ on := 9, ground := Ground.data }, { on := 11, ground := Ground.data }, { on := 11, ground := Ground.chain }], guard := none }) rfl (fun Kz hK => ?_) EachU.nil
          go_simp
          obtain ⟨B3, hB3⟩ : ∃ X, X = B2 ++ nb x3.toNat 2 := ⟨_, rfl⟩
          have hl3 : B3.length ≤ B2.length + 2 := by rw [hB3, List.length_append, nb_len]; omega
          have HB3 := Lib.hid hB3
          clear hB3
          go_at_call 24
          refine (lput_next w.heap.size x3 2 HB3.out (by omega) (by omega) (by decide) (by decide) (by omega) HD.out.s.lt (HD.out.r (B2, p2, c2) (by simp))).mono ?_
          rintro e w5 ⟨p3, c3, rfl, hR, hg⟩
          have HDn := Lib.hid ((HD.out.keep hg).addr hR)
          clear hR hg
          clear HD
          have HD := HDn
          clear HDn
          refine hK.out _ _ (fun _ => Lib.hid HD.out.s.sb) (fun hH2 => ?_)
          clear hK Kz hHeld
          have hHeld := hH2 rfl
          clear hH2
          (try simp only [Act.put, List.setIfInBounds_toArray, List.set_cons_zero, List.set_cons_succ])
        rotate_left 1
        focus
          go_simp
          have HDn := Lib.hid (HD.out.ints 512 [1, 0, 256, 257] #[.int .i64 (1), .int .i64 (0), .int .i64 (256), .int .i64 (257)] (by intro x hx; simp at hx; unfold lim; omega) rfl)
          clear HD
          have HD := HDn
          clear HDn
          refine hK.out _ _ (fun _ => Lib.hid HD.out.s.sb) (fun hH2 => ?_)
          clear hK Kz hHeld
          have hHeld := hH2 rfl
          clear hH2
          (try simp only [Act.put, List.setIfInBounds_toArray, List.set_cons_zero, List.set_cons_succ])
          refine anyU_ready (rs := [5]) (by kernel_rfl) (by simp) ?_
          refine EachU.cons (o := { dst := some 68, op := Op.call { callee := Callee.value (Operand.func 24), args := #[Operand.tmp 63, Operand.tmp 67, Operand.const (Value.int IntKind.i64 3)], argTypes := #[47, 3, 3] }, type := 47, pos := "law.go:107", after := #[{ on := 0, ground := Ground.data }, { on := 4, ground := Ground.data }, { on := 4, ground := Ground.chain }], guard := none }) rfl (fun Kz hK => ?_) EachU.nil
          go_simp
          obtain ⟨B1, hB1⟩ : ∃ X, X = B ++ nb x1.toNat 3 := ⟨_, rfl⟩
          have hl1 : B1.length ≤ B.length + 3 := by rw [hB1, List.length_append, nb_len]; omega
          have HB1 := Lib.hid hB1
          clear hB1
          go_at_call 24
          refine (lput_next w.heap.size x1 3 HB1.out (by omega) (by omega) (by decide) (by decide) (by omega) HD.out.s.lt (HD.out.s.br)).mono ?_
          rintro e w5 ⟨p1, c1, rfl, hR, hg⟩
          have HDn := Lib.hid ((HD.out.keep hg).addr hR)
          clear hR hg
          clear HD
          have HD := HDn
          clear HDn
          refine hK.out _ _ (fun _ => Lib.hid HD.out.s.sb) (fun hH2 => ?_)
          clear hK Kz hHeld
          have hHeld := hH2 rfl
          clear hH2
          (try simp only [Act.put, List.setIfInBounds_toArray, List.set_cons_zero, List.set_cons_succ])
          refine anyU_ready (rs := [8]) (by kernel_rfl) (by simp) ?_
          refine EachU.cons (o := { dst := some 71, op := Op.call { callee := Callee.value (Operand.func 25), args := #[Operand.tmp 69, Operand.tmp 70], argTypes := #[27, 22] }, type := 3, pos := "law.go:107", after := #[{ on := 6, ground := Ground.data }, { on := 7, ground := Ground.data }, { on := 5, ground := Ground.chain }], guard := none }) rfl (fun Kz hK => ?_) EachU.nil
          go_simp
          go_at_call 25
          refine (pick_any (lim 512) _ _ 0 4 4 (by omega) (by omega) _ HD.out.s.t.tp (HD.out.m (512, _, 4) (by simp))).mono ?_
          rintro e w5 ⟨x2, rfl, hx2, hs⟩
          unfold lim at hx2
          have HDn := Lib.hid (HD.out.tape hs)
          clear hs
          clear HD
          have HD := HDn
          clear HDn
          refine hK.out _ _ (fun _ => Lib.hid HD.out.s.sb) (fun hH2 => ?_)
          clear hK Kz hHeld
          have hHeld := hH2 rfl
          clear hH2
          (try simp only [Act.put, List.setIfInBounds_toArray, List.set_cons_zero, List.set_cons_succ])
          refine anyU_ready (rs := [9]) (by kernel_rfl) (by simp) ?_
          refine EachU.cons (o := { dst := some 72, op := Op.call { callee := Callee.value (Operand.func 24), args := #[Operand.tmp 68, Operand.tmp 71, Operand.const (Value.int IntKind.i64 9)], argTypes := #[47, 3, 3] }, type := 47, pos := "law.go:107", after := #[{ on := 5, ground := Ground.data }, { on := 8, ground := Ground.data }, { on := 8, ground := Ground.chain }], guard := none }) rfl (fun Kz hK => ?_) EachU.nil
          go_simp
          obtain ⟨B2, hB2⟩ : ∃ X, X = B1 ++ nb x2.toNat 9 := ⟨_, rfl⟩
          have hl2 : B2.length ≤ B1.length + 9 := by rw [hB2, List.length_append, nb_len]; omega
          have HB2 := Lib.hid hB2
          clear hB2
          go_at_call 24
          refine (lput_next w.heap.size x2 9 HB2.out (by omega) (by omega) (by decide) (by decide) (by omega) HD.out.s.lt (HD.out.r (B1, p1, c1) (by simp))).mono ?_
          rintro e w5 ⟨p2, c2, rfl, hR, hg⟩
          have HDn := Lib.hid ((HD.out.keep hg).addr hR)
          clear hR hg
          clear HD
          have HD := HDn
          clear HDn
          refine hK.out _ _ (fun _ => Lib.hid HD.out.s.sb) (fun hH2 => ?_)
          clear hK Kz hHeld
          have hHeld := hH2 rfl
          clear hH2
          (try simp only [Act.put, List.setIfInBounds_toArray, List.set_cons_zero, List.set_cons_succ])
          refine anyU_ready (rs := [11]) (by kernel_rfl) (by simp) ?_
          refine EachU.cons (o := { dst := some 74, op := Op.call { callee := Callee.value (Operand.func 22), args := #[Operand.tmp 73, Operand.const (Value.int IntKind.i64 4)], argTypes := #[27, 3] }, type := 3, pos := "law.go:107", after := #[{ on := 10, ground := Ground.data }, { on := 9, ground := Ground.chain }], guard := none }) rfl (fun Kz hK => ?_) EachU.nil
          go_simp
          go_at_call 22
          refine (next_any _ 4 (by unfold I64; omega) _ HD.out.s.t.tp).mono ?_
          rintro e w5 ⟨x3, rfl, hx, hs⟩
          have hx3 : 0 ≤ x3 ∧ x3 < 4 := by have h1 := hx.1; have h2 := hx.2.1 (by decide); omega
          clear hx
          have HDn := Lib.hid (HD.out.tape hs)
          clear hs
          clear HD
          have HD := HDn
          clear HDn
          refine hK.out _ _ (fun _ => Lib.hid HD.out.s.sb) (fun hH2 => ?_)
          clear hK Kz hHeld
          have hHeld := hH2 rfl
          clear hH2
          (try simp only [Act.put, List.setIfInBounds_toArray, List.set_cons_zero, List.set_cons_succ])
          refine anyU_ready (rs := [12]) (by kernel_rfl) (by simp) ?_
          refine EachU.cons (o := { dst := some 75, op := Op.call { callee := Callee.value (Operand.func 24), args := #[Operand.tmp 72, Operand.tmp 74, Operand.const (Value.int IntKind.i64 2)], argTypes := #[47, 3, 3] }, type := 47, pos := "law.go:107", after := #[{ on := 9, ground := Ground.data }, { on := 11, ground := Ground.data }, { on := 11, ground := Ground.chain }], guard := none }) rfl (fun Kz hK => ?_) EachU.nil
          go_simp
          obtain ⟨B3, hB3⟩ : ∃ X, X = B2 ++ nb x3.toNat 2 := ⟨_, rfl⟩
          have hl3 : B3.length ≤ B2.length + 2 := by rw [hB3, List.length_append, nb_len]; omega
          have HB3 := Lib.hid hB3
          clear hB3
          go_at_call 24
          refine (lput_next w.heap.size x3 2 HB3.out (by omega) (by omega) (by decide) (by decide) (by omega) HD.out.s.lt (HD.out.r (B2, p2, c2) (by simp))).mono ?_
          rintro e w5 ⟨p3, c3, rfl, hR, hg⟩
          have HDn := Lib.hid ((HD.out.keep hg).addr hR)
          clear hR hg
          clear HD
          have HD := HDn
          clear HDn
          refine hK.out _ _ (fun _ => Lib.hid HD.out.s.sb) (fun hH2 => ?_)
          clear hK Kz hHeld
          have hHeld := hH2 rfl
          clear hH2
          (try simp only [Act.put, List.setIfInBounds_toArray, List.set_cons_zero, List.set_cons_succ])
        rotate_left 1
        focus
          go_simp
          have HDn := Lib.hid (HD.out.ints 512 [1, 0, 256, 257] #[.int .i64 (1), .int .i64 (0), .int .i64 (256), .int .i64 (257)] (by intro x hx; simp at hx; unfold lim; omega) rfl)
          clear HD
          have HD := HDn
          clear HDn
          refine hK.out _ _ (fun _ => Lib.hid HD.out.s.sb) (fun hH2 => ?_)
          clear hK Kz hHeld
          have hHeld := hH2 rfl
          clear hH2
          (try simp only [Act.put, List.setIfInBounds_toArray, List.set_cons_zero, List.set_cons_succ])
          refine anyU_ready (rs := [4]) (by kernel_rfl) (by simp) ?_
          refine EachU.cons (o := { dst := some 67, op := Op.call { callee := Callee.value (Operand.func 25), args := #[Operand.tmp 64, Operand.tmp 66], argTypes := #[27, 22] }, type := 3, pos := "law.go:107", after := #[{ on := 1, ground := Ground.data }, { on := 3, ground := Ground.data }], guard := none }) rfl (fun Kz hK => ?_) EachU.nil
          go_simp
          go_at_call 25
          refine (pick_any (lim 8) _ _ 0 3 3 (by omega) (by omega) _ HD.out.s.t.tp (HD.out.m (8, _, 3) (by simp))).mono ?_
          rintro e w5 ⟨x1, rfl, hx1, hs⟩
          unfold lim at hx1
          have HDn := Lib.hid (HD.out.tape hs)
          clear hs
          clear HD
          have HD := HDn
          clear HDn
          refine hK.out _ _ (fun _ => Lib.hid HD.out.s.sb) (fun hH2 => ?_)
          clear hK Kz hHeld
          have hHeld := hH2 rfl
          clear hH2
          (try simp only [Act.put, List.setIfInBounds_toArray, List.set_cons_zero, List.set_cons_succ])
          refine anyU_ready (rs := [5]) (by kernel_rfl) (by simp) ?_
          refine EachU.cons (o := { dst := some 68, op := Op.call { callee := Callee.value (Operand.func 24), args := #[Operand.tmp 63, Operand.tmp 67, Operand.const (Value.int IntKind.i64 3)], argTypes := #[47, 3, 3] }, type := 47, pos := "law.go:107", after := #[{ on := 0, ground := Ground.data }, { on := 4, ground := Ground.data }, { on := 4, ground := Ground.chain }], guard := none }) rfl (fun Kz hK => ?_) EachU.nil
          go_simp
          obtain ⟨B1, hB1⟩ : ∃ X, X = B ++ nb x1.toNat 3 := ⟨_, rfl⟩
          have hl1 : B1.length ≤ B.length + 3 := by rw [hB1, List.length_append, nb_len]; omega
          have HB1 := Lib.hid hB1
          clear hB1
          go_at_call 24
          refine (lput_next w.heap.size x1 3 HB1.out (by omega) (by omega) (by decide) (by decide) (by omega) HD.out.s.lt (HD.out.s.br)).mono ?_
          rintro e w5 ⟨p1, c1, rfl, hR, hg⟩
          have HDn := Lib.hid ((HD.out.keep hg).addr hR)
          clear hR hg
          clear HD
          have HD := HDn
          clear HDn
          refine hK.out _ _ (fun _ => Lib.hid HD.out.s.sb) (fun hH2 => ?_)
          clear hK Kz hHeld
          have hHeld := hH2 rfl
          clear hH2
          (try simp only [Act.put, List.setIfInBounds_toArray, List.set_cons_zero, List.set_cons_succ])
          refine anyU_ready (rs := [8]) (by kernel_rfl) (by simp) ?_
          refine EachU.cons (o := { dst := some 71, op := Op.call { callee := Callee.value (Operand.func 25), args := #[Operand.tmp 69, Operand.tmp 70], argTypes := #[27, 22] }, type := 3, pos := "law.go:107", after := #[{ on := 6, ground := Ground.data }, { on := 7, ground := Ground.data }, { on := 5, ground := Ground.chain }], guard := none }) rfl (fun Kz hK => ?_) EachU.nil
          go_simp
          go_at_call 25
          refine (pick_any (lim 512) _ _ 0 4 4 (by omega) (by omega) _ HD.out.s.t.tp (HD.out.m (512, _, 4) (by simp))).mono ?_
          rintro e w5 ⟨x2, rfl, hx2, hs⟩
          unfold lim at hx2
          have HDn := Lib.hid (HD.out.tape hs)
          clear hs
          clear HD
          have HD := HDn
          clear HDn
          refine hK.out _ _ (fun _ => Lib.hid HD.out.s.sb) (fun hH2 => ?_)
          clear hK Kz hHeld
          have hHeld := hH2 rfl
          clear hH2
          (try simp only [Act.put, List.setIfInBounds_toArray, List.set_cons_zero, List.set_cons_succ])
          refine anyU_ready (rs := [9]) (by kernel_rfl) (by simp) ?_
          refine EachU.cons (o := { dst := some 72, op := Op.call { callee := Callee.value (Operand.func 24), args := #[Operand.tmp 68, Operand.tmp 71, Operand.const (Value.int IntKind.i64 9)], argTypes := #[47, 3, 3] }, type := 47, pos := "law.go:107", after := #[{ on := 5, ground := Ground.data }, { on := 8, ground := Ground.data }, { on := 8, ground := Ground.chain }], guard := none }) rfl (fun Kz hK => ?_) EachU.nil
          go_simp
          obtain ⟨B2, hB2⟩ : ∃ X, X = B1 ++ nb x2.toNat 9 := ⟨_, rfl⟩
          have hl2 : B2.length ≤ B1.length + 9 := by rw [hB2, List.length_append, nb_len]; omega
          have HB2 := Lib.hid hB2
          clear hB2
          go_at_call 24
          refine (lput_next w.heap.size x2 9 HB2.out (by omega) (by omega) (by decide) (by decide) (by omega) HD.out.s.lt (HD.out.r (B1, p1, c1) (by simp))).mono ?_
          rintro e w5 ⟨p2, c2, rfl, hR, hg⟩
          have HDn := Lib.hid ((HD.out.keep hg).addr hR)
          clear hR hg
          clear HD
          have HD := HDn
          clear HDn
          refine hK.out _ _ (fun _ => Lib.hid HD.out.s.sb) (fun hH2 => ?_)
          clear hK Kz hHeld
          have hHeld := hH2 rfl
          clear hH2
          (try simp only [Act.put, List.setIfInBounds_toArray, List.set_cons_zero, List.set_cons_succ])
          refine anyU_ready (rs := [11]) (by kernel_rfl) (by simp) ?_
          refine EachU.cons (o := { dst := some 74, op := Op.call { callee := Callee.value (Operand.func 22), args := #[Operand.tmp 73, Operand.const (Value.int IntKind.i64 4)], argTypes := #[27, 3] }, type := 3, pos := "law.go:107", after := #[{ on := 10, ground := Ground.data }, { on := 9, ground := Ground.chain }], guard := none }) rfl (fun Kz hK => ?_) EachU.nil
          go_simp
          go_at_call 22
          refine (next_any _ 4 (by unfold I64; omega) _ HD.out.s.t.tp).mono ?_
          rintro e w5 ⟨x3, rfl, hx, hs⟩
          have hx3 : 0 ≤ x3 ∧ x3 < 4 := by have h1 := hx.1; have h2 := hx.2.1 (by decide); omega
          clear hx
          have HDn := Lib.hid (HD.out.tape hs)
          clear hs
          clear HD
          have HD := HDn
          clear HDn
          refine hK.out _ _ (fun _ => Lib.hid HD.out.s.sb) (fun hH2 => ?_)
          clear hK Kz hHeld
          have hHeld := hH2 rfl
          clear hH2
          (try simp only [Act.put, List.setIfInBounds_toArray, List.set_cons_zero, List.set_cons_succ])
          refine anyU_ready (rs := [12]) (by kernel_rfl) (by simp) ?_
          refine EachU.cons (o := { dst := some 75, op := Op.call { callee := Callee.value (Operand.func 24), args := #[Operand.tmp 72, Operand.tmp 74, Operand.const (Value.int IntKind.i64 2)], argTypes := #[47, 3, 3] }, type := 47, pos := "law.go:107", after := #[{ on := 9, ground := Ground.data }, { on := 11, ground := Ground.data }, { on := 11, ground := Ground.chain }], guard := none }) rfl (fun Kz hK => ?_) EachU.nil
          go_simp
          obtain ⟨B3, hB3⟩ : ∃ X, X = B2 ++ nb x3.toNat 2 := ⟨_, rfl⟩
          have hl3 : B3.length ≤ B2.length + 2 := by rw [hB3, List.length_append, nb_len]; omega
          have HB3 := Lib.hid hB3
          clear hB3
          go_at_call 24
          refine (lput_next w.heap.size x3 2 HB3.out (by omega) (by omega) (by decide) (by decide) (by omega) HD.out.s.lt (HD.out.r (B2, p2, c2) (by simp))).mono ?_
          rintro e w5 ⟨p3, c3, rfl, hR, hg⟩
          have HDn := Lib.hid ((HD.out.keep hg).addr hR)
          clear hR hg
          clear HD
          have HD := HDn
          clear HDn
          refine hK.out _ _ (fun _ => Lib.hid HD.out.s.sb) (fun hH2 => ?_)
          clear hK Kz hHeld
          have hHeld := hH2 rfl
          clear hH2
          (try simp only [Act.put, List.setIfInBounds_toArray, List.set_cons_zero, List.set_cons_succ])
        rotate_left 1
        focus
          go_simp
          have HDn := Lib.hid (HD.out.ints 512 [1, 0, 256, 257] #[.int .i64 (1), .int .i64 (0), .int .i64 (256), .int .i64 (257)] (by intro x hx; simp at hx; unfold lim; omega) rfl)
          clear HD
          have HD := HDn
          clear HDn
          refine hK.out _ _ (fun _ => Lib.hid HD.out.s.sb) (fun hH2 => ?_)
          clear hK Kz hHeld
          have hHeld := hH2 rfl
          clear hH2
          (try simp only [Act.put, List.setIfInBounds_toArray, List.set_cons_zero, List.set_cons_succ])
          refine anyU_ready (rs := [3]) (by kernel_rfl) (by simp) ?_
          refine EachU.cons (o := { dst := some 66, op := Op.buildSlice 22 3 #[(0, Operand.tmp 65), (1, Operand.const (Value.int IntKind.i64 0)), (2, Operand.const (Value.int IntKind.i64 7))], type := 22, pos := "law.go:107", after := #[{ on := 2, ground := Ground.data }], guard := none }) rfl (fun Kz hK => ?_) EachU.nil
          go_simp
          have HDn := Lib.hid (HD.out.ints 8 [(k : Int), 0, 7] #[.int .i64 ((k : Int)), .int .i64 (0), .int .i64 (7)] (by intro x hx; simp at hx; unfold lim; omega) rfl)
          clear HD
          have HD := HDn
          clear HDn
          refine hK.out _ _ (fun _ => Lib.hid HD.out.s.sb) (fun hH2 => ?_)
          clear hK Kz hHeld
          have hHeld := hH2 rfl
          clear hH2
          (try simp only [Act.put, List.setIfInBounds_toArray, List.set_cons_zero, List.set_cons_succ])
          refine anyU_ready (rs := [4]) (by kernel_rfl) (by simp) ?_
          refine EachU.cons (o := { dst := some 67, op := Op.call { callee := Callee.value (Operand.func 25), args := #[Operand.tmp 64, Operand.tmp 66], argTypes := #[27, 22] }, type := 3, pos := "law.go:107", after := #[{ on := 1, ground := Ground.data }, { on := 3, ground := Ground.data }], guard := none }) rfl (fun Kz hK => ?_) EachU.nil
          go_simp
          go_at_call 25
          refine (pick_any (lim 8) _ _ 0 3 3 (by omega) (by omega) _ HD.out.s.t.tp (HD.out.m (8, _, 3) (by simp))).mono ?_
          rintro e w5 ⟨x1, rfl, hx1, hs⟩
          unfold lim at hx1
          have HDn := Lib.hid (HD.out.tape hs)
          clear hs
          clear HD
          have HD := HDn
          clear HDn
          refine hK.out _ _ (fun _ => Lib.hid HD.out.s.sb) (fun hH2 => ?_)
          clear hK Kz hHeld
          have hHeld := hH2 rfl
          clear hH2
          (try simp only [Act.put, List.setIfInBounds_toArray, List.set_cons_zero, List.set_cons_succ])
          refine anyU_ready (rs := [5]) (by kernel_rfl) (by simp) ?_
          refine EachU.cons (o := { dst := some 68, op := Op.call { callee := Callee.value (Operand.func 24), args := #[Operand.tmp 63, Operand.tmp 67, Operand.const (Value.int IntKind.i64 3)], argTypes := #[47, 3, 3] }, type := 47, pos := "law.go:107", after := #[{ on := 0, ground := Ground.data }, { on := 4, ground := Ground.data }, { on := 4, ground := Ground.chain }], guard := none }) rfl (fun Kz hK => ?_) EachU.nil
          go_simp
          obtain ⟨B1, hB1⟩ : ∃ X, X = B ++ nb x1.toNat 3 := ⟨_, rfl⟩
          have hl1 : B1.length ≤ B.length + 3 := by rw [hB1, List.length_append, nb_len]; omega
          have HB1 := Lib.hid hB1
          clear hB1
          go_at_call 24
          refine (lput_next w.heap.size x1 3 HB1.out (by omega) (by omega) (by decide) (by decide) (by omega) HD.out.s.lt (HD.out.s.br)).mono ?_
          rintro e w5 ⟨p1, c1, rfl, hR, hg⟩
          have HDn := Lib.hid ((HD.out.keep hg).addr hR)
          clear hR hg
          clear HD
          have HD := HDn
          clear HDn
          refine hK.out _ _ (fun _ => Lib.hid HD.out.s.sb) (fun hH2 => ?_)
          clear hK Kz hHeld
          have hHeld := hH2 rfl
          clear hH2
          (try simp only [Act.put, List.setIfInBounds_toArray, List.set_cons_zero, List.set_cons_succ])
          refine anyU_ready (rs := [8]) (by kernel_rfl) (by simp) ?_
          refine EachU.cons (o := { dst := some 71, op := Op.call { callee := Callee.value (Operand.func 25), args := #[Operand.tmp 69, Operand.tmp 70], argTypes := #[27, 22] }, type := 3, pos := "law.go:107", after := #[{ on := 6, ground := Ground.data }, { on := 7, ground := Ground.data }, { on := 5, ground := Ground.chain }], guard := none }) rfl (fun Kz hK => ?_) EachU.nil
          go_simp
          go_at_call 25
          refine (pick_any (lim 512) _ _ 0 4 4 (by omega) (by omega) _ HD.out.s.t.tp (HD.out.m (512, _, 4) (by simp))).mono ?_
          rintro e w5 ⟨x2, rfl, hx2, hs⟩
          unfold lim at hx2
          have HDn := Lib.hid (HD.out.tape hs)
          clear hs
          clear HD
          have HD := HDn
          clear HDn
          refine hK.out _ _ (fun _ => Lib.hid HD.out.s.sb) (fun hH2 => ?_)
          clear hK Kz hHeld
          have hHeld := hH2 rfl
          clear hH2
          (try simp only [Act.put, List.setIfInBounds_toArray, List.set_cons_zero, List.set_cons_succ])
          refine anyU_ready (rs := [9]) (by kernel_rfl) (by simp) ?_
          refine EachU.cons (o := { dst := some 72, op := Op.call { callee := Callee.value (Operand.func 24), args := #[Operand.tmp 68, Operand.tmp 71, Operand.const (Value.int IntKind.i64 9)], argTypes := #[47, 3, 3] }, type := 47, pos := "law.go:107", after := #[{ on := 5, ground := Ground.data }, { on := 8, ground := Ground.data }, { on := 8, ground := Ground.chain }], guard := none }) rfl (fun Kz hK => ?_) EachU.nil
          go_simp
          obtain ⟨B2, hB2⟩ : ∃ X, X = B1 ++ nb x2.toNat 9 := ⟨_, rfl⟩
          have hl2 : B2.length ≤ B1.length + 9 := by rw [hB2, List.length_append, nb_len]; omega
          have HB2 := Lib.hid hB2
          clear hB2
          go_at_call 24
          refine (lput_next w.heap.size x2 9 HB2.out (by omega) (by omega) (by decide) (by decide) (by omega) HD.out.s.lt (HD.out.r (B1, p1, c1) (by simp))).mono ?_
          rintro e w5 ⟨p2, c2, rfl, hR, hg⟩
          have HDn := Lib.hid ((HD.out.keep hg).addr hR)
          clear hR hg
          clear HD
          have HD := HDn
          clear HDn
          refine hK.out _ _ (fun _ => Lib.hid HD.out.s.sb) (fun hH2 => ?_)
          clear hK Kz hHeld
          have hHeld := hH2 rfl
          clear hH2
          (try simp only [Act.put, List.setIfInBounds_toArray, List.set_cons_zero, List.set_cons_succ])
          refine anyU_ready (rs := [11]) (by kernel_rfl) (by simp) ?_
          refine EachU.cons (o := { dst := some 74, op := Op.call { callee := Callee.value (Operand.func 22), args := #[Operand.tmp 73, Operand.const (Value.int IntKind.i64 4)], argTypes := #[27, 3] }, type := 3, pos := "law.go:107", after := #[{ on := 10, ground := Ground.data }, { on := 9, ground := Ground.chain }], guard := none }) rfl (fun Kz hK => ?_) EachU.nil
          go_simp
          go_at_call 22
          refine (next_any _ 4 (by unfold I64; omega) _ HD.out.s.t.tp).mono ?_
          rintro e w5 ⟨x3, rfl, hx, hs⟩
          have hx3 : 0 ≤ x3 ∧ x3 < 4 := by have h1 := hx.1; have h2 := hx.2.1 (by decide); omega
          clear hx
          have HDn := Lib.hid (HD.out.tape hs)
          clear hs
          clear HD
          have HD := HDn
          clear HDn
          refine hK.out _ _ (fun _ => Lib.hid HD.out.s.sb) (fun hH2 => ?_)
          clear hK Kz hHeld
          have hHeld := hH2 rfl
          clear hH2
          (try simp only [Act.put, List.setIfInBounds_toArray, List.set_cons_zero, List.set_cons_succ])
          refine anyU_ready (rs := [12]) (by kernel_rfl) (by simp) ?_
          refine EachU.cons (o := { dst := some 75, op := Op.call { callee := Callee.value (Operand.func 24), args := #[Operand.tmp 72, Operand.tmp 74, Operand.const (Value.int IntKind.i64 2)], argTypes := #[47, 3, 3] }, type := 47, pos := "law.go:107", after := #[{ on := 9, ground := Ground.data }, { on := 11, ground := Ground.data }, { on := 11, ground := Ground.chain }], guard := none }) rfl (fun Kz hK => ?_) EachU.nil
          go_simp
          obtain ⟨B3, hB3⟩ : ∃ X, X = B2 ++ nb x3.toNat 2 := ⟨_, rfl⟩
          have hl3 : B3.length ≤ B2.length + 2 := by rw [hB3, List.length_append, nb_len]; omega
          have HB3 := Lib.hid hB3
          clear hB3
          go_at_call 24
          refine (lput_next w.heap.size x3 2 HB3.out (by omega) (by omega) (by decide) (by decide) (by omega) HD.out.s.lt (HD.out.r (B2, p2, c2) (by simp))).mono ?_
          rintro e w5 ⟨p3, c3, rfl, hR, hg⟩
          have HDn := Lib.hid ((HD.out.keep hg).addr hR)
          clear hR hg
          clear HD
          have HD := HDn
          clear HDn
          refine hK.out _ _ (fun _ => Lib.hid HD.out.s.sb) (fun hH2 => ?_)
          clear hK Kz hHeld
          have hHeld := hH2 rfl
          clear hH2
          (try simp only [Act.put, List.setIfInBounds_toArray, List.set_cons_zero, List.set_cons_succ])
        rotate_left 1
        all_goals
          refine anyU_ready (rs := [13]) (by kernel_rfl) (by simp) ?_
          refine EachU.cons (o := { dst := none, op := Op.store 47 (Operand.tmp 6) (Operand.tmp 75), type := 0, pos := "law.go:107", after := #[{ on := 12, ground := Ground.data }, { on := 12, ground := Ground.chain }, { on := 0, ground := Ground.phase }, { on := 1, ground := Ground.phase }, { on := 2, ground := Ground.phase }, { on := 3, ground := Ground.phase }, { on := 4, ground := Ground.phase }, { on := 5, ground := Ground.phase }, { on := 6, ground := Ground.phase }, { on := 7, ground := Ground.phase }, { on := 8, ground := Ground.phase }, { on := 9, ground := Ground.phase }, { on := 10, ground := Ground.phase }, { on := 11, ground := Ground.phase }, { on := 12, ground := Ground.phase }], guard := none }) rfl (fun Kz hK => ?_) EachU.nil
          obtain ⟨s0, s1⟩ := row_cells HD.out.s.sb
          have f0 := frozen_of_row _ _ 0 _ _ HD.out.s.sb
          have f1 := frozen_of_row _ _ 1 _ _ HD.out.s.sb
          have HE := Lib.hid (fs_put HD.out.s (HD.out.r (B3, p3, c3) (by simp)))
          go_simp
          refine hK.out _ _ (fun h => by cases h) (fun _ => ?_)
          clear hK Kz
          (try simp only [Act.put, List.setIfInBounds_toArray, List.set_cons_zero, List.set_cons_succ])
          refine anyU_done (by kernel_rfl) ?_ _
          obtain ⟨v3, rfl⟩ := Int.eq_ofNat_of_zero_le hx3.1
          have hcv := code_pow v3 (by omega)
          have HQ : Hid (B3 = B5 ++ (C ++ [(⟨x1, x2, ((8 * 2 ^ v3 : Nat) : Int)⟩ : T3)]).flatMap encK) := Lib.hid (by rw [HB3.out, HB2.out, HB1.out, HBC.out, List.flatMap_append]; simp only [encK, List.flatMap_cons, List.flatMap_nil, List.append_nil, List.append_assoc, hcv.1, Int.toNat_natCast])
          have HF : Hid (∀ x ∈ C ++ [(⟨x1, x2, ((8 * 2 ^ v3 : Nat) : Int)⟩ : T3)], (0 ≤ x.a ∧ x.a < 8) ∧ (0 ≤ x.b ∧ x.b < 512) ∧ (x.c = 8 ∨ x.c = 16 ∨ x.c = 32 ∨ x.c = 64)) := Lib.hid (snoc_all HFC.out ⟨hx1, hx2, hcv.2⟩)
          clear hcv
          clear hHeld HD HB1 HB2 HB3 s0 s1 f0 f1
          go_wp2_with fail
          exact ⟨⟨k + 1, by omega, congrArg _ (by omega), _, B3, p3, c3, by rw [List.length_append, hCl]; rfl, HF, HQ, by omega, HE⟩, by simp only [RowKit.intOf]; omega⟩
      · obtain rfl : k = m := by omega
        go_wp2_with fail
        go_meet
        exact ⟨C, B, p, c, hCl, HFC, HBC, hBl2, HK⟩
  case rest =>
  obtain ⟨C, B6, p6, c6, hCl, HFC, HBC, hBl2, HK⟩ := hcut
  clear H14
  obtain ⟨A, hA⟩ : ∃ A : Ad, A = ⟨r, q, decide (y = 1), L, C, none, 0, none, 0⟩ := ⟨_, rfl⟩
  have HFA : Hid (FA A) := Lib.hid (by rw [hA]; exact ⟨hr, hq, by show L.length < 32; omega, by show C.length < 16; omega, HFL.out, HFC.out⟩)
  have HAB : Hid (adB A = B6) := Lib.hid (by
    rw [HBC.out, HB5.out, HBL.out, HB4.out, HB3.out, HB2.out, HB1.out, hA]
    unfold adB cmB mdB lkB hdB
    simp only [List.take_length]
    rw [hLl, hCl]
    rcases (show y = 0 ∨ y = 1 by omega) with rfl | rfl <;> simp [List.append_assoc])
  clear hA HFL HFC HBL HBC HB5 HB4 HB3 HB2 HB1
  have hlB : B6.length ≤ 200 := by omega
  have hck : ck B6 < 65536 := chk_lt _ _
  obtain ⟨z, hz⟩ : ∃ z, ck B6 = z := ⟨_, rfl⟩
  rw [hz] at hck
  obtain ⟨B7, hB7⟩ : ∃ B, B = B6 ++ nb ((z : Nat) : Int).toNat 16 := ⟨_, rfl⟩
  have hl7 : B7.length ≤ 216 := by rw [hB7, List.length_append, nb_len]; omega
  have HB7 := Lib.hid hB7
  have HEN : Hid (encA A = pk B7) := Lib.hid (by unfold encA; rw [HAB.out, hz, hB7]; rfl)
  have HCK := Lib.hid (check_bitsr (B := B6) (w := wc) (by omega) HK.out.br.pc HK.out.br.rd)
  rw [hz] at HCK
  clear hB7 hz
  obtain ⟨s0, s1⟩ := row_cells HK.out.sb
  go_wp2_with fail
  refine HCK.out.mono ?_
  rintro e w14 ⟨rfl, hg⟩
  have H15 := Lib.hid (HK.out.keep hg)
  clear hg HK HCK s0 s1
  obtain ⟨s0, s1⟩ := row_cells H15.out.sb
  go_wp2_with fail
  have hPP := lput_any B6 ((z : Nat) : Int) 16 p6 c6 _ w14 (by omega) (by rw [Int.toNat_natCast]; omega) (by decide) (by decide) (by omega) H15.out.br.pc H15.out.br.rd
  rw [← HB7.out] at hPP
  refine hPP.mono ?_
  rintro e w15 ⟨p7, c7, rfl, hO, hg⟩
  have H16 := Lib.hid (H15.out.keep hg)
  have HO := Lib.hid hO
  have hsz := hg.size
  clear hO hg hPP H15 s0 s1
  go_wp2_with fail
  refine (aligno_any (pk B7) B7.length _ p7 c7 w14.heap.size (pk_by B7) HO.out.pc (pk_vs B7 (by omega)) w15 hsz HO.out (fun _ h => h) (own_rdA HO.out).bound).mono ?_
  rintro e w16 ⟨p8, c8, rfl, hO, hg⟩
  have H17 := Lib.hid (H16.out.keep hg)
  have HO2 := Lib.hid hO
  obtain ⟨_, _, e8, hc8, -⟩ := own_shape hO.own
  have hc8' : (pk B7).length ≤ c8 := by injection e8 with e1 e2 e3; omega
  clear hO hg H16 HO e8 hc8
  obtain ⟨s0, s1⟩ := row_cells H17.out.sb
  have f0 := frozen_of_row _ _ 0 _ _ H17.out.sb
  have f1 := frozen_of_row _ _ 1 _ _ H17.out.sb
  obtain ⟨t1, t2⟩ := store2c (.slice p8 (pk B7).length c8) (.int .i64 (8 * ((pk B7).length : Int))) H17.out.sb
  have hlo := H17.out.lo
  have HT : Hid (_ ∧ w.grownBy _ none ∧ Rd _ (fun _ => True) (.slice p8 (pk B7).length c8) ((pk B7).map nv)) := Lib.hid ⟨t1, grown_new H17.out.t.gr t2 (by omega), ((rd_off2 (own_rdA HO2.out) H17.out.sb).grown t2 (fun b hb e => hb.2 (Option.some.inj e))).mono (fun _ _ => trivial)⟩
  go_upto_region 15 with fail
  clear s0 s1 f0 f1 t1 t2 H17 HO2
  generalize (w16.setCell _ _).setCell _ _ = w17 at *
  have hln : (pk B7).length ≤ 100 := by rw [pk_len]; omega
  obtain ⟨l, hl⟩ : ∃ l, pk B7 = l := ⟨_, rfl⟩
  have hb : By l := by rw [← hl]; exact pk_by _
  rw [hl] at HT hln hc8' HEN
  have hdE : ∀ v, decE l v = if v = false then 1 else 0 := fun v => by rw [← HEN.out]; exact fnc_decE HFA.out v
  obtain ⟨T, Er, hPD, hRD, hEr⟩ := forged_dec l hb hln hdE p8 c8 hc8'
  have HPD := Lib.hid hPD
  have HRD := Lib.hid hRD
  have HW : Hid (w.grownBy w17 none) := Lib.hid HT.out.2.1
  have HTD := Lib.hid HT.out.1
  have HTR := Lib.hid HT.out.2.2
  clear hl hb hdE hPD hRD HT HFA HAB HEN HB7 hc8'
  obtain ⟨s0, s1⟩ := row_cells HTD.out
  go_wp2_with fail
  refine (HPD.out w17 HTR.out).mono ?_
  rintro e w18 ⟨⟨r1, q1, cp1, L1, C1, pL1, cL1, pC1, cC1⟩, rfl, hsm, hO, hg⟩
  obtain ⟨X, hX⟩ : ∃ X : Ad, X = ⟨r1, q1, cp1, L1, C1, pL1, cL1, pC1, cC1⟩ := ⟨_, rfl⟩
  have hV : X.val = .agg #[.int .i64 r1, .int .i64 q1, .bool cp1, .slice pL1 L1.length cL1, .slice pC1 C1.length cC1] := by rw [hX]; rfl
  have HXV := Lib.hid hV
  rw [← hX] at hsm hO ⊢
  rw [hV]
  have kg := World.grownBy_alloc w18 (.cells #[.int .i64 r1, .int .i64 q1, .bool cp1, .slice pL1 L1.length cL1, .slice pC1 C1.length cC1] 26) none
  have H20 := Lib.hid (And.intro (kept_row HTD.out (grown_trans hg kg) (by simp)) (And.intro ((HTR.out.bound.grown (grown_trans hg kg) (fun _ _ => by simp)).mono (fun _ _ => trivial)) (And.intro (grown_trans HW.out (grown_trans hg kg)) (And.intro (heap_alloc_new w18 (.cells #[.int .i64 r1, .int .i64 q1, .bool cp1, .slice pL1 L1.length cL1, .slice pC1 C1.length cC1] 26)) (hO.keep kg)))))
  have HSX := Lib.hid hsm
  clear hX hV hsm hO hg kg s0 s1 HTD HTR HW HPD
  go_upto_region 16 with fail
  generalize w18.alloc _ = w19 at *
  generalize w18.heap.size = G1 at *
  obtain ⟨s0, s1⟩ := row_cells H20.out.1
  go_wp2_with fail
  refine (HRD.out w19 H20.out.2.1).mono ?_
  rintro e w20 ⟨⟨r2, q2, cp2, L2, C2, pL2, cL2, pC2, cC2⟩, rfl, hsm, hO, hg⟩
  obtain ⟨Y, hY⟩ : ∃ Y : Ad, Y = ⟨r2, q2, cp2, L2, C2, pL2, cL2, pC2, cC2⟩ := ⟨_, rfl⟩
  have hV : Y.val = .agg #[.int .i64 r2, .int .i64 q2, .bool cp2, .slice pL2 L2.length cL2, .slice pC2 C2.length cC2] := by rw [hY]; rfl
  have HYV := Lib.hid hV
  rw [← hY] at hsm hO ⊢
  rw [hV]
  have kg := World.grownBy_alloc w20 (.cells #[.int .i64 r2, .int .i64 q2, .bool cp2, .slice pL2 L2.length cL2, .slice pC2 C2.length cC2] 26) none
  have H22 := Lib.hid (And.intro (grown_trans H20.out.2.2.1 (grown_trans hg kg)) (And.intro (kept_row H20.out.2.2.2.1 (grown_trans hg kg) (by simp)) (And.intro (H20.out.2.2.2.2.keep (grown_trans hg kg)) (And.intro (heap_alloc_new w20 (.cells #[.int .i64 r2, .int .i64 q2, .bool cp2, .slice pL2 L2.length cL2, .slice pC2 C2.length cC2] 26)) (hO.keep kg)))))
  have HSY := Lib.hid hsm
  clear hY hV hsm hO hg kg s0 s1 H20 HRD
  go_upto_region 17 with fail
  generalize w20.alloc _ = w21 at *
  generalize w20.heap.size = G2 at *
  obtain ⟨c0, c1', c2', c3', c4'⟩ := row5 H22.out.2.1
  obtain ⟨d0, d1, d2, d3, d4⟩ := row5 H22.out.2.2.2.1
  have hSS : smA X Y := ⟨HSX.out.1.trans HSY.out.1.symm, HSX.out.2.1.trans HSY.out.2.1.symm, HSX.out.2.2.1.trans HSY.out.2.2.1.symm, HSX.out.2.2.2.1.trans HSY.out.2.2.2.1.symm, HSX.out.2.2.2.2.trans HSY.out.2.2.2.2.symm⟩
  have hS := rsame_any X Y _ _ w21 H22.out.2.2.1 H22.out.2.2.2.2
  rw [HXV.out, HYV.out, decide_eq_true (cmpA_zero.2 hSS)] at hS
  have HS := Lib.hid hS
  clear hS hSS
  rcases hEr with rfl | rfl
  · go_wp2_with fail
    refine HS.out.mono ?_
    rintro e w22 ⟨rfl, hg⟩
    have H23 := Lib.hid (grown_trans H22.out.1 hg)
    clear hg H22 HS c0 c1' c2' c3' c4' d0 d1 d2 d3 d4
    go_wp2_with fail
    refine (aawake_any _ (HTB.out.keep H23.out)).mono ?_
    rintro e w23 ⟨rfl, hg⟩
    have HF := Lib.hid (grown_trans H23.out hg)
    clear hg H23
    go_wp2_with fail
    go_ret
    exact ⟨rfl, HF.out⟩
  · go_wp2_with fail
    refine HS.out.mono ?_
    rintro e w22 ⟨rfl, hg⟩
    have H23 := Lib.hid (grown_trans H22.out.1 hg)
    clear hg H22 HS c0 c1' c2' c3' c4' d0 d1 d2 d3 d4
    go_wp2_with fail
    refine (aawake_any _ (HTB.out.keep H23.out)).mono ?_
    rintro e w23 ⟨rfl, hg⟩
    have HF := Lib.hid (grown_trans H23.out hg)
    clear hg H23
    go_wp2_with fail
    go_ret
    exact ⟨rfl, HF.out⟩
end Go.Proofs.YtpoocenooomghaaDoor

/- Parts of the proof, packed: StAwake, StPuK, StPuLaw. -/
import Derived.Test.YtpabfjhjehjebaaDoorSPsh10
import Derived.Test.YtpabfjhjehjebaaDoorSPsh14
import Derived.Test.YtpabfjhjehjebaaDoorSPsh19
import Derived.Test.YtpabfjhjehjebaaDoorSPsh7
import Derived.Test.YtpabfjhjehjebaaDoorSPsh9
import Derived.Test.YtpabfjhjehjebaaDoorSPsh18
import Derived.Test.YtpabfjhjehjebaaDoorSPsh15
import Derived.Test.YtpabfjhjehjebaaDoorSPsh2
import Derived.Deep.CutRange
/- stack: the chapter's example. -/
namespace Go.Proofs.YtpabfjhjehjebaaDoor
open Go.RowKit Bs
def exLs : List Lab := [⟨17, 0, 255⟩, ⟨20, 0, 255⟩]
set_option maxRecDepth 100000 in
theorem exE : encE exLs = 0 := by decide
set_option maxRecDepth 100000 in
theorem exB : encB exLs = [0, 1, 16, 255, 0, 1, 65, 255] := by decide
set_option maxRecDepth 100000 in
theorem exF : encF [1, 4] exP = [1, 0, 1, 16, 255, 0, 1, 65, 255, 144, 0, 0, 0, 0, 0, 0, 109, 76, 0] := by
  unfold encF
  rw [if_neg (by decide), ex_enc]
  decide
set_option maxRecDepth 100000 in
theorem exVF : vfr [1, 4] exP = true := by
  unfold vfr
  rw [ex_valid]
  decide
set_option maxRecDepth 100000 in
theorem exDF : decF [1, 0, 1, 16, 255, 0, 1, 65, 255, 144, 0, 0, 0, 0, 0, 0, 109, 76, 0] = ([1, 4], pcells exP, 0) := by
  rw [← exF]
  exact dec_encF ex_wf exVF
set_option maxRecDepth 100000 in
theorem own_room {w : World} {base c : Nat} {p : Option Addr} {l : List Nat} (h : Own w base p c l) : l.length ≤ c ∧ c ≤ 9223372036854775807 := by
  rcases Nat.eq_zero_or_pos l.length with h0 | h0
  · rcases Joins.ownsRow_forms h.own with ⟨e, _⟩ | ⟨g, cap, e⟩
    · injection e with _ _ e3
      subst e3
      omega
    · injection e with e1 e2 e3
      subst e1
      subst e3
      exact own_cap h.own
  · obtain ⟨g, cap, e⟩ := Joins.ownsRow_form h.own h0
    injection e with e1 e2 e3
    subst e1
    subst e3
    exact own_cap h.own
set_option maxRecDepth 100000 in
theorem exBS : bs [0, 1, 16, 255, 0, 1, 65, 255] = ⟨#[0, 1, 16, 255, 0, 1, 65, 255]⟩ := by rfl
set_option maxRecDepth 100000 in
set_option maxHeartbeats 3200000 in
theorem sawake_any (w : World) (hT : Tb w) :
    Calls Tryd.prog 12 #[] w fun e w' => e = .returned (.bool true) ∧ w.grownBy w' none := by
  have HT := Lib.hid hT
  clear hT
  go_enter Tryd.func12, Tryd.ntmps12
  go_wp2_with fail
  obtain ⟨k1, k2⟩ := sone_box w #[.int .i64 17, .int .i64 0, .int .i64 255, .int .i64 20, .int .i64 0, .int .i64 255] 55
  have hrow : Row (w.alloc (.cells #[.int .i64 17, .int .i64 0, .int .i64 255, .int .i64 20, .int .i64 0, .int .i64 255] 55)) w.heap.size 55 (labsC exLs) := k1
  have C : Calls Tryd.prog 35 #[.slice (some ⟨w.heap.size, 0, none⟩) 2 2] (w.alloc (.cells #[.int .i64 17, .int .i64 0, .int .i64 255, .int .i64 20, .int .i64 0, .int .i64 255] 55)) fun e w' => ELPost exLs _ e w' :=
    sencl_any exLs _ 2 _ _ (hrow.rd 2 2)
  refine C.mono ?_
  clear C hrow k1
  rintro e w1 ⟨p1, c1, rfl, hO, hg⟩
  rw [exB] at hO ⊢
  rw [exE]
  have H1 := Lib.hid (And.intro hO (grown_trans k2 hg))
  have HT1 := Lib.hid (HT.out.keep (grown_trans k2 hg))
  clear hO hg k2
  go_wp2_with fail
  obtain ⟨k1, k2, k3, k4⟩ := two_boxes w1 #[.int .i64 1, .int .i64 4] #[.slice (some ⟨w1.heap.size, 0, none⟩) 2 2, .int .i64 1, .int .i64 0, .int .i64 0, .int .i64 8, .int .i64 0, .int .i64 0, .int .i64 0, .int .i64 0, .int .u64 0, .string ⟨#[]⟩] 3 33
  have G2 : Hid (w.grownBy ((w1.alloc (.cells #[.int .i64 1, .int .i64 4] 3)).alloc (.cells #[.slice (some ⟨w1.heap.size, 0, none⟩) 2 2, .int .i64 1, .int .i64 0, .int .i64 0, .int .i64 8, .int .i64 0, .int .i64 0, .int .i64 0, .int .i64 0, .int .u64 0, .string ⟨#[]⟩] 33)) none) := Lib.hid (grown_trans H1.out.2 k3)
  have HK := Lib.hid (And.intro k1 k2)
  have HT2 := Lib.hid (HT1.out.keep k3)
  have HO2 := Lib.hid (H1.out.1.keep k3)
  clear k1 k2 k3 k4 HT1 H1
  generalize (w1.alloc _).alloc _ = w2 at *
  have hrt : Row w2 w1.heap.size 3 (([1, 4] : List Int).map iv) := HK.out.1
  have hRd : Rd w2 (fun _ => True) (.slice (some ⟨w1.heap.size, 0, none⟩) 2 2) (([1, 4] : List Int).map iv) := ⟨_, 2, rfl, fun _ => ⟨w1.heap.size, 0, rfl, trivial, fun i x hi => by rw [Nat.zero_add]; exact hrt.cell hi⟩⟩
  have HRd := Lib.hid hRd
  have C : Calls Tryd.prog 36 #[.agg #[.slice (some ⟨w1.heap.size, 0, none⟩) 2 2, .int .i64 1, .int .i64 0, .int .i64 0, .int .i64 8, .int .i64 0, .int .i64 0, .int .i64 0, .int .i64 0, .int .u64 0, .string ⟨#[]⟩]] w2 fun e w' => EFPost [1, 4] exP w2 e w' :=
    sencf_any [1, 4] exP ex_wf (some ⟨w1.heap.size, 0, none⟩) 2 (by decide) (by omega) _ w2 HT2.out hRd
  clear hrt hRd
  refine C.mono ?_
  clear C
  intro e w3 hE
  rcases hE with ⟨-, p3, c3, rfl, hO3, hg3⟩ | ⟨hbad, _⟩
  case inr => rw [exVF] at hbad; cases hbad
  rw [exF] at hO3 ⊢
  have G3 := Lib.hid (grown_trans G2.out hg3)
  have HB3 := Lib.hid (kept_row HK.out.2 hg3 (by simp))
  have HO4 := Lib.hid (HO2.out.keep hg3)
  have HRd3 := Lib.hid (HRd.out.keep hg3)
  have HO3 := Lib.hid hO3
  clear hO3 hg3 HO2 HRd HK HT2 G2
  go_wp2_with fail
  have D : Calls Tryd.prog 9 #[.slice p3 19 c3] w3 fun e w' => DFPost [1, 0, 1, 16, 255, 0, 1, 65, 255, 144, 0, 0, 0, 0, 0, 0, 109, 76, 0] w3 e w' :=
    sdecf_any _ HO3.out.by_ p3 c3 (own_room HO3.out).1 (own_room HO3.out).2 _ w3 HO3.out.rd
  refine D.mono ?_
  clear D
  rintro e w4 ⟨p4, c4, rfl, hR4, hl4, hm4, hp4, hg4⟩
  rw [exDF] at hR4 hl4 ⊢
  simp only at hR4 hl4 ⊢
  have hag : #[Value.slice p4 ([1, 4] : List Int).length c4] ++ pcells exP = #[.slice p4 2 c4, .int .i64 1, .int .i64 0, .int .i64 0, .int .i64 8, .int .i64 0, .int .i64 0, .int .i64 0, .int .i64 0, .int .u64 0, .string ⟨#[]⟩] := rfl
  rw [hag]
  have G4 := Lib.hid (grown_trans G3.out hg4)
  have HB4 := Lib.hid (kept_row HB3.out hg4 (by simp))
  have HO5 := Lib.hid (HO4.out.keep hg4)
  have HRd4 := Lib.hid (HRd3.out.keep hg4)
  have HR4 := Lib.hid hR4
  clear hR4 hg4 HO4 HRd3 HB3 G3 hag HO3 hl4 hm4 hp4
  go_upto_region 5 with fail
  obtain ⟨k1, k2⟩ := sone_box w4 #[.slice p4 2 c4, .int .i64 1, .int .i64 0, .int .i64 0, .int .i64 8, .int .i64 0, .int .i64 0, .int .i64 0, .int .i64 0, .int .u64 0, .string ⟨#[]⟩] 33
  obtain ⟨a0, a1, a2, a3, a4, a5, a6, a7, a8, a9, a10⟩ := g_facts (n0 := 1) (n1 := 0) (n2 := 0) (n3 := 8) (n4 := 0) (n5 := 0) (n6 := 0) (n7 := 0) (n8 := 0) (s9 := ⟨#[]⟩) (kept_row HB4.out k2 (by simp))
  obtain ⟨b0, b1, b2, b3, b4, b5, b6, b7, b8, b9, b10⟩ := g_facts (n0 := 1) (n1 := 0) (n2 := 0) (n3 := 8) (n4 := 0) (n5 := 0) (n6 := 0) (n7 := 0) (n8 := 0) (s9 := ⟨#[]⟩) k1
  have hO := HO5.out.keep k2
  have E := conv_nv hO.by_ rfl hO.rd hO.pc
  rw [exBS] at E
  have G5 := Lib.hid (grown_trans G4.out k2)
  have HA := Lib.hid (HRd4.out.keep k2)
  have HB := Lib.hid (HR4.out.keep k2)
  clear k1 k2 hO HO5 HB4 HRd4 HR4 G4
  generalize w4.alloc _ = w5 at *
  have E2 : (convert 23 9 (.slice p1 8 c1)).run Tryd.prog w5 = .ok (.string ⟨#[0, 1, 16, 255, 0, 1, 65, 255]⟩) w5 := E
  clear E
  go_wp2_with (go_at_call 11; refine (rsame_any [1, 4] _ _ _ _ _ _ _ _ _ _ _ _ _ _ _ _ w5 HA.out HB.out (by decide)).mono ?_; rintro e w' ⟨rfl, hg⟩; have G := Lib.hid hg; clear hg)
  go_ret
  exact ⟨rfl, grown_trans G5.out G.out⟩
end Go.Proofs.YtpabfjhjehjebaaDoor

/- StackPushes: what the walk wants. -/
namespace Go.Proofs.YtpabfjhjehjebaaDoor
open Go.RowKit Bs
def zval (z : Int) : Value := .int .i64 z
def IntsRel (a most : Nat) (w : World) (v : Value) (k : Nat) (wr : World) : Prop :=
  ∃ l : List Int, l.length + k ≤ most ∧ wr.ownsRow w.heap.size 3 1 v l.length (l.map zval) ∧ St a w wr
theorem IntsRel.open_ {a most k : Nat} {w wr : World} {v : Value} (h : IntsRel a most w v k wr) : ∃ l : List Int, l.length + k ≤ most ∧ wr.ownsRow w.heap.size 3 1 v l.length (l.map zval) ∧ St a w wr := h
def IntsPost (a most : Nat) (w : World) (e : Ending) (w' : World) : Prop := ∃ v, e = .returned v ∧ IntsRel a most w v 0 w'
set_option maxRecDepth 100000 in
set_option maxHeartbeats 1600000 in
theorem ints_any (a : Nat) (most : Nat) (low high : Int) (hm : most ≤ 1000) (h1 : -1099511627776 ≤ low) (h2 : low ≤ 1099511627776) (h3 : -1099511627776 ≤ high) (h4 : high ≤ 1099511627776) (w : World) (hT : Tp w a) :
    Calls Tryd.prog 13 #[.pointer (some ⟨a, 0, none⟩), .int .i64 (most : Int), .int .i64 low, .int .i64 high] w fun e w' => IntsPost a most w e w' := by
  obtain ⟨i0, hi, hz0, hz1, hz2⟩ := info_parts info_int
  have ha := hT.lt
  go_enter Tryd.func13, Tryd.ntmps13
  go_wp2_with fail
  refine (range_any a 0 (most : Int) (by omega) (by omega) (by omega) (by omega) _ hT).mono ?_
  rintro e w1 ⟨r, rfl, hr, hs1⟩
  obtain ⟨K, rfl⟩ := Int.eq_ofNat_of_zero_le hr.1
  have hK : K ≤ most := by unfold RangeOf at hr; omega
  have L0 : Hid (IntsRel a most w (.slice none 0 0) K w1) := Lib.hid ⟨[], by simpa using hK, World.ownsRow_nil _ _ _ _, hs1⟩
  clear hr hs1
  go_wp2_with fail
  go_loopw [9, 10] (fun v i wr => ∃ k : Nat, k ≤ most ∧ i = .int .i64 (k : Int) ∧ IntsRel a most w v k wr) (fun _ i _ => (intOf i).toNat)
  case atStart => exact ⟨K, hK, rfl, L0.out⟩
  case round =>
    obtain ⟨k, hk, rfl, hL⟩ := hrel
    by_cases hk1 : 1 ≤ k
    · obtain ⟨l, hlk, hown0, hs⟩ := hL.open_
      clear hL L0
      go_wp2_with fail
      refine (range_any a low high h1 h2 h3 h4 _ hs.2).mono ?_
      rintro e w2 ⟨x, rfl, hx, hs2⟩
      have hown := own_kept ha hown0 hs2.1
      have HS := Lib.hid (hs.trans hs2)
      have HO := Lib.hid hown
      have hsz := HS.out.1.size
      have hll : l.length ≤ 1000 := by omega
      have HLK := Lib.hid hlk
      clear hx hs hs2 hown0
      go_wp2_with (at_builtin; refine wpList_append_own _ rfl _ _ 22 rfl w.heap.size 3 i0 (.int .i64 0) 1 8 Tryd.underlying22 hi hz0 hz1 hz2 rfl (by decide) _ _ _ rfl (hown.alloc _) ⟨w2.heap.size, 0, none⟩ 1 1 [.int .i64 x] rfl rfl ?c1 ?c2 ?c3 ?c4 ?c5 ?_)
      case c1 => exact cell_one _ _ _
      case c2 => intro u hu; simp at hu; subst hu; rfl
      case c3 => unfold maxLen; omega
      case c4 => omega
      case c5 => simp; omega
      intro v' w3 hown' hg _
      have R : Hid (IntsRel a most w v' (k - 1) w3) := by
        have e1 := st_append HS.out ha HO.out hg
        exact Lib.hid ⟨l ++ [x], by rw [List.length_append]; have := HLK.out; simp; omega, by rw [List.length_append, List.map_append]; exact hown', e1⟩
      clear hown' hg hown
      go_wp2_with fail
      go_roundw
      case rel => exact ⟨k - 1, by omega, by congr 1; omega, R.out⟩
      case measure => simp [intOf]; omega
    · obtain rfl : k = 0 := by omega
      have HL := Lib.hid hL
      clear hL L0
      go_wp2_with fail
      go_ret
      exact ⟨_, rfl, HL.out⟩

/-- The packet of a zero frame. -/
def P0 : Pk := ⟨0, 0, 0, 0, 0, 0, 0, 0, 0, ⟨#[]⟩⟩
theorem P0_wf : P0.Wf := by constructor <;> first | (unfold P0 I64; simp; done) | (unfold P0 U64; simp; done) | exact Nat.zero_le _
theorem push_pk (t r : List Int) {P : Pk} (hP : P.Wf) : ∃ (L : List Int) (Q : Pk) (x : Int), pushV t r P = (L, #[.int .i64 Q.mode, .int .i64 Q.sub, .int .i64 Q.set, .int .i64 Q.len, .int .i64 Q.ttl, .int .i64 Q.ent, .int .i64 Q.ing, .int .i64 Q.pro, .int .u64 (Q.bits : Int), .string Q.pay], x) ∧ Q.Wf ∧ (x = 0 → Q = P ∧ L = t ++ r ∧ vfr r P = true ∧ allR t = true ∧ t.length + r.length ≤ 24 ∧ rep (t ++ r) = false) ∧ L.length ≤ 24 := by
  unfold pushV
  by_cases h1 : vfr r P = false
  · rw [if_pos h1]; exact ⟨[], P0, 1, rfl, P0_wf, (fun h => by cases h), by simp⟩
  · rw [if_neg h1]
    by_cases h2 : allR t = false
    · rw [if_pos h2]; exact ⟨[], P0, 2, rfl, P0_wf, (fun h => by cases h), by simp⟩
    · rw [if_neg h2]
      by_cases h3 : 24 < t.length + r.length
      · rw [if_pos h3]; exact ⟨[], P0, 3, rfl, P0_wf, (fun h => by cases h), by simp⟩
      · rw [if_neg h3]
        by_cases h4 : rep (t ++ r) = true
        · rw [if_pos h4]; exact ⟨[], P0, 5, rfl, P0_wf, (fun h => by cases h), by simp⟩
        · rw [if_neg h4]
          exact ⟨t ++ r, P, 0, rfl, hP, fun _ => ⟨rfl, rfl, by simpa using h1, by simpa using h2, by omega, by simpa using h4⟩, by rw [List.length_append]; omega⟩
theorem pop_pk (r : List Int) {P : Pk} (hP : P.Wf) : ∃ (y : Int) (D : List Int) (Q : Pk) (b : Bool), popV r P = (y, D, #[.int .i64 Q.mode, .int .i64 Q.sub, .int .i64 Q.set, .int .i64 Q.len, .int .i64 Q.ttl, .int .i64 Q.ent, .int .i64 Q.ing, .int .i64 Q.pro, .int .u64 (Q.bits : Int), .string Q.pay], b) ∧ Q.Wf ∧ (vfr r P = true → r.length ≠ 0 → y = r.getD 0 0 ∧ D = r.drop 1 ∧ Q = P ∧ b = true) := by
  unfold popV
  by_cases h1 : vfr r P = true ∧ r.length ≠ 0
  · rw [if_pos h1]; exact ⟨_, _, P, true, rfl, hP, fun _ _ => ⟨rfl, rfl, rfl, rfl⟩⟩
  · rw [if_neg h1]; exact ⟨0, [], P0, false, rfl, P0_wf, fun a b => absurd ⟨a, b⟩ h1⟩
/-- A frame of which a router was put in front is valid. -/
theorem vfr_push {t r : List Int} {P : Pk} (h1 : vfr r P = true) (h2 : allR t = true) (h3 : t.length + r.length ≤ 24) (h4 : rep (t ++ r) = false) : vfr (t ++ r) P = true := by
  obtain ⟨_, a, _, d⟩ := vfr_parts h1
  unfold vfr
  have e : allR (t ++ r) = true := by unfold allR at *; rw [List.all_append, h2, a]; rfl
  rw [e, h4, d, decide_eq_true (by rw [List.length_append]; exact h3)]
  rfl
/-- A frame's box. -/
structure BX (b : Nat) (L : List Int) (Q : Pk) (p : Option Addr) (c : Nat) (w : World) : Prop where
  box : w.heap[b]? = some (.cells (frcells (.slice p L.length c) Q) 33 (0, 0))
  rd : Rd w (fun _ => True) (.slice p L.length c) (L.map iv)
  le : L.length ≤ c ∧ c ≤ 9223372036854775807
  pc : p = none → c = 0
  wf : Q.Wf
theorem BX.keep {b : Nat} {L : List Int} {Q : Pk} {p : Option Addr} {c : Nat} {w w' : World} (h : BX b L Q p c w) (g : w.grownBy w' none) : BX b L Q p c w' := ⟨kept_row h.box g (by simp), h.rd.keep g, h.le, h.pc, h.wf⟩
theorem BX.new {L : List Int} {Q : Pk} {p : Option Addr} {c : Nat} {w : World} (hr : Rd w (fun _ => True) (.slice p L.length c) (L.map iv)) (hl : L.length ≤ c ∧ c ≤ 9223372036854775807) (hn : p = none → c = 0) (wf : Q.Wf) : BX w.heap.size L Q p c (w.alloc (.cells (frcells (.slice p L.length c) Q) 33)) :=
  ⟨heap_alloc_new w _, hr.keep (World.grownBy_alloc w _ none), hl, hn, wf⟩
set_option maxRecDepth 100000 in
/-- What the tape's Frame returns, its cells written out. -/
theorem frame_agg3 (a : Nat) (n : Int) (hn : I64 n) (w : World) (hT : Tp w a) :
    Calls Tryd.prog 7 #[.pointer (some ⟨a, 0, none⟩), .int .i64 n] w fun e w' => ∃ (L : List Int) (Q : Pk) (p : Option Addr) (c : Nat), e = .returned (.agg #[.slice p L.length c, .int .i64 Q.mode, .int .i64 Q.sub, .int .i64 Q.set, .int .i64 Q.len, .int .i64 Q.ttl, .int .i64 Q.ent, .int .i64 Q.ing, .int .i64 Q.pro, .int .u64 (Q.bits : Int), .string Q.pay]) ∧ Q.Wf ∧ (L.length ≤ c ∧ c ≤ 9223372036854775807) ∧ (p = none → c = 0) ∧ L.length ≤ 40 ∧ (∀ w2, w'.grownBy w2 (some a) → Rd w2 (fun _ => True) (.slice p L.length c) (L.map iv)) ∧ St a w w' := by
  refine (frame_any a n hn w hT).mono ?_
  rintro e w' ⟨r, P, p, c, rfl, h1, h0, h2, h3, h4, h6, h5⟩
  have ha := hT.lt
  exact ⟨r, P, p, c, rfl, h1, ⟨h2, h3⟩, h6, h0, fun w2 g => (h4.grown g (fun b hb e => by have := Option.some.inj e; omega)).mono fun _ _ => trivial, h5⟩
set_option maxRecDepth 100000 in
theorem spush_agg {b : Nat} {t r : List Int} {P : Pk} {pt p : Option Addr} {ct c : Nat} {w : World} (h : BX b r P p c w) (ht : t.length ≤ 1000) (hct : t.length ≤ ct ∧ ct ≤ 9223372036854775807) (hnt : pt = none → ct = 0) (hRt : Rd w (fun _ => True) (.slice pt t.length ct) (t.map iv)) {L : List Int} {Q : Pk} {x : Int} (hV : pushV t r P = (L, #[.int .i64 Q.mode, .int .i64 Q.sub, .int .i64 Q.set, .int .i64 Q.len, .int .i64 Q.ttl, .int .i64 Q.ent, .int .i64 Q.ing, .int .i64 Q.pro, .int .u64 (Q.bits : Int), .string Q.pay], x)) :
    Calls Tryd.prog 16 #[.agg #[.slice p r.length c, .int .i64 P.mode, .int .i64 P.sub, .int .i64 P.set, .int .i64 P.len, .int .i64 P.ttl, .int .i64 P.ent, .int .i64 P.ing, .int .i64 P.pro, .int .u64 (P.bits : Int), .string P.pay], .slice pt t.length ct] w fun e w' => ∃ p' c', e = .returned (.tuple #[.agg #[.slice p' L.length c', .int .i64 Q.mode, .int .i64 Q.sub, .int .i64 Q.set, .int .i64 Q.len, .int .i64 Q.ttl, .int .i64 Q.ent, .int .i64 Q.ing, .int .i64 Q.pro, .int .u64 (Q.bits : Int), .string Q.pay], .int .i64 x]) ∧ Rd w' (fun _ => True) (.slice p' L.length c') (L.map iv) ∧ (L.length ≤ c' ∧ c' ≤ 9223372036854775807) ∧ (p' = none → c' = 0) ∧ w.grownBy w' none := by
  have C : Calls Tryd.prog 16 #[.agg #[.slice p r.length c, .int .i64 P.mode, .int .i64 P.sub, .int .i64 P.set, .int .i64 P.len, .int .i64 P.ttl, .int .i64 P.ent, .int .i64 P.ing, .int .i64 P.pro, .int .u64 (P.bits : Int), .string P.pay], .slice pt t.length ct] w fun e w' => PUPost (pushV t r P) w e w' := spush_any t r P h.wf pt p ct c h.le hct h.pc hnt _ _ w h.rd hRt
  refine C.mono ?_
  rintro e w' ⟨p', c', rfl, h1, h2, h3, h4, h5⟩
  rw [hV] at h1 h2 ⊢
  exact ⟨p', c', rfl, h1, ⟨h2, h3⟩, h4, h5⟩
set_option maxRecDepth 100000 in
theorem spop_agg {b : Nat} {r : List Int} {P : Pk} {p : Option Addr} {c : Nat} {w : World} (h : BX b r P p c w) {y : Int} {D : List Int} {Q : Pk} {o : Bool} (hV : popV r P = (y, D, #[.int .i64 Q.mode, .int .i64 Q.sub, .int .i64 Q.set, .int .i64 Q.len, .int .i64 Q.ttl, .int .i64 Q.ent, .int .i64 Q.ing, .int .i64 Q.pro, .int .u64 (Q.bits : Int), .string Q.pay], o)) :
    Calls Tryd.prog 18 #[.agg #[.slice p r.length c, .int .i64 P.mode, .int .i64 P.sub, .int .i64 P.set, .int .i64 P.len, .int .i64 P.ttl, .int .i64 P.ent, .int .i64 P.ing, .int .i64 P.pro, .int .u64 (P.bits : Int), .string P.pay]] w fun e w' => ∃ p' c', e = .returned (.tuple #[.int .i64 y, .agg #[.slice p' D.length c', .int .i64 Q.mode, .int .i64 Q.sub, .int .i64 Q.set, .int .i64 Q.len, .int .i64 Q.ttl, .int .i64 Q.ent, .int .i64 Q.ing, .int .i64 Q.pro, .int .u64 (Q.bits : Int), .string Q.pay], .bool o]) ∧ Rd w' (fun _ => True) (.slice p' D.length c') (D.map iv) ∧ D.length ≤ 9223372036854775807 ∧ w.grownBy w' none := by
  have C : Calls Tryd.prog 18 #[.agg #[.slice p r.length c, .int .i64 P.mode, .int .i64 P.sub, .int .i64 P.set, .int .i64 P.len, .int .i64 P.ttl, .int .i64 P.ent, .int .i64 P.ing, .int .i64 P.pro, .int .u64 (P.bits : Int), .string P.pay]] w fun e w' => PPPost (popV r P) w e w' := spop_any r P h.wf p c h.le h.pc _ w h.rd
  refine C.mono ?_
  rintro e w' ⟨p', c', rfl, h1, h2, h3, h5⟩
  rw [hV] at h1 h2 ⊢
  exact ⟨p', c', rfl, h1, Nat.le_trans h2 h3, h5⟩
set_option maxRecDepth 100000 in
theorem rpush_agg {b : Nat} {t r : List Int} {P : Pk} {pt p : Option Addr} {ct c : Nat} {w : World} (h : BX b r P p c w) (ht : t.length ≤ 1000) (hct : t.length ≤ ct ∧ ct ≤ 9223372036854775807) (hnt : pt = none → ct = 0) (hRt : Rd w (fun _ => True) (.slice pt t.length ct) (t.map iv)) {L : List Int} {Q : Pk} {x : Int} (hV : pushV t r P = (L, #[.int .i64 Q.mode, .int .i64 Q.sub, .int .i64 Q.set, .int .i64 Q.len, .int .i64 Q.ttl, .int .i64 Q.ent, .int .i64 Q.ing, .int .i64 Q.pro, .int .u64 (Q.bits : Int), .string Q.pay], x)) :
    Calls Tryd.prog 17 #[.agg #[.slice p r.length c, .int .i64 P.mode, .int .i64 P.sub, .int .i64 P.set, .int .i64 P.len, .int .i64 P.ttl, .int .i64 P.ent, .int .i64 P.ing, .int .i64 P.pro, .int .u64 (P.bits : Int), .string P.pay], .slice pt t.length ct] w fun e w' => ∃ p' c', e = .returned (.tuple #[.agg #[.slice p' L.length c', .int .i64 Q.mode, .int .i64 Q.sub, .int .i64 Q.set, .int .i64 Q.len, .int .i64 Q.ttl, .int .i64 Q.ent, .int .i64 Q.ing, .int .i64 Q.pro, .int .u64 (Q.bits : Int), .string Q.pay], .int .i64 x]) ∧ Rd w' (fun _ => True) (.slice p' L.length c') (L.map iv) ∧ (L.length ≤ c' ∧ c' ≤ 9223372036854775807) ∧ (p' = none → c' = 0) ∧ w.grownBy w' none := by
  have C : Calls Tryd.prog 17 #[.agg #[.slice p r.length c, .int .i64 P.mode, .int .i64 P.sub, .int .i64 P.set, .int .i64 P.len, .int .i64 P.ttl, .int .i64 P.ent, .int .i64 P.ing, .int .i64 P.pro, .int .u64 (P.bits : Int), .string P.pay], .slice pt t.length ct] w fun e w' => PUPost (pushV t r P) w e w' := rpush_any t r P h.wf pt p ct c h.le ht hct h.pc hnt _ _ w h.rd hRt
  refine C.mono ?_
  rintro e w' ⟨p', c', rfl, h1, h2, h3, h4, h5⟩
  rw [hV] at h1 h2 ⊢
  exact ⟨p', c', rfl, h1, ⟨h2, h3⟩, h4, h5⟩
set_option maxRecDepth 100000 in
theorem rpop_agg {b : Nat} {r : List Int} {P : Pk} {p : Option Addr} {c : Nat} {w : World} (h : BX b r P p c w) {y : Int} {D : List Int} {Q : Pk} {o : Bool} (hV : popV r P = (y, D, #[.int .i64 Q.mode, .int .i64 Q.sub, .int .i64 Q.set, .int .i64 Q.len, .int .i64 Q.ttl, .int .i64 Q.ent, .int .i64 Q.ing, .int .i64 Q.pro, .int .u64 (Q.bits : Int), .string Q.pay], o)) :
    Calls Tryd.prog 19 #[.agg #[.slice p r.length c, .int .i64 P.mode, .int .i64 P.sub, .int .i64 P.set, .int .i64 P.len, .int .i64 P.ttl, .int .i64 P.ent, .int .i64 P.ing, .int .i64 P.pro, .int .u64 (P.bits : Int), .string P.pay]] w fun e w' => ∃ p' c', e = .returned (.tuple #[.int .i64 y, .agg #[.slice p' D.length c', .int .i64 Q.mode, .int .i64 Q.sub, .int .i64 Q.set, .int .i64 Q.len, .int .i64 Q.ttl, .int .i64 Q.ent, .int .i64 Q.ing, .int .i64 Q.pro, .int .u64 (Q.bits : Int), .string Q.pay], .bool o]) ∧ Rd w' (fun _ => True) (.slice p' D.length c') (D.map iv) ∧ D.length ≤ 9223372036854775807 ∧ w.grownBy w' none := by
  have C : Calls Tryd.prog 19 #[.agg #[.slice p r.length c, .int .i64 P.mode, .int .i64 P.sub, .int .i64 P.set, .int .i64 P.len, .int .i64 P.ttl, .int .i64 P.ent, .int .i64 P.ing, .int .i64 P.pro, .int .u64 (P.bits : Int), .string P.pay]] w fun e w' => PPPost (popV r P) w e w' := rpop_any r P h.wf p c h.le h.pc _ w h.rd
  refine C.mono ?_
  rintro e w' ⟨p', c', rfl, h1, h2, h3, h5⟩
  rw [hV] at h1 h2 ⊢
  exact ⟨p', c', rfl, h1, Nat.le_trans h2 h3, h5⟩
end Go.Proofs.YtpabfjhjehjebaaDoor

/- StackPushes: the walk. -/
namespace Go.Proofs.YtpabfjhjehjebaaDoor
open Go.RowKit Bs
set_option maxRecDepth 100000 in
set_option maxHeartbeats 12800000 in
theorem spushes_walk (v : Value) (R : List Int) (P : Pk) (hP : P.Wf) (p : Option Addr) (c : Nat) (hc : R.length ≤ c ∧ c ≤ 9223372036854775807) (hn : p = none → c = 0) (t : List Int) (pt : Option Addr) (ct : Nat) (hct : t.length ≤ ct ∧ ct ≤ 9223372036854775807) (hnt : pt = none → ct = 0) (w : World) (hv : IntsIn w v) (hR : Rd w (· < w.heap.size) (.slice p R.length c) (R.map iv)) (hRt : Rd w (· < w.heap.size) (.slice pt t.length ct) (t.map iv)) (hT : Tb w) :
    Calls Tryd.prog 4 #[v, fval (.slice p R.length c) P, .slice pt t.length ct] w fun e w' => e = .returned (.bool true) ∧ w.grownBy w' none := by
  unfold fval
  obtain ⟨i0, hi, hz0, hz1, hz2⟩ := info_parts info_int
  obtain ⟨k1, k2⟩ := sone_box w (frcells (.slice p R.length c) P) 33
  have HB0 := Lib.hid (BX.new (Q := P) (hR.mono fun _ _ => trivial) hc hn hP)
  have HRt := Lib.hid ((hRt.mono (q' := fun _ => True) fun _ _ => trivial).keep k2)
  have G0 := Lib.hid k2
  have HT0 := Lib.hid hT
  have hv2 := ints_keep hv k2
  have HCT := Lib.hid (And.intro hct hnt)
  have hmR := Nat.le_trans hc.1 hc.2
  have hmt := Nat.le_trans hct.1 hct.2
  clear k1 k2 hR hRt hT hv hP hn hnt hc hct
  unfold frcells at HB0 HRt G0 hv2
  go_enter Tryd.func4, Tryd.ntmps4
  go_upto_region 1 with fail
  generalize w.alloc _ = wa at *
  go_wp2_with fail
  refine (new_any v wa hv2).mono ?_
  rintro e w2 ⟨rfl, hg1, hT1⟩
  have hat := hT1.lt
  have G1 := Lib.hid hg1
  go_wp2_with fail
  refine (frame_agg3 _ _ (by unfold I64; omega) _ hT1).mono ?_
  rintro e w3 ⟨L1, Q1, pf, cf, rfl, hQ1, hl1, hn1, h40, hRd1, hs1⟩
  go_upto_region 3 with fail
  obtain ⟨k1, k2⟩ := sone_box w3 (frcells (.slice pf L1.length cf) Q1) 33
  have HF := Lib.hid k1
  have HS4 : Hid (St wa.heap.size w2 (w3.alloc (.cells (frcells (.slice pf L1.length cf) Q1) 33))) := Lib.hid ⟨grown_trans hs1.1 (grown_none k2 _), hs1.2.keep k2⟩
  have HK3 := Lib.hid (grown_none k2 (some wa.heap.size))
  have HRd1 := Lib.hid hRd1
  have hat3 : wa.heap.size < w3.heap.size := Nat.lt_of_lt_of_le hat hs1.1.size
  have HQ1 := Lib.hid (And.intro hQ1 (And.intro hl1 hn1))
  clear k1 k2 hs1 hRd1 hT1 hg1 hv2 hQ1 hl1 hn1
  unfold frcells at HF HS4 HK3
  generalize w3.alloc _ = w4 at *
  go_wp2_with fail
  refine (ints_any _ 3 1 8 (by omega) (by omega) (by omega) (by omega) (by omega) w4 HS4.out.2).mono ?_
  rintro e w5 ⟨v5, rfl, hI⟩
  obtain ⟨l5, hl5, ho5, hs5⟩ := hI.open_
  have hl5' : l5.length ≤ 3 := by omega
  have hat4 := HS4.out.2.lt
  have HO5 : Hid (w5.ownsRow w4.heap.size 3 1 v5 l5.length (l5.map iv)) := Lib.hid ho5
  have HS5 := Lib.hid hs5
  clear hI hl5 ho5 hs5
  go_wp2_with fail
  refine (one_any _ 5 (by unfold I64; omega) _ HS5.out.2).mono ?_
  rintro e w6 ⟨b, rfl, hs6⟩
  have HS6 := Lib.hid (HS5.out.trans hs6)
  have HO6 := Lib.hid (own_kept hat4 HO5.out hs6.1)
  clear hs6 HS5 HO5
  go_upto_if 36 with fail
  go_cut [9] from 37 to 41 (fun u wx => ∃ (l : List Int) (pr : Option Addr) (cr : Nat), u = .slice pr l.length cr ∧ Hid ((l.length ≤ 1000 ∧ (l.length ≤ cr ∧ cr ≤ 9223372036854775807) ∧ (pr = none → cr = 0)) ∧ Rd wx (fun _ => True) (.slice pr l.length cr) (l.map iv) ∧ St wa.heap.size w4 wx))
  case first =>
    cases b
    · go_wp2_with fail
      go_meet
      obtain ⟨pr, cr, e5, h1, h2, h3, h4⟩ := ownret_rd HO6.out
      exact ⟨l5, pr, cr, e5, Lib.hid ⟨⟨by omega, ⟨h2, h3⟩, h4⟩, by rw [← e5]; exact (rd_of_own HO6.out).mono fun _ _ => trivial, HS6.out⟩⟩
    · go_wp2_with fail
      refine (wild_any _ _ HS6.out.2).mono ?_
      rintro e w7 ⟨x, rfl, -, hs7⟩
      have HS7 := Lib.hid (HS6.out.trans hs7)
      have HO7 := Lib.hid (own_kept hat4 HO6.out hs7.1)
      have hsz := HS7.out.1.size
      clear hs7 HS6 HO6
      go_wp2_with (at_builtin; refine wpList_append_own _ rfl _ _ 22 rfl w4.heap.size 3 i0 (.int .i64 0) 1 8 Tryd.underlying22 hi hz0 hz1 hz2 rfl (by decide) _ _ _ rfl (HO7.out.alloc _) ⟨w7.heap.size, 0, none⟩ 1 1 [.int .i64 x] rfl rfl ?c1 ?c2 ?c3 ?c4 ?c5 ?_)
      try (case c1 => exact cell_one _ _ _)
      case c2 => first | rfl | (intro u hu; simp at hu; subst hu; rfl)
      case c3 => first | omega | (unfold maxLen; omega)
      case c4 => omega
      case c5 => first | omega | (simp; omega)
      intro v' w8 hown' hg _
      have HN : Hid (w8.ownsRow w4.heap.size 3 1 v' (l5 ++ [x]).length ((l5 ++ [x]).map iv)) := Lib.hid (by rw [List.length_append, List.map_append]; exact hown')
      have HS8 := Lib.hid (st_append HS7.out hat4 HO7.out hg)
      clear hown' hg
      go_wp2_with fail
      go_meet
      obtain ⟨pr, cr, e5, h1, h2, h3, h4⟩ := ownret_rd HN.out
      exact ⟨l5 ++ [x], pr, cr, e5, Lib.hid ⟨⟨by rw [List.length_append]; simp; omega, ⟨h2, h3⟩, h4⟩, by rw [← e5]; exact (rd_of_own HN.out).mono fun _ _ => trivial, HS8.out⟩⟩
  case rest =>
  obtain ⟨l, pr, cr, rfl, HL⟩ := hcut
  have gwc := grown_tape G1.out (HS4.out.trans HL.out.2.2).1
  have HG := Lib.hid (grown_trans G0.out gwc)
  have HB0' := Lib.hid (HB0.out.keep gwc)
  have HRt' := Lib.hid (HRt.out.keep gwc)
  have HBf : Hid (BX w3.heap.size L1 Q1 pf cf wc) := Lib.hid ⟨kept_row HF.out HL.out.2.2.1 (fun e => by have := Option.some.inj e; omega), HRd1.out _ (grown_trans HK3.out HL.out.2.2.1), HQ1.out.2.1, HQ1.out.2.2, HQ1.out.1⟩
  have HLr := Lib.hid HL.out.2.1
  have HLl := Lib.hid HL.out.1
  have hQ1 := HQ1.out.1
  clear gwc HB0 HRt HF HS4 HK3 HRd1 HL G0 G1 HS6 HO6
  have HB0 := HB0'
  have HRt := HRt'
  clear HB0' HRt'
  obtain ⟨L2, Q2, x2, hV2, hQ2, -, -⟩ := push_pk l L1 hQ1
  obtain ⟨L3, Q3, x3, hV3, hQ3, -, -⟩ := push_pk t R HB0.out.wf
  obtain ⟨y4, D4, Q4, b4, hV4, -, -⟩ := pop_pk L1 hQ1
  obtain ⟨L5, Q5, x5, hV5, hQ5, hx5, -⟩ := push_pk [77] L1 hQ1
  obtain ⟨y6, D6, Q6, b6, hV6, -, hp6⟩ := pop_pk L5 hQ5
  have HV := Lib.hid (And.intro hV2 (And.intro hV3 (And.intro hV4 (And.intro hV5 hV6))))
  have Hgw := Lib.hid hQ2
  have Hhw := Lib.hid hQ2
  have Huw := Lib.hid hQ3
  have Hvw := Lib.hid hQ3
  have How := Lib.hid hQ5
  have HX5 := Lib.hid (And.intro hx5 hp6)
  clear hV2 hV3 hV4 hV5 hV6 hQ2 hQ3 hQ5 hx5 hp6
  obtain ⟨c0, c1, c2, c3, c4, c5, c6, c7, c8, c9, c10⟩ := fr_facts HBf.out.box
  go_wp2_with fail
  refine (spush_agg HBf.out HLl.out.1 HLl.out.2.1 HLl.out.2.2 HLr.out HV.out.1).mono ?_
  rintro e wn1 ⟨pg, cg, rfl, hr, hl, hn, hg⟩
  go_upto_region 7 with fail
  obtain ⟨k1, k2⟩ := sone_box wn1 (frcells (.slice pg L2.length cg) Q2) 33
  have hga := grown_trans hg k2
  have HB0' := Lib.hid (HB0.out.keep hga)
  have HBf' := Lib.hid (HBf.out.keep hga)
  have HRt' := Lib.hid (HRt.out.keep hga)
  have HLr' := Lib.hid (HLr.out.keep hga)
  have HG' := Lib.hid (grown_trans HG.out hga)
  have Hg := Lib.hid (BX.new (Q := Q2) hr hl hn Hgw.out)
  clear hga hg k1 k2 hr hl c0 c1 c2 c3 c4 c5 c6 c7 c8 c9 c10 hn HB0 HBf HRt HLr HG
  unfold frcells at HB0' HBf' HRt' HLr' HG' Hg
  generalize wn1.alloc _ = wq1 at *
  generalize wn1.heap.size = bHg at *
  have HB0 := HB0'
  clear HB0'
  have HBf := HBf'
  clear HBf'
  have HRt := HRt'
  clear HRt'
  have HLr := HLr'
  clear HLr'
  have HG := HG'
  clear HG'
  obtain ⟨c0, c1, c2, c3, c4, c5, c6, c7, c8, c9, c10⟩ := fr_facts HBf.out.box
  go_wp2_with fail
  refine (rpush_agg HBf.out HLl.out.1 HLl.out.2.1 HLl.out.2.2 HLr.out HV.out.1).mono ?_
  rintro e wn2 ⟨ph, ch, rfl, hr, hl, hn, hg⟩
  go_upto_region 8 with fail
  obtain ⟨k1, k2⟩ := sone_box wn2 (frcells (.slice ph L2.length ch) Q2) 33
  have hga := grown_trans hg k2
  have HB0' := Lib.hid (HB0.out.keep hga)
  have HBf' := Lib.hid (HBf.out.keep hga)
  have Hg' := Lib.hid (Hg.out.keep hga)
  have HRt' := Lib.hid (HRt.out.keep hga)
  have HLr' := Lib.hid (HLr.out.keep hga)
  have HG' := Lib.hid (grown_trans HG.out hga)
  have Hh := Lib.hid (BX.new (Q := Q2) hr hl hn Hhw.out)
  clear hga hg k1 k2 hr hl c0 c1 c2 c3 c4 c5 c6 c7 c8 c9 c10 hn HB0 HBf Hg HRt HLr HG
  unfold frcells at HB0' HBf' Hg' HRt' HLr' HG' Hh
  generalize wn2.alloc _ = wq2 at *
  generalize wn2.heap.size = bHh at *
  have HB0 := HB0'
  clear HB0'
  have HBf := HBf'
  clear HBf'
  have Hg := Hg'
  clear Hg'
  have HRt := HRt'
  clear HRt'
  have HLr := HLr'
  clear HLr'
  have HG := HG'
  clear HG'
  obtain ⟨c0, c1, c2, c3, c4, c5, c6, c7, c8, c9, c10⟩ := fr_facts Hg.out.box
  obtain ⟨d0, d1, d2, d3, d4, d5, d6, d7, d8, d9, d10⟩ := fr_facts Hh.out.box
  have hm2 := Nat.le_trans Hg.out.le.1 Hg.out.le.2
  go_upto_region 10 with (go_at_call 11; refine (rsame_any L2 _ _ _ _ _ _ _ _ _ _ pg ph cg ch _ _ _ Hg.out.rd Hh.out.rd hm2).mono ?_; rintro e ws3 ⟨rfl, hap⟩; have HAP := Lib.hid hap; clear hap)
  clear c0 c1 c2 c3 c4 c5 c6 c7 c8 c9 c10 d0 d1 d2 d3 d4 d5 d6 d7 d8 d9 d10 hm2 Hg Hh HLr
  have HB0' := Lib.hid (HB0.out.keep HAP.out)
  have HBf' := Lib.hid (HBf.out.keep HAP.out)
  have HRt' := Lib.hid (HRt.out.keep HAP.out)
  have HG' := Lib.hid (grown_trans HG.out HAP.out)
  clear HAP HG HB0 HBf HRt
  have HB0 := HB0'
  clear HB0'
  have HBf := HBf'
  clear HBf'
  have HRt := HRt'
  clear HRt'
  have HG := HG'
  clear HG'
  obtain ⟨c0, c1, c2, c3, c4, c5, c6, c7, c8, c9, c10⟩ := fr_facts HB0.out.box
  go_cut [71] from 63 to 71 (fun u wx => ∃ o : Bool, u = .bool o ∧ Hid (o = decide (R.length ≤ 100 ∧ t.length ≤ 100)) ∧ wx = ws3)
  case first =>
    by_cases h1 : R.length ≤ 100
    · by_cases h2 : t.length ≤ 100
      · have h1i : (R.length : Int) ≤ 100 := by omega
        have h2i : (t.length : Int) ≤ 100 := by omega
        go_wp2_with fail
        go_meet
        exact ⟨_, rfl, Lib.hid (decide_eq_true ⟨h1, h2⟩).symm, rfl⟩
      · have h1i : (R.length : Int) ≤ 100 := by omega
        have h2i : ¬ (t.length : Int) ≤ 100 := by omega
        go_wp2_with fail
        go_meet
        exact ⟨_, rfl, Lib.hid (decide_eq_false (fun h => h2 h.2)).symm, rfl⟩
    · have h1i : ¬ (R.length : Int) ≤ 100 := by omega
      go_wp2_with fail
      go_meet
      exact ⟨_, rfl, Lib.hid (decide_eq_false (fun h => h1 h.1)).symm, rfl⟩
  case rest =>
  obtain ⟨o, rfl, HO12, rfl⟩ := hcut
  clear c0 c1 c2 c3 c4 c5 c6 c7 c8 c9 c10
  go_upto_if 71 with fail
  obtain ⟨wd, rfl⟩ : ∃ wd : World, wd = wc := ⟨_, rfl⟩
  go_cut [6, 14, 15, 16, 17] from 72 to 92 (fun u6 _ _ _ _ wx => u6 = .bool false ∧ Hid (wd.grownBy wx none))
  case first =>
    have HK0 : Hid (wd.grownBy wd none) := Lib.hid (grown_refl _ _)
    cases o
    case false =>
      go_wp2_with fail
      go_meet
      exact ⟨rfl, HK0⟩
    obtain ⟨h1, h2⟩ := of_decide_eq_true HO12.out.symm
    clear HG
    have HG := HK0
    clear HK0
    obtain ⟨c0, c1, c2, c3, c4, c5, c6, c7, c8, c9, c10⟩ := fr_facts HB0.out.box
    go_wp2_with fail
    refine (spush_agg HB0.out (by omega) HCT.out.1 HCT.out.2 HRt.out HV.out.2.1).mono ?_
    rintro e wn4 ⟨pu, cu, rfl, hr, hl, hn, hg⟩
    go_upto_region 12 with fail
    obtain ⟨k1, k2⟩ := sone_box wn4 (frcells (.slice pu L3.length cu) Q3) 33
    have hga := grown_trans hg k2
    have HB0' := Lib.hid (HB0.out.keep hga)
    have HBf' := Lib.hid (HBf.out.keep hga)
    have HRt' := Lib.hid (HRt.out.keep hga)
    have HG' := Lib.hid (grown_trans HG.out hga)
    have Hu := Lib.hid (BX.new (Q := Q3) hr hl hn Huw.out)
    clear hga hg k1 k2 hr hl c0 c1 c2 c3 c4 c5 c6 c7 c8 c9 c10 hn HB0 HBf HRt HG
    unfold frcells at HB0' HBf' HRt' HG' Hu
    generalize wn4.alloc _ = wq4 at *
    generalize wn4.heap.size = bHu at *
    have HB0 := HB0'
    clear HB0'
    have HBf := HBf'
    clear HBf'
    have HRt := HRt'
    clear HRt'
    have HG := HG'
    clear HG'
    obtain ⟨c0, c1, c2, c3, c4, c5, c6, c7, c8, c9, c10⟩ := fr_facts HB0.out.box
    go_wp2_with fail
    refine (rpush_agg HB0.out (by omega) HCT.out.1 HCT.out.2 HRt.out HV.out.2.1).mono ?_
    rintro e wn5 ⟨pv, cv, rfl, hr, hl, hn, hg⟩
    go_upto_region 13 with fail
    obtain ⟨k1, k2⟩ := sone_box wn5 (frcells (.slice pv L3.length cv) Q3) 33
    have hga := grown_trans hg k2
    have HB0' := Lib.hid (HB0.out.keep hga)
    have HBf' := Lib.hid (HBf.out.keep hga)
    have Hu' := Lib.hid (Hu.out.keep hga)
    have HRt' := Lib.hid (HRt.out.keep hga)
    have HG' := Lib.hid (grown_trans HG.out hga)
    have Hv := Lib.hid (BX.new (Q := Q3) hr hl hn Hvw.out)
    clear hga hg k1 k2 hr hl c0 c1 c2 c3 c4 c5 c6 c7 c8 c9 c10 hn HB0 HBf Hu HRt HG
    unfold frcells at HB0' HBf' Hu' HRt' HG' Hv
    generalize wn5.alloc _ = wq5 at *
    generalize wn5.heap.size = bHv at *
    have HB0 := HB0'
    clear HB0'
    have HBf := HBf'
    clear HBf'
    have Hu := Hu'
    clear Hu'
    have HRt := HRt'
    clear HRt'
    have HG := HG'
    clear HG'
    obtain ⟨c0, c1, c2, c3, c4, c5, c6, c7, c8, c9, c10⟩ := fr_facts Hu.out.box
    obtain ⟨d0, d1, d2, d3, d4, d5, d6, d7, d8, d9, d10⟩ := fr_facts Hv.out.box
    have hm2 := Nat.le_trans Hu.out.le.1 Hu.out.le.2
    go_wp2_with (go_at_call 11; refine (rsame_any L3 _ _ _ _ _ _ _ _ _ _ pu pv cu cv _ _ _ Hu.out.rd Hv.out.rd hm2).mono ?_; rintro e wsx ⟨rfl, hap⟩; have HAP := Lib.hid hap; clear hap)
    go_meet
    exact ⟨rfl, Lib.hid (grown_trans HG.out HAP.out)⟩
  case rest =>
  obtain ⟨rfl, HAP⟩ := hcut
  have HB0' := Lib.hid (HB0.out.keep HAP.out)
  have HBf' := Lib.hid (HBf.out.keep HAP.out)
  have HRt' := Lib.hid (HRt.out.keep HAP.out)
  have HG' := Lib.hid (grown_trans HG.out HAP.out)
  clear HAP HG HB0 HBf HRt
  have HB0 := HB0'
  clear HB0'
  have HBf := HBf'
  clear HBf'
  have HRt := HRt'
  clear HRt'
  have HG := HG'
  clear HG'
  obtain ⟨c0, c1, c2, c3, c4, c5, c6, c7, c8, c9, c10⟩ := fr_facts HBf.out.box
  go_wp2_with fail
  refine (spop_agg HBf.out HV.out.2.2.1).mono ?_
  rintro e wn7 ⟨px, cx, rfl, hr, hl, hg⟩
  go_upto_region 16 with fail
  obtain ⟨k1, k2⟩ := sone_box wn7 (frcells (.slice px D4.length cx) Q4) 33
  have hga := grown_trans hg k2
  have HB0' := Lib.hid (HB0.out.keep hga)
  have HBf' := Lib.hid (HBf.out.keep hga)
  have HRt' := Lib.hid (HRt.out.keep hga)
  have HG' := Lib.hid (grown_trans HG.out hga)
  have Hx := Lib.hid (And.intro k1 (And.intro (hr.keep k2) hl))
  clear hga hg k1 k2 hr hl c0 c1 c2 c3 c4 c5 c6 c7 c8 c9 c10 HB0 HBf HRt HG
  unfold frcells at HB0' HBf' HRt' HG' Hx
  generalize wn7.alloc _ = wq7 at *
  generalize wn7.heap.size = bHx at *
  change Hid (wq7.heap[bHx]? = some (.cells (frcells (.slice px D4.length cx) Q4) 33 (0, 0)) ∧ _) at Hx
  have HB0 := HB0'
  clear HB0'
  have HBf := HBf'
  clear HBf'
  have HRt := HRt'
  clear HRt'
  have HG := HG'
  clear HG'
  have Hxb := Lib.hid Hx.out.1
  have Hxr := Lib.hid Hx.out.2.1
  have hmx := Hx.out.2.2
  clear Hx
  obtain ⟨c0, c1, c2, c3, c4, c5, c6, c7, c8, c9, c10⟩ := fr_facts HBf.out.box
  go_wp2_with fail
  refine (rpop_agg HBf.out HV.out.2.2.1).mono ?_
  rintro e wn8 ⟨py, cy, rfl, hr, hl, hg⟩
  go_upto_region 17 with fail
  obtain ⟨k1, k2⟩ := sone_box wn8 (frcells (.slice py D4.length cy) Q4) 33
  have hga := grown_trans hg k2
  have HB0' := Lib.hid (HB0.out.keep hga)
  have HBf' := Lib.hid (HBf.out.keep hga)
  have HRt' := Lib.hid (HRt.out.keep hga)
  have Hxr' := Lib.hid (Hxr.out.keep hga)
  have HG' := Lib.hid (grown_trans HG.out hga)
  have Hxb' := Lib.hid (kept_row Hxb.out hga (by simp))
  have Hy := Lib.hid (And.intro k1 (And.intro (hr.keep k2) hl))
  clear Hxb hga hg k1 k2 hr hl c0 c1 c2 c3 c4 c5 c6 c7 c8 c9 c10 HB0 HBf HRt Hxr HG
  unfold frcells at HB0' HBf' HRt' Hxr' HG' Hy Hxb'
  generalize wn8.alloc _ = wq8 at *
  generalize wn8.heap.size = bHy at *
  change Hid (wq8.heap[bHy]? = some (.cells (frcells (.slice py D4.length cy) Q4) 33 (0, 0)) ∧ _) at Hy
  change Hid (wq8.heap[bHx]? = some (.cells (frcells (.slice px D4.length cx) Q4) 33 (0, 0))) at Hxb'
  have HB0 := HB0'
  clear HB0'
  have HBf := HBf'
  clear HBf'
  have HRt := HRt'
  clear HRt'
  have Hxr := Hxr'
  clear Hxr'
  have HG := HG'
  clear HG'
  have Hxb := Hxb'
  clear Hxb'
  obtain ⟨c0, c1, c2, c3, c4, c5, c6, c7, c8, c9, c10⟩ := fr_facts Hxb.out
  obtain ⟨d0, d1, d2, d3, d4, d5, d6, d7, d8, d9, d10⟩ := fr_facts Hy.out.1
  go_upto_region 19 with (go_at_call 11; refine (rsame_any D4 _ _ _ _ _ _ _ _ _ _ px py cx cy _ _ _ Hxr.out Hy.out.2.1 hmx).mono ?_; rintro e ws9 ⟨rfl, hap⟩; have HAP := Lib.hid hap; clear hap)
  clear c0 c1 c2 c3 c4 c5 c6 c7 c8 c9 c10 d0 d1 d2 d3 d4 d5 d6 d7 d8 d9 d10 Hxb Hxr Hy hmx
  have HBf' := Lib.hid (HBf.out.keep HAP.out)
  have HG' := Lib.hid (grown_trans HG.out HAP.out)
  clear HAP HG HBf
  have HBf := HBf'
  clear HBf'
  have HG := HG'
  clear HG'
  obtain ⟨k1, k2⟩ := sone_box ws9 #[.int .i64 77] 3
  have H77 : Hid (Rd (ws9.alloc (.cells #[.int .i64 77] 3)) (fun _ => True) (.slice (some ⟨ws9.heap.size, 0, none⟩) 1 1) (([77] : List Int).map iv)) := Lib.hid ⟨_, 1, rfl, fun _ => ⟨_, 0, rfl, trivial, fun i x hi => by rw [Nat.zero_add, cell_of_row _ _ _ _ _ _ k1]; simpa [iv] using hi⟩⟩
  have HBf' := Lib.hid (HBf.out.keep k2)
  have HG' := Lib.hid (grown_trans HG.out k2)
  obtain ⟨d0, d1, d2, d3, d4, d5, d6, d7, d8, d9, d10⟩ := fr_facts HBf.out.box
  go_wp2_with fail
  clear d0 d1 d2 d3 d4 d5 d6 d7 d8 d9 d10 k1 k2 HBf HG HB0 HRt
  generalize ws9.alloc _ = wz at *
  generalize ws9.heap.size = bz at *
  have HBf := HBf'
  have HG := HG'
  clear HBf' HG'
  refine (spush_agg HBf.out (t := [77]) (by simp) ⟨by simp, by omega⟩ (by intro e; cases e) H77.out HV.out.2.2.2.1).mono ?_
  rintro e wn10 ⟨po, co, rfl, hr, hl, hn, hg⟩
  go_upto_region 20 with fail
  obtain ⟨k1, k2⟩ := sone_box wn10 (frcells (.slice po L5.length co) Q5) 33
  have hga := grown_trans hg k2
  have HBf' := Lib.hid (HBf.out.keep hga)
  have HG' := Lib.hid (grown_trans HG.out hga)
  have Ho := Lib.hid (BX.new (Q := Q5) hr hl hn How.out)
  clear hga hg k1 k2 hr hl hn HBf HG
  unfold frcells at HBf' HG' Ho
  generalize wn10.alloc _ = wq10 at *
  generalize wn10.heap.size = bHo at *
  have HBf := HBf'
  clear HBf'
  have HG := HG'
  clear HG'
  obtain ⟨c0, c1, c2, c3, c4, c5, c6, c7, c8, c9, c10⟩ := fr_facts Ho.out.box
  go_wp2_with fail
  refine (spop_agg Ho.out HV.out.2.2.2.2).mono ?_
  rintro e wn11 ⟨pz, cz, rfl, hr, hl, hg⟩
  go_upto_region 21 with fail
  obtain ⟨k1, k2⟩ := sone_box wn11 (frcells (.slice pz D6.length cz) Q6) 33
  have hga := grown_trans hg k2
  have HBf' := Lib.hid (HBf.out.keep hga)
  have HG' := Lib.hid (grown_trans HG.out hga)
  have Hz := Lib.hid (And.intro k1 (And.intro (hr.keep k2) hl))
  clear hga hg k1 k2 hr hl c0 c1 c2 c3 c4 c5 c6 c7 c8 c9 c10 HBf HG
  unfold frcells at HBf' HG' Hz
  generalize wn11.alloc _ = wq11 at *
  generalize wn11.heap.size = bHz at *
  change Hid (wq11.heap[bHz]? = some (.cells (frcells (.slice pz D6.length cz) Q6) 33 (0, 0)) ∧ _) at Hz
  have HBf := HBf'
  clear HBf'
  have HG := HG'
  clear HG'
  have GE := HG
  by_cases hx : x5 = 0
  · obtain ⟨rfl, rfl, e1, e2, e3, e4⟩ := HX5.out.1 hx
    have e5 := vfr_push e1 e2 e3 e4
    obtain ⟨hy6, hD6, hQ6, hb6⟩ := HX5.out.2 e5 (by simp)
    have hy6' : y6 = 77 := hy6
    have hD6' : L1 = D6 := hD6.symm
    clear hy6 hD6 e1 e2 e3 e4 e5 HX5 HV
    subst hy6' hb6 hQ6 hx
    subst hD6'
    obtain ⟨c0, c1, c2, c3, c4, c5, c6, c7, c8, c9, c10⟩ := fr_facts Hz.out.1
    obtain ⟨d0, d1, d2, d3, d4, d5, d6, d7, d8, d9, d10⟩ := fr_facts HBf.out.box
    have hmz := Hz.out.2.2
    go_wp2_with (first | (go_at_call 11; refine (rsame_any L1 _ _ _ _ _ _ _ _ _ _ pz pf cz cf _ _ _ Hz.out.2.1 HBf.out.rd hmz).mono ?_; rintro e wsy ⟨rfl, hap⟩; have HAP := Lib.hid (grown_trans GE.out hap); clear hap) | (go_at_call 12; refine (sawake_any _ (HT0.out.keep HAP.out)).mono ?_; rintro e wsz ⟨rfl, hap⟩; have HEND := Lib.hid (grown_trans HAP.out hap); clear hap))
    exact bodyPost_ret (results_tmp rfl _ _ _) rfl ⟨rfl, HEND.out⟩
  · have hxb : (x5 != 0) = true := by simpa using hx
    go_wp2_with (go_at_call 12; refine (sawake_any _ (HT0.out.keep GE.out)).mono ?_; rintro e wsz ⟨rfl, hap⟩; have HEND := Lib.hid (grown_trans GE.out hap); clear hap)
    exact bodyPost_ret (results_tmp rfl _ _ _) rfl ⟨rfl, HEND.out⟩
end Go.Proofs.YtpabfjhjehjebaaDoor

/- Parts of the proof, packed: IoOwnA, PkEncO, StEncFR, StDecR, PkDecR, PkDecR1. -/
import Derived.Test.YtpabfjhjehjebaaDoorSDec13
import Derived.Test.YtpabfjhjehjebaaDoorSDec12
import Derived.Test.YtpabfjhjehjebaaDoorSDec11
import Derived.Lib.SmallJoins
import Derived.Test.YtpabfjhjehjebaaDoorSDec8
import Derived.Test.YtpabfjhjehjebaaDoorSDec10
import Derived.Test.YtpabfjhjehjebaaDoorSDec9
/- What the reference's Align gives back, where its argument lies in memory of the call's own. -/
namespace Go.Proofs.YtpabfjhjehjebaaDoor
open Go.RowKit Bs
/-- The bytes lie outside the two boxes. -/
def NB (W : World) (p : Option Addr) (n c : Nat) : Prop := ∀ x, (Value.slice p n c).ownBlock = some x → x ≠ W.heap.size ∧ x ≠ W.heap.size + 1
theorem own_nb {w : World} {base c : Nat} {p : Option Addr} {l : List Nat} (h : Own w base p c l) : NB w p l.length c := fun x hx => by have := (h.own.lt x hx).2; omega
theorem Own.apart {w w' : World} {base b c : Nat} {p : Option Addr} {l : List Nat} (h : Own w base p c l) (g : w.grownBy w' (some b)) (hne : (Value.slice p l.length c).ownBlock ≠ some b) : Own w' base p c l := ⟨h.own.kept g (.inr hne), h.pc, h.by_⟩
def AlOwn (f : Nat → Bool) (W : World) (base0 N j : Nat) (w' : World) : Prop := ∃ p c, BoxAt W W.heap.size (W.heap.size + 1) p c (pz f (N + j) ((N + j + 7) / 8)) ((N + j : Nat) : Int) w' ∧ Own w' base0 p c (pz f (N + j) ((N + j + 7) / 8)) ∧ NB W p (pz f (N + j) ((N + j + 7) / 8)).length c
theorem AlOwn.open_ {f : Nat → Bool} {W w' : World} {base0 N j : Nat} (h : AlOwn f W base0 N j w') : ∃ p c l, Hid (l = pz f (N + j) ((N + j + 7) / 8)) ∧ BoxAt W W.heap.size (W.heap.size + 1) p c l ((N + j : Nat) : Int) w' ∧ Own w' base0 p c l ∧ NB W p l.length c := by
  obtain ⟨p, c, h, h2, h3⟩ := h
  exact ⟨p, c, _, Lib.hid rfl, h, h2, h3⟩
theorem al_next {f : Nat → Bool} {W w2 : World} {base0 N j m base : Nat} {p p' : Option Addr} {c c' : Nat} {l l' : List Nat} {n : Int} (h : Hid (BoxAt W W.heap.size (W.heap.size + 1) p c l n w2)) (hm : N + j = m) (hl : l' = pz f (m + 1) ((m + 8) / 8)) (o : Own w2 base p' c' l')
    (hW : W.heap.size + 2 ≤ base) (hb0 : base0 ≤ W.heap.size) :
    Hid (AlOwn f W base0 N (j + 1) ((w2.setCell ⟨W.heap.size, 0, none⟩ (.slice p' l'.length c')).setCell ⟨W.heap.size, 1, none⟩ (.int .i64 ((m : Int) + 1)))) := by
  subst hm
  subst hl
  exact Lib.hid ⟨p', c', h.out.store o (Nat.le_refl _) (by omega) (by omega) (by omega), (o.other (grown_store2 w2 W.heap.size _ _) (by omega)).mono (by omega), fun x hx => by have := (o.own.lt x hx).1; omega⟩
set_option maxRecDepth 100000 in
set_option maxHeartbeats 3200000 in
theorem aligno_any (l : List Nat) (N : Nat) (q : Nat → Prop) (p : Option Addr) (c base0 : Nat) (hl : By l) (hpc : p = none → c = 0) (hv : vs l (N : Int) = true) (w : World) (hb0 : base0 ≤ w.heap.size) (ho : Own w base0 p c l) (hq : ∀ b, q b → b < w.heap.size) (hR : Rd w q (.slice p l.length c) (l.map nv)) :
    Calls Tryd.prog 48 #[.agg #[.slice p l.length c, .int .i64 (N : Int)]] w fun e w' =>
      ∃ p2 c2, e = .returned (.tuple #[.agg #[.slice p2 l.length c2, .int .i64 ((8 * l.length : Nat) : Int)], .int .i64 0]) ∧ Own w' base0 p2 c2 l ∧ w.grownBy w' none := by
  obtain ⟨k1, k2, k3, k4⟩ := two_boxes w #[.slice p l.length c, .int .i64 (N : Int)] #[.slice none 0 0, .int .i64 0] 74 74
  have hR1 := hR.keep k3
  have HOI := Lib.hid (And.intro (ho.keep k3) (own_nb ho))
  have HVS := Lib.hid hv
  clear hv ho
  have H0 := Lib.hid (show BoxAt w w.heap.size (w.heap.size + 1) p c l (N : Int) _ from ⟨k1, k2, hR1.mono fun x hx => by have := hq x hx; exact ⟨by omega, by omega⟩, hpc, hl, k3⟩)
  have HZ0 := Lib.hid k4
  have hq1 : ∀ b, q b → b < ((w.alloc (.cells #[.slice p l.length c, .int .i64 (N : Int)] 74)).alloc (.cells #[.slice none 0 0, .int .i64 0] 74)).heap.size := fun b hb => Nat.lt_of_lt_of_le (hq b hb) k3.size
  clear k1 k2 k3 k4 hR
  go_enter Tryd.func48, Tryd.ntmps48
  go_wp2_with fail
  generalize (w.alloc (.cells #[.slice p l.length c, .int .i64 (N : Int)] 74)).alloc (.cells #[.slice none 0 0, .int .i64 0] 74) = w1 at *
  refine (validr_any l (N : Int) q p c hl _ hq1 hR1).mono ?_
  rintro e w2 ⟨rfl, hg⟩
  have hg' := hg
  have HB := Lib.hid (H0.out.keep hg)
  have HSZ2 : Hid (w.heap.size + 2 ≤ w2.heap.size) := Lib.hid (by rw [← HZ0.out]; exact hg.size)
  clear hg hR1 H0 hq1 HZ0
  obtain ⟨c0, c1, f0, f1, r0, r1, g0, g1⟩ := HB.out.limbs
  have HO2 := Lib.hid (And.intro (HOI.out.1.keep hg') HOI.out.2)
  clear HOI hg'
  have hv := HVS.out
  have V := Lib.hid (alV_ok hv)
  obtain ⟨hN, hlen⟩ := vs_bits hv
  rw [hv]
  have P0 : Hid (AlOwn (bt l) w base0 N 0 w2) := by
    refine Lib.hid ⟨p, c, ?_⟩
    show BoxAt w w.heap.size (w.heap.size + 1) p c (pz (bt l) N ((N + 7) / 8)) (N : Int) w2 ∧ Own w2 base0 p c (pz (bt l) N ((N + 7) / 8)) ∧ NB w p (pz (bt l) N ((N + 7) / 8)).length c
    rw [← pz_valid hl hv fun _ _ => rfl]
    exact ⟨HB.out, HO2.out.1, HO2.out.2⟩
  have HV := Lib.hid hv
  have HL := Lib.hid hlen
  clear hv hlen HB f0 f1 r0 r1 g0 g1 c0 c1
  go_wp2_with fail
  go_loopg [] (8 * l.length - N) (fun g wr => ∃ j : Nat, N + j + g = 8 * l.length ∧ AlOwn (bt l) w base0 N j wr ∧ w.heap.size + 2 ≤ wr.heap.size)
  case atStart => exact ⟨0, by have := HL.out; omega, P0.out, HSZ2.out⟩
  case round =>
    obtain ⟨j, hjg, hP, hsz⟩ := hrel
    obtain ⟨p1, c1, l1, HL1, hB1, hO1, hN1⟩ := hP.open_
    have HZ := Lib.hid hsz
    have HJG := Lib.hid hjg
    obtain ⟨m, hm⟩ : ∃ m : Nat, N + j = m := ⟨_, rfl⟩
    rw [hm] at HL1 hB1
    have HO1 := Lib.hid (And.intro hO1 hN1)
    clear hO1 hN1
    have HB1 := Lib.hid hB1
    have hm8 : m ≤ 8 * l.length := by omega
    have hll : l.length ≤ 1025 := by have := HL.out; omega
    obtain ⟨b0, b1, f0, f1, r0, r1, g0, g1⟩ := HB1.out.limbs
    clear hP hB1 P0 hsz
    cases gk with
    | zero =>
      have hz8 : (m : Int) % 8 = 0 := by omega
      have hml : m = 8 * l.length := by omega
      have hl1 : l1 = l := by
        rw [HL1.out, hml, show (8 * l.length + 7) / 8 = l.length by omega]
        exact (pz_bt l (8 * l.length) hl fun i h1 h2 => by omega).symm
      have F := Lib.hid (HB1.out.fin (V := alV l (N : Int)) (by rw [V.out, hl1, hml]) (by omega))
      have gst := grown_store2 wr (w.heap.size + 1) (.slice p1 l1.length c1) (.int .i64 (m : Int))
      have HOO := Lib.hid (Own.apart HO1.out.1 gst (fun e => (HO1.out.2 _ e).2 rfl))
      have HGG := Lib.hid (grown_new HB1.out.gr gst (by omega))
      have HL1e := Lib.hid hl1
      have HMl := Lib.hid hml
      clear HB1 hm hml hl1 hjg gst HO1
      go_wp2_with fail
      refine bodyPost_ret (res_stream_err rfl _ _ (w.heap.size + 1) _ _ rfl F.out.1) rfl ?_
      refine ⟨p1, c1, ?_, ?_, HGG.out⟩
      · rw [← HL1e.out, HMl.out]; rw [HL1e.out]; rfl
      · have := HOO.out
        rw [HL1e.out] at this ⊢
        exact this
    | succ g =>
      have hz8 : ¬ ((m : Int) % 8 = 0) := by have := HL.out; omega
      have hfm : bt l m = false := (vs_iff.1 HV.out).2.2 m (by omega) (by omega)
      have C2 := put_val (f := bt l) (m := m) (x := .int .u64 0) (by rw [bw_false hfm]) l1 _ p1 c1 (by omega) HL1.out HB1.out.pc wr HB1.out.rd
      obtain ⟨l3, hl3⟩ : ∃ l3, l3 = pz (bt l) (m + 1) ((m + 8) / 8) := ⟨_, rfl⟩
      rw [← hl3] at C2
      have H2 := Lib.hid C2
      have HL3 := Lib.hid hl3
      have HM := Lib.hid hm
      have hm9 : m ≤ 9000 := by omega
      clear C2 hl3 hm hfm hjg
      go_wp2_with fail
      refine H2.out.mono ?_
      rintro e w3 ⟨p3, c3, rfl, hown3, hg3⟩
      have HB3 := Lib.hid (HB1.out.keep hg3)
      have R := al_next (f := bt l) (N := N) (j := j) (base0 := base0) HB3 HM.out HL3.out hown3 HZ.out hb0
      have R2 : Hid (w.heap.size + 2 ≤ w3.heap.size) := Lib.hid (Nat.le_trans HZ.out hg3.size)
      clear b0 b1 f0 f1 r0 r1 g0 g1
      obtain ⟨b0, b1, f0, f1, r0, r1, g0, g1⟩ := HB3.out.limbs
      clear hown3 hg3 HB1 HO1
      go_wp2_with fail
      go_roundg g
      case measure => omega
      case rel => exact ⟨j + 1, by have := HJG.out; omega, R.out, by simpa using R2.out⟩
end Go.Proofs.YtpabfjhjehjebaaDoor

/- packet: the reference's Encode gives bytes in memory of its own. -/
namespace Go.Proofs.YtpabfjhjehjebaaDoor
open Go.RowKit Bs
section
variable {w : World} {q : Nat → Prop} {B : List Bool} {p : Option Addr} {c : Nat}
theorem append_own {v k : Nat} (hk1 : 1 ≤ k) (hk : k < 64) (hv : v < 2 ^ k) (hl : B.length + k ≤ 8192) (hpc : p = none → c = 0) (hR : Rd w q (.slice p (pk B).length c) ((pk B).map nv)) :
    Calls Tryd.prog 46 #[.agg #[.slice p (pk B).length c, .int .i64 (B.length : Int)], .int .u64 (v : Int), .int .i64 (k : Int)] w fun e w' =>
      ∃ p2 c2, e = .returned (.tuple #[.agg #[.slice p2 (pk (B ++ nb v k)).length c2, .int .i64 ((B ++ nb v k).length : Int)], .int .i64 0]) ∧ Own w' (w.heap.size + 2) p2 c2 (pk (B ++ nb v k)) ∧ w.grownBy w' none := by
  have hvU : U64 v := Nat.lt_of_lt_of_le hv (Nat.pow_le_pow_right (n := 2) (by decide) (show k ≤ 64 by omega))
  refine (appendo_any (pk B) B.length v k _ p c (pk_by B) hvU hpc (pk_vs B (by omega)) hk1 hk (Nat.not_le.2 hv) (by omega) w (fun _ h => h) hR.bound).mono fun e w' hp => ?_
  rw [apV_pk B v k (by omega) hv hl] at hp
  exact hp
theorem align_own {base0 : Nat} (h : B.length ≤ 8192) (h0 : 1 ≤ B.length) (ho : Own w base0 p c (pk B)) :
    Calls Tryd.prog 48 #[.agg #[.slice p (pk B).length c, .int .i64 (B.length : Int)]] w fun e w' =>
      ∃ p2 c2, e = .returned (.tuple #[.agg #[.slice p2 (pk B).length c2, .int .i64 ((8 * (pk B).length : Nat) : Int)], .int .i64 0]) ∧ Own w' base0 p2 c2 (pk B) ∧ w.grownBy w' none := by
  have hb : base0 ≤ w.heap.size := by
    obtain ⟨g, cap, he, hg⟩ := own_form ho.own (by rw [pk_len]; omega)
    have h2 := (ho.own.lt g (by rw [he]; rfl)).2
    omega
  exact aligno_any (pk B) B.length _ p c base0 (pk_by B) ho.pc (pk_vs B h) w hb ho (fun _ h => h) ho.rd.bound
end
/-- The bytes lie in memory of the call's own. -/
def REncOwn (P : Pk) (w : World) (e : Ending) (w' : World) : Prop := ∃ p c, e = .returned (.tuple #[.slice p (enc P).length c, .int .i64 0]) ∧ Own w' w.heap.size p c (enc P) ∧ w.grownBy w' none
set_option maxRecDepth 100000 in
set_option maxHeartbeats 3200000 in
theorem rencodeo_any (P : Pk) (hP : P.Wf) (hvp : vpk P = true) (w : World) :
    Calls Tryd.prog 21 #[P.val] w fun e w' => REncOwn P w e w' := by
  have HVP := Lib.hid hvp
  clear hvp
  have hval : P.val = .agg #[.int .i64 P.mode, .int .i64 P.sub, .int .i64 P.set, .int .i64 P.len, .int .i64 P.ttl, .int .i64 P.ent, .int .i64 P.ing, .int .i64 P.pro, .int .u64 (P.bits : Int), .string P.pay] := rfl
  rw [hval]
  go_enter Tryd.func21, Tryd.ntmps21
  go_wp2_with fail
  obtain ⟨k1, k2⟩ := one_box w (pcells P) 31
  have HP := Lib.hid (And.intro k1 k2)
  clear k1 k2
  unfold pcells at HP
  generalize w.alloc _ = wa at *
  change Hid (wa.heap[w.heap.size]? = some (.cells (pcells P) 31 (0, 0)) ∧ w.grownBy wa none) at HP
  rw [← hval]
  refine (rvalid_any P hP _).mono ?_
  rintro e w1 ⟨rfl, hg⟩
  have HQ := Lib.hid (And.intro (kept_row HP.out.1 hg (by simp)) (grown_trans HP.out.2 hg))
  clear hg HP
  have hv := HVP.out
  rw [hv]
  have HV := Lib.hid hv
  have HVL := Lib.hid (vb_vl (vpk_parts hv).2.2.2.2.2.2.2.2)
  have HPY := Lib.hid (vpk_parts hv).2.2.2.2.2.2.2.1
  clear hv
  obtain ⟨a0, a1, a2, a3, a4, a5, a6, a7, a8, a9⟩ := p_facts HQ.out.1
  have HQd := Lib.hid (kept_row HQ.out.1 (grown_drew (grown_refl _ none)) (by simp))
  go_wp2_with fail
  go_region_held3 (fun w' => w'.cell? ⟨w.heap.size, 0, none⟩ = some (.int .i64 P.mode) ∧ w'.cell? ⟨w.heap.size, 1, none⟩ = some (.int .i64 P.sub) ∧ w'.cell? ⟨w.heap.size, 2, none⟩ = some (.int .i64 P.set) ∧ w'.cell? ⟨w.heap.size, 3, none⟩ = some (.int .i64 P.len) ∧ w'.cell? ⟨w.heap.size, 4, none⟩ = some (.int .i64 P.ttl) ∧ w'.cell? ⟨w.heap.size, 5, none⟩ = some (.int .i64 P.ent) ∧ w'.cell? ⟨w.heap.size, 6, none⟩ = some (.int .i64 P.ing) ∧ w'.cell? ⟨w.heap.size, 7, none⟩ = some (.int .i64 P.pro) ∧ w'.cell? ⟨w.heap.size, 8, none⟩ = some (.int .u64 (P.bits : Int)) ∧ w'.cell? ⟨w.heap.size, 9, none⟩ = some (.string P.pay))
    (first | (with_reducible exact p_facts HQ.out.1) | (with_reducible exact p_facts HQd.out) | (with_reducible exact p_facts (kept_row HQd.out (World.grownBy_alloc _ _ none) (by simp))))
    ((go_at_call 44; refine (coder_any _ HVL.out _).mono ?_; rintro e w' ⟨rfl, rfl⟩))
  all_goals
    have q1 := grown_trans (World.grownBy_alloc w1 (.cells (rfc P) 3) none) (grown_drew (grown_refl (w1.alloc (.cells (rfc P) 3)) none))
    have q2 : (w1.alloc (.cells (rfc P) 3)).drew.heap[w1.heap.size]? = some (.cells (rfc P) 3 (0, 0)) := kept_row (heap_alloc_new w1 (.cells (rfc P) 3)) (grown_drew (grown_refl (w1.alloc (.cells (rfc P) 3)) none)) (by simp)
    have q3 := kept_row HQ.out.1 q1 (by simp)
    have q4 := grown_trans HQ.out.2 q1
    have hlt : w.heap.size < w1.heap.size := World.lt_of_row' HQ.out.1
    unfold rfc at q2 q3 q4
    clear a0 a1 a2 a3 a4 a5 a6 a7 a8 a9 HQd q1 HQ
    have HX := Lib.hid (And.intro q2 (And.intro q3 (And.intro q4 hlt)))
    clear q2 q3 q4 hlt
    go_upto_region 4 with fail
    generalize (w1.alloc _).drew = w2 at *
    go_wp2_with fail
    refine (widths_any w2).mono ?_
    rintro e w3 ⟨rfl, rfl⟩
    obtain ⟨t1, t2, t3, t4⟩ := two_boxes w2 wcells #[.slice none 0 0, .int .i64 0] 3 74
    have HE0 : Hid (ER w P w1.heap.size w2.heap.size (w2.heap.size + 1) [] none 0 ((w2.alloc (.cells wcells 3)).alloc (.cells #[.slice none 0 0, .int .i64 0] 74))) := by
      have h2 := World.lt_of_row' HX.out.1
      have h3 := HX.out.2.2.2
      exact Lib.hid ⟨kept_row HX.out.2.1 t3 (by simp), kept_row HX.out.1 t3 (by simp), t1, t2, Rd.nil_ _ _ _ _, fun _ => rfl, ⟨by omega, by omega, by omega⟩, grown_trans HX.out.2.2.1 t3⟩
    clear t1 t2 t3 t4 HX
    go_upto_region 6 with fail
    generalize (w2.alloc _).alloc _ = w4 at *
    obtain ⟨S, hS⟩ : ∃ S, S = w2.heap.size + 1 := ⟨_, rfl⟩
    rw [← hS] at HE0 ⊢
    generalize w2.heap.size = D at *
    generalize w1.heap.size = F at *
    clear hS
    go_wp2_with fail
    go_loopw [7] (fun i wr => ∃ k : Nat, k ≤ 10 ∧ i = .int .i64 (k : Int) ∧ ∃ p c, Hid (ER w P F D S (flb ((fl P).take k)) p c wr)) (fun i _ => (10 - (intOf i).toNat))
    case atStart => exact ⟨0, Nat.zero_le _, rfl, none, 0, HE0⟩
    case round =>
      obtain ⟨k, hk, rfl, p, c, hR⟩ := hrel
      clear HE0
      by_cases hk2 : k < 10
      · obtain ⟨wd, x, hc1, hc2, hx, hwd, hfl⟩ := rfield_at HV.out k hk2
        have d1 := (cell_of_row _ _ k _ _ _ hR.out.fb).trans hc1
        have d2 := (cell_of_row _ _ k _ _ _ hR.out.db).trans hc2
        obtain ⟨s0, s1, _, _⟩ := hR.out.facts
        have hle := flb_take_le P k
        have hsn := flb_snoc hfl
        generalize flb ((fl P).take k) = B at *
        obtain ⟨B2, hB2⟩ : ∃ B2, B2 = flb ((fl P).take (k + 1)) := ⟨_, rfl⟩
        rw [← hB2] at hsn
        have HB2 := Lib.hid hB2
        have HX : Hid (IntKind.u64.wrap (x : Int) = (x : Int)) := Lib.hid (by have : x < 2 ^ 10 := Nat.lt_of_lt_of_le hx (Nat.pow_le_pow_right (by decide) hwd); rw [IntKind.wrap_u64]; omega)
        have hA := append_bitsr (B := B) (v := x) (k := wd) (Nat.le_trans hwd (by decide)) hx (by omega) hR.out.pc (hR.out.rd.keep (grown_drew (grown_refl wr none)))
        rw [← hsn] at hA
        have HA := Lib.hid hA
        have HR := hR
        have k0 : (0 : Int) ≤ (k : Int) := by omega
        have k10 : (k : Int) < 10 := by omega
        clear hB2 hfl hc1 hc2 hsn hA hR hle hx hwd
        go_wp2_with fail
        go_region_law (first
          | (go_simp; go_at_call 46; (try simp only [HX.out]); refine HA.out.mono ?_; rintro e w7 ⟨p2, c2, rfl, hR2, hp2, hg7⟩; have H7 := Lib.hid ((HR.out.keep (grown_drew (grown_refl _ none))).keep hg7); have R7 := Lib.hid (And.intro hR2 hp2); obtain ⟨t0, t1, z0, z1⟩ := H7.out.facts; clear hR2 hp2 hg7))
        all_goals
          have HK : Hid (ER w P F D S B2 p2 c2 ((w7.setCell ⟨S, 0, none⟩ (.slice p2 (pk B2).length c2)).setCell ⟨S, 1, none⟩ (.int .i64 (B2.length : Int)))) := Lib.hid (H7.out.turn R7.out.1 R7.out.2)
          clear t0 t1 z0 z1 s0 s1 d1 d2 H7 R7 HA HR
          generalize (w7.setCell ⟨S, 0, none⟩ (.slice p2 (pk B2).length c2)).setCell ⟨S, 1, none⟩ (.int .i64 (B2.length : Int)) = w8 at *
          go_wp2_with fail
          go_roundw
          case rel => exact ⟨k + 1, by omega, by go_num, p2, c2, by rw [← HB2.out]; exact HK⟩
          case measure => simp [intOf]; omega
      · obtain rfl : k = 10 := by omega
        rw [show (fl P).take 10 = fl P from rfl] at hR
        have HL49 := Lib.hid (hdr_len P)
        have hvb := (vpk_parts HV.out).2.2.2.2.2.2.2.2
        have HLN : Hid (0 ≤ P.len ∧ P.len.toNat ≤ 64) := Lib.hid (by rcases vl_cases (vb_vl hvb) with h | h | h | h <;> rw [h] <;> decide)
        have HBL := Lib.hid (vb_lt hvb hP.bits)
        obtain ⟨B0, hB0⟩ : ∃ B, B = flb (fl P) := ⟨_, rfl⟩
        rw [← hB0] at hR HL49
        obtain ⟨B1, hB1⟩ : ∃ B, B = B0 ++ nb P.bits P.len.toNat := ⟨_, rfl⟩
        have hA := append_bitsr (B := B0) (v := P.bits) (k := P.len.toNat) HLN.out.2 HBL.out (by have := HLN.out.2; have := HL49.out; omega) hR.out.pc hR.out.rd
        rw [Int.toNat_of_nonneg HLN.out.1, ← hB1] at hA
        have HB0 := Lib.hid hB0
        have HB1 := Lib.hid hB1
        have HA := Lib.hid hA
        have HR := hR
        obtain ⟨s0, s1, _, _⟩ := hR.out.facts
        obtain ⟨a0, a1, a2, a3, a4, a5, a6, a7, a8, a9⟩ := p_facts HR.out.pb
        clear hB0 hB1 hA hR hk hk2 hvb
        go_wp2_with fail
        refine HA.out.mono ?_
        rintro e w5 ⟨p2, c2, rfl, hR2, hp2, hg⟩
        have H5 := Lib.hid (HR.out.keep hg)
        have H6 := Lib.hid (H5.out.turn hR2 hp2)
        clear s0 s1 a0 a1 a2 a3 a4 a5 a6 a7 a8 a9
        obtain ⟨r0, r1, z0, z1⟩ := H5.out.facts
        clear HA hR2 hp2 hg H5 HR
        go_upto_region 11 with fail
        generalize (w5.setCell ⟨S, 0, none⟩ (.slice p2 (pk B1).length c2)).setCell ⟨S, 1, none⟩ (.int .i64 (B1.length : Int)) = w6 at *
        clear r0 r1 z0 z1
        have HL1 : Hid (B1.length ≤ 113) := Lib.hid (by rw [HB1.out, List.length_append, nb_len]; have := HLN.out.2; have := HL49.out; omega)
        go_wp2_with fail
        go_loopw [8] (fun i wr => ∃ m : Nat, m ≤ P.pay.size ∧ i = .int .i64 (m : Int) ∧ ∃ p c, Hid (ER w P F D S (B1 ++ pb ((byl P.pay).take m)) p c wr)) (fun i _ => (P.pay.size - (intOf i).toNat))
        case atStart => exact ⟨0, Nat.zero_le _, rfl, p2, c2, by rw [show B1 ++ pb ((byl P.pay).take 0) = B1 by simp [pb]]; exact H6⟩
        case round =>
          obtain ⟨m, hm, rfl, p, c, hR⟩ := hrel
          clear H6
          by_cases hm2 : m < P.pay.size
          · obtain ⟨s0, s1, _, _⟩ := hR.out.facts
            have a9 := (p_facts hR.out.pb).2.2.2.2.2.2.2.2.2
            have m0 : (0 : Int) ≤ (m : Int) := by omega
            have m64 : m < 64 := Nat.lt_of_lt_of_le hm2 HPY.out
            have m1 : (m : Int) < (P.pay.size : Int) := by omega
            have hsn : B1 ++ pb ((byl P.pay).take (m + 1)) = (B1 ++ pb ((byl P.pay).take m)) ++ nb (P.pay[m].toNat) 8 := by rw [byl_take _ _ hm2, pb_snoc, List.append_assoc]
            have hle : (B1 ++ pb ((byl P.pay).take m)).length ≤ 625 := by
              have := HL1.out
              have := HPY.out
              rw [List.length_append, pb_len, List.length_take]
              omega
            obtain ⟨y, hy⟩ : ∃ y : Nat, P.pay[m].toNat = y := ⟨_, rfl⟩
            have hy8 : y < 2 ^ 8 := by rw [← hy]; exact P.pay[m].toNat_lt
            rw [hy] at hsn
            have HX : Hid (IntKind.u64.wrap ((P.pay[m].toNat : Nat) : Int) = (y : Int)) := Lib.hid (by rw [hy, IntKind.wrap_u64]; omega)
            generalize B1 ++ pb ((byl P.pay).take m) = B at *
            obtain ⟨B2, hB2⟩ : ∃ B2, B2 = B1 ++ pb ((byl P.pay).take (m + 1)) := ⟨_, rfl⟩
            rw [← hB2] at hsn
            have HB2 := Lib.hid hB2
            have hA := append_bitsr (B := B) (v := y) (k := 8) (by decide) hy8 (by omega) hR.out.pc (hR.out.rd.keep (grown_drew (grown_refl wr none)))
            rw [← hsn] at hA
            have HA := Lib.hid hA
            have HR := hR
            clear hB2 hsn hA hR hle hy8 hy
            go_wp2_with fail
            go_region_law (first
              | (go_simp; go_at_call 46; (try simp only [HX.out]); refine HA.out.mono ?_; rintro e w7 ⟨p2, c2, rfl, hR2, hp2, hg7⟩; have H7 := Lib.hid ((HR.out.keep (grown_drew (grown_refl _ none))).keep hg7); have R7 := Lib.hid (And.intro hR2 hp2); obtain ⟨t0, t1, z0, z1⟩ := H7.out.facts; clear hR2 hp2 hg7))
            all_goals
              have HK : Hid (ER w P F D S B2 p2 c2 ((w7.setCell ⟨S, 0, none⟩ (.slice p2 (pk B2).length c2)).setCell ⟨S, 1, none⟩ (.int .i64 (B2.length : Int)))) := Lib.hid (H7.out.turn R7.out.1 R7.out.2)
              clear t0 t1 z0 z1 s0 s1 a9 H7 R7 HA HR
              generalize (w7.setCell ⟨S, 0, none⟩ (.slice p2 (pk B2).length c2)).setCell ⟨S, 1, none⟩ (.int .i64 (B2.length : Int)) = w8 at *
              go_wp2_with fail
              go_roundw
              case rel => exact ⟨m + 1, by omega, by go_num, p2, c2, by rw [← HB2.out]; exact HK⟩
              case measure => simp [intOf]; omega
          · obtain rfl : m = P.pay.size := by omega
            obtain ⟨B3, hB3⟩ : ∃ B, B = B1 ++ pb (byl P.pay) := ⟨_, rfl⟩
            have HB3 := Lib.hid hB3
            rw [List.take_of_length_le (by rw [byl_len]; exact Nat.le_refl _), ← hB3] at hR
            have HL3 : Hid (B3.length ≤ 625) := Lib.hid (by rw [HB3.out, List.length_append, pb_len, byl_len]; have := HL1.out; have := HPY.out; omega)
            have H9 := hR
            have a9 := (p_facts H9.out.pb).2.2.2.2.2.2.2.2.2
            obtain ⟨s0, s1, _, _⟩ := H9.out.facts
            clear hB3 hR hm2 hm
            go_wp2_with fail
            refine (check_bitsr (by have := HL3.out; omega) H9.out.pc H9.out.rd).mono ?_
            rintro e wa2 ⟨rfl, hg⟩
            have H10 := Lib.hid (H9.out.keep hg)
            clear s0 s1 hg H9 a9
            obtain ⟨s0, s1, z0, z1⟩ := H10.out.facts
            have hA2 := append_own (B := B3) (v := ck B3) (k := 16) (by decide) (by decide) (chk_lt _ _) (by have := HL3.out; omega) H10.out.pc H10.out.rd
            obtain ⟨B4, hB4⟩ : ∃ B, B = B3 ++ nb (ck B3) 16 := ⟨_, rfl⟩
            rw [← hB4] at hA2
            have HB4 := Lib.hid hB4
            have HA2 := Lib.hid hA2
            have HL4 : Hid (B4.length ≤ 641) := Lib.hid (by rw [hB4, List.length_append, nb_len]; have := HL3.out; omega)
            clear hB4 hA2
            go_wp2_with fail
            refine HA2.out.mono ?_
            rintro e wb ⟨p4, c4, rfl, hO4, hg⟩
            have hR4 := hO4.rd
            have hp4 := hO4.pc
            have HSb : Hid (S < wa2.heap.size + 2 ∧ w.heap.size ≤ wa2.heap.size + 2) := Lib.hid ⟨by have := World.lt_of_row' H10.out.sb; omega, by have := H10.out.gr.size; omega⟩
            have HO4 := Lib.hid (hO4.other (grown_store2 wb S (.slice p4 (pk B4).length c4) (.int .i64 (B4.length : Int))) HSb.out.1)
            have H11 := Lib.hid (H10.out.keep hg)
            have H12 := Lib.hid (H11.out.turn hR4 hp4)
            clear s0 s1 z0 z1
            obtain ⟨r0, r1, z0, z1⟩ := H11.out.facts
            clear hO4 hR4 hp4 hg H10 H11 HA2
            go_upto_region 17 with fail
            generalize (wb.setCell ⟨S, 0, none⟩ (.slice p4 (pk B4).length c4)).setCell ⟨S, 1, none⟩ (.int .i64 (B4.length : Int)) = wd at *
            obtain ⟨s0, s1, _, _⟩ := H12.out.facts
            clear r0 r1 z0 z1
            go_wp2_with fail
            refine (align_own (by have := HL4.out; omega) (by rw [HB4.out, List.length_append, nb_len]; omega) HO4.out).mono ?_
            rintro e we ⟨p5, c5, rfl, hO5, hg⟩
            have H13 := Lib.hid (H12.out.keep hg)
            clear s0 s1
            obtain ⟨r0, r1, z0, z1⟩ := H13.out.facts
            have HO5 := Lib.hid (hO5.other (grown_store2 we S (.slice p5 (pk B4).length c5) (.int .i64 ((8 * (pk B4).length : Nat) : Int))) HSb.out.1)
            clear hO5 hg H12
            go_wp2_with fail
            have hE : enc P = pk B4 := by unfold enc body; rw [← HB0.out, ← HB1.out, ← HB3.out, ← HB4.out]
            go_ret2
            refine ⟨p5, c5, by rw [hE]; rfl, ?_, ?_⟩
            · rw [hE]; exact (HO5.out.mono HSb.out.2)
            · exact grown_new H13.out.gr (grown_store2 we S _ _) (by have := H13.out.ne; omega)
end Go.Proofs.YtpabfjhjehjebaaDoor

/- The reference's EncodeFrame. -/
namespace Go.Proofs.YtpabfjhjehjebaaDoor
open Go.RowKit Bs
set_option maxRecDepth 100000 in
theorem own_lit1 (w : World) (x : Nat) : (w.alloc (.cells #[.int .u8 (x : Int)] 5)).ownsRow w.heap.size 5 1 (.slice (some ⟨w.heap.size, 0, none⟩) 1 1) 1 ([x].map nv) :=
  World.ownsRow_lit w #[.int .u8 (x : Int)] 1 (Nat.le_refl _) (by decide) rfl
set_option maxRecDepth 100000 in
theorem own_src {w : World} {base c : Nat} {p : Option Addr} {l : List Nat} (h : Own w base p c l) (hl : 0 < l.length) : ∃ g, p = some ⟨g, 0, none⟩ ∧ base ≤ g ∧ l.length ≤ c ∧ ∀ j u, (l.map nv)[j]? = some u → w.cell? ((⟨g, 0, none⟩ : Addr).add j) = some u := by
  obtain ⟨g, cap, e⟩ := Joins.ownsRow_form h.own hl
  injection e with e1 e2 e3
  subst e1
  exact ⟨g, rfl, (h.own.lt g rfl).1, (own_cap h.own).1, fun j u hj => h.own.cells (g := g) rfl j u hj⟩
set_option maxRecDepth 100000 in
theorem own_mk {w : World} {base n m : Nat} {v : Value} {A B : List Nat} (h : w.ownsRow base 5 1 v (n + m) (A.map nv ++ B.map nv)) (hn : A.length = n) (hm : B.length = m) (hA : By A) (hB : By B) (hp : 0 < n + m) :
    ∃ g c, v = .slice (some ⟨g, 0, none⟩) (A ++ B).length c ∧ base ≤ g ∧ Own w base (some ⟨g, 0, none⟩) c (A ++ B) := by
  obtain ⟨g, cap, rfl⟩ := Joins.ownsRow_form h hp
  have hl : (A ++ B).length = n + m := by rw [List.length_append]; omega
  refine ⟨g, cap, by rw [hl], (h.lt g rfl).1, ⟨by rw [hl, List.map_append]; exact h, (by intro e; cases e), ?_⟩⟩
  intro x hx
  rcases List.mem_append.1 hx with h1 | h1
  · exact hA x h1
  · exact hB x h1
set_option maxRecDepth 100000 in
theorem own_at {w : World} {base g c : Nat} {l : List Nat} (h : Own w base (some ⟨g, 0, none⟩) c l) : ∀ j u, (l.map nv)[j]? = some u → w.cell? ((⟨g, 0, none⟩ : Addr).add j) = some u := fun j u hj => h.own.cells (g := g) rfl j u hj
set_option maxRecDepth 100000 in
theorem own_alloc {w : World} {base c : Nat} {p : Option Addr} {l : List Nat} (h : Own w base p c l) (o : Obj) : Own (w.alloc o) base p c l := ⟨h.own.alloc o, h.pc, h.by_⟩
set_option maxRecDepth 100000 in
theorem own_keep {w w' : World} {base c : Nat} {p : Option Addr} {l : List Nat} (h : Own w base p c l) (g : w.grownBy w' none) : Own w' base p c l := ⟨h.own.kept g (by cases hv : (Value.slice p l.length c).ownBlock <;> simp), h.pc, h.by_⟩
set_option maxRecDepth 100000 in
set_option maxHeartbeats 6400000 in
theorem rencf_any (r : List Int) (P : Pk) (hP : P.Wf) (p : Option Addr) (c : Nat) (hc : r.length ≤ c ∧ c ≤ 9223372036854775807) (q : Nat → Prop) (w : World) (hR : Rd w q (.slice p r.length c) (r.map iv)) :
    Calls Tryd.prog 6 #[fval (.slice p r.length c) P] w fun e w' => EFPost r P w e w' := by
  have hfv : fval (.slice p r.length c) P = .agg #[.slice p r.length c, .int .i64 P.mode, .int .i64 P.sub, .int .i64 P.set, .int .i64 P.len, .int .i64 P.ttl, .int .i64 P.ent, .int .i64 P.ing, .int .i64 P.pro, .int .u64 (P.bits : Int), .string P.pay] := rfl
  rw [hfv]
  obtain ⟨j0, hj0, hy0, hy1, hy2⟩ := info_parts info_u8
  obtain ⟨i0, hi0, hz0, hz1, hz2⟩ := info_parts info_lab
  obtain ⟨k1, k2⟩ := sone_box w (frcells (.slice p r.length c) P) 33
  have HB := Lib.hid (And.intro k1 k2)
  obtain ⟨c0, c1, c2, c3, c4, c5, c6, c7, c8, c9, c10⟩ := fr_facts k1
  have HR := Lib.hid (hR.keep k2)
  have HFV := Lib.hid hfv
  have hval : P.val = .agg #[.int .i64 P.mode, .int .i64 P.sub, .int .i64 P.set, .int .i64 P.len, .int .i64 P.ttl, .int .i64 P.ent, .int .i64 P.ing, .int .i64 P.pro, .int .u64 (P.bits : Int), .string P.pay] := rfl
  have HV := Lib.hid hval
  have HC := Lib.hid hc
  clear hR hfv hval hc k1 k2
  go_enter Tryd.func6, Tryd.ntmps6
  go_upto_region 1 with fail
  have HB2 : Hid ((w.alloc (.cells #[.slice p r.length c, .int .i64 P.mode, .int .i64 P.sub, .int .i64 P.set, .int .i64 P.len, .int .i64 P.ttl, .int .i64 P.ent, .int .i64 P.ing, .int .i64 P.pro, .int .u64 (P.bits : Int), .string P.pay] 33)).heap[w.heap.size]? = some (.cells (frcells (.slice p r.length c) P) 33 (0, 0)) ∧ w.grownBy (w.alloc (.cells #[.slice p r.length c, .int .i64 P.mode, .int .i64 P.sub, .int .i64 P.set, .int .i64 P.len, .int .i64 P.ttl, .int .i64 P.ent, .int .i64 P.ing, .int .i64 P.pro, .int .u64 (P.bits : Int), .string P.pay] 33)) none) := HB
  clear HB
  unfold frcells at HR c0 c1 c2 c3 c4 c5 c6 c7 c8 c9 c10
  generalize w.alloc _ = wa at *
  go_wp2_with fail
  rw [← HFV.out]
  refine (rvfr_any r P hP p c (Nat.le_trans HC.out.1 HC.out.2) q wa HR.out).mono ?_
  rintro e w1 ⟨rfl, hg⟩
  have HB1 := Lib.hid (And.intro (kept_row HB2.out.1 hg (by simp)) (grown_trans HB2.out.2 hg))
  have HR1 := Lib.hid (HR.out.keep hg)
  clear hg HB2 HR c0 c1 c2 c3 c4 c5 c6 c7 c8 c9 c10
  cases hv : vfr r P
  · go_wp2_with fail
    go_ret2
    exact Or.inr ⟨hv, rfl, HB1.out.2⟩
  · obtain ⟨hr24, hra, hrr, hvp⟩ := vfr_parts hv
    obtain ⟨c0, c1, c2, c3, c4, c5, c6, c7, c8, c9, c10⟩ := fr_facts HB1.out.1
    have HVF := Lib.hid (And.intro hv (And.intro hra (And.intro hvp (enc_small hvp))))
    clear hv hra hrr hvp
    go_wp2_with fail
    rw [← HV.out]
    refine (rencodeo_any P hP HVF.out.2.2.1 w1).mono ?_
    rintro e w2 ⟨pE, cE, rfl, hO, hg⟩
    have hpos : 0 < (enc P).length := by rw [enc_len]; omega
    obtain ⟨gE, rfl, hgE, hcE, -⟩ := own_src hO hpos
    have HE := Lib.hid hO
    have HB3 := Lib.hid (And.intro (kept_row HB1.out.1 hg (by simp)) (grown_trans HB1.out.2 hg))
    have HR3 := Lib.hid (HR1.out.keep hg)
    obtain ⟨D, hD⟩ : ∃ D, enc P = D := ⟨_, rfl⟩
    have HEP := Lib.hid hD
    have h100 := HVF.out.2.2.2
    rw [hD] at HE hpos hcE h100 ⊢
    clear hg HB1 HR1 hO c0 c1 c2 c3 c4 c5 c6 c7 c8 c9 c10 hD
    obtain ⟨c0, c1, c2, c3, c4, c5, c6, c7, c8, c9, c10⟩ := fr_facts HB3.out.1
    clear c1 c2 c3 c4 c5 c6 c7 c8 c9 c10
    by_cases hr0 : r.length = 0
    · go_wp2_with (at_builtin; refine wpList_append_own _ rfl _ _ 23 rfl w2.heap.size 5 j0 (.int .u8 0) 1 1 Tryd.underlying23 hj0 hy0 hy1 hy2 rfl (by decide) _ 1 ([0].map nv) rfl (own_lit1 w2 0) ⟨gE, 0, none⟩ D.length cE (D.map nv) rfl (by simp) ?c1 ?c2 ?c3 ?c4 ?c5 ?_)
      case c1 => exact own_at (own_alloc HE.out _)
      case c2 => exact nv_one
      case c3 => unfold maxLen; omega
      case c4 => omega
      case c5 => simp
      intro v' w3 hown hgrow _
      obtain ⟨g3, c3, rfl, hg3, hO3⟩ := own_mk (A := [0]) (B := D) hown rfl rfl (by intro x hx; have := List.mem_singleton.1 hx; omega) HE.out.by_ (by omega)
      have HF := Lib.hid (And.intro hO3 (grown_new (World.grownBy_alloc w2 _ none) hgrow (Nat.le_refl _)))
      clear hown hgrow hO3
      go_wp2_with fail
      go_ret2
      have e0 : encF r P = [0] ++ D := by rw [← HEP.out]; have := encF_nil (P := P) hr0; rw [← this]; simp
      refine Or.inl ⟨HVF.out.1, some ⟨g3, 0, none⟩, c3, by rw [e0]; rfl, ?_, grown_trans HB3.out.2 HF.out.2⟩
      rw [e0]
      exact HF.out.1.mono HB3.out.2.size
    · obtain ⟨b, off, rfl, hq, hcc⟩ := rdi_cells HR3.out (by omega)
      have HCC := Lib.hid hcc
      have c0' := c0
      have HAL := Lib.hid (And.intro hr24 HVF.out.2.1)
      clear hcc hq c0
      have hr24' := hr24
      have hl0 : ((r.length : Int) == 0) = false := beq_eq_false_iff_ne.2 (by omega)
      clear hr24
      go_wp2_with fail
      go_loopw [6, 7] (fun v i wr => ∃ p6 c6 M, (M : List Lab).length ≤ r.length ∧ i = .int .i64 (M.length : Int) ∧ v = .slice p6 M.length c6 ∧ Hid ((r.take M.length).map lbR = M) ∧ Hid (OwnL wr w2.heap.size (.slice p6 M.length c6) M) ∧ Hid (w2.grownBy wr none)) (fun _ i _ => r.length - (intOf i).toNat)
      case atStart => exact ⟨none, 0, [], Nat.zero_le _, rfl, rfl, Lib.hid rfl, Lib.hid (World.ownsRow_nil _ _ _ _), Lib.hid (grown_refl _ _)⟩
      case round =>
        obtain ⟨p6, c6, M, hk, rfl, rfl, HM, HO6, HG6⟩ := hrel
        by_cases hlt : M.length < r.length
        · have d0 := HG6.out.cell c0' (by simp)
          have d1 := HG6.out.cell (HCC.out M.length hlt) (by simp)
          obtain ⟨z, hz⟩ : ∃ z, r.getD M.length 0 = z := ⟨_, rfl⟩
          rw [hz] at d1
          have hk2 : r[M.length]? = some z := by rw [← hz, List.getD_eq_getElem?_getD, List.getElem?_eq_getElem hlt]; rfl
          have hz9 : 1 ≤ z ∧ z ≤ 99 := by
            have := List.all_eq_true.1 HAL.out.2 z (List.mem_of_getElem? hk2)
            simpa [okR] using this
          have HK := Lib.hid hk2
          obtain ⟨hz9a, hz9b⟩ := hz9
          have hwz : IntKind.i64.wrap (16 + z) = 16 + z := by rw [IntKind.wrap_i64]; omega
          have hsz := HG6.out.size
          have k0 : (0 : Int) ≤ (M.length : Int) := by omega
          have k1 : (M.length : Int) < (r.length : Int) := by omega
          have hown := HO6.out
          clear hz hk2
          go_wp2_with (at_builtin; refine wpList_append_own _ rfl _ _ 53 rfl w2.heap.size 55 i0 (.agg #[.int .i64 0, .int .i64 0, .int .i64 0]) 3 24 Tryd.underlying53 hi0 hz0 hz1 hz2 rfl (by decide) _ M.length (labsC M) rfl (hown.alloc _) ⟨wr.heap.size, 0, none⟩ 1 1 [.int .i64 (16 + z), .int .i64 0, .int .i64 255] rfl rfl ?c1 ?c2 ?c3 ?c4 ?c5 ?_)
          case c1 => exact cells3 _ _ _ _ _
          case c2 => intro u hu; simp at hu; rcases hu with rfl | rfl | rfl <;> rfl
          case c3 => unfold maxLen; omega
          case c4 => omega
          case c5 => first | omega | (simp; omega)
          intro v' w6 hown' hg _
          obtain ⟨g6, cap6, rfl⟩ := Joins.ownsRow_form hown' (by omega)
          have hM2 : (r.take (M.length + 1)).map lbR = M ++ [lbR z] := by
            rw [List.take_add_one, HK.out, List.map_append, HM.out]; rfl
          have HO7 : Hid (OwnL w6 w2.heap.size (.slice (some ⟨g6, 0, none⟩) (M ++ [lbR z]).length cap6) (M ++ [lbR z])) := Lib.hid (by
            show w6.ownsRow _ _ 3 _ (M ++ [lbR z]).length (labsC (M ++ [lbR z]))
            rw [List.length_append, labsC_snoc]
            exact hown')
          have HG7 : Hid (w2.grownBy w6 none) := Lib.hid (by
            have h1 := grown_trans HG6.out (World.grownBy_alloc wr (.cells #[.int .i64 (16 + z), .int .i64 0, .int .i64 255] 55) none)
            cases hb : (Value.slice p6 M.length c6).ownBlock with
            | none => rw [hb] at hg; exact grown_trans h1 hg
            | some g => rw [hb] at hg; exact grown_new h1 hg (hown.lt g hb).1)
          have HM7 : Hid ((r.take (M ++ [lbR z]).length).map lbR = M ++ [lbR z]) := Lib.hid (by rw [List.length_append]; exact hM2)
          clear hown' hg hown hM2 HO6 HG6 d0 d1
          go_wp2_with fail
          go_roundw
          case rel => exact ⟨some ⟨g6, 0, none⟩, cap6, M ++ [lbR z], by rw [List.length_append]; simp; omega, by simp, by simp, HM7, HO7, HG7⟩
          case measure => simp [intOf]; omega
        · have hke : M.length = r.length := by omega
          have hMr : M = r.map lbR := by rw [← HM.out, hke, List.take_length]
          have d0 := HG6.out.cell c0' (by simp)
          obtain ⟨q1, q2⟩ := encL_route HAL.out.2 (by omega) HAL.out.1
          have C := rencl_any M p6 c6 (by omega) _ wr (rdk_of_own HO6.out)
          rw [hMr] at C
          have HQ := Lib.hid (And.intro q1 q2)
          have HMR := Lib.hid hMr
          have hlM : (r.map lbR).length = M.length := by rw [hMr]
          rw [hlM] at C
          clear q1 q2 hMr hke hlM
          go_wp2_with fail
          refine C.mono ?_
          clear C
          rintro e w4 ⟨p4, c4, rfl, hO4, hg4⟩
          rw [HQ.out.1, HQ.out.2]
          rw [HQ.out.2] at hO4
          obtain ⟨E, hE⟩ : ∃ E, encL (r.map lbR) = E := ⟨_, rfl⟩
          rw [hE] at hO4 ⊢
          have hEl : E.length = 4 * r.length := by rw [← hE, encL_len, List.length_map]
          obtain ⟨g4, rfl, hg4b, hc4, -⟩ := own_src hO4 (by omega)
          have HO4 := Lib.hid hO4
          have HGE := Lib.hid (own_keep HE.out (grown_trans HG6.out hg4))
          have HG4 := Lib.hid (grown_trans HB3.out.2 (grown_trans HG6.out hg4))
          have HEE := Lib.hid hE
          have hE96 : 0 < E.length ∧ E.length ≤ 96 := by omega
          clear hO4 hg4 hE hEl HO6 HG6 HQ HMR HM d0 HCC
          go_wp2_with (at_builtin; refine wpList_append_own _ rfl _ _ 23 rfl w4.heap.size 5 j0 (.int .u8 0) 1 1 Tryd.underlying23 hj0 hy0 hy1 hy2 rfl (by decide) _ 1 ([1].map nv) rfl (own_lit1 w4 1) ⟨g4, 0, none⟩ E.length c4 (E.map nv) rfl (by simp) ?c1 ?c2 ?c3 ?c4 ?c5 ?_)
          case c1 => exact own_at (own_alloc HO4.out _)
          case c2 => exact nv_one
          case c3 => unfold maxLen; omega
          case c4 => omega
          case c5 => simp
          intro v5 w5 hown hgrow _
          obtain ⟨g5, c5, rfl, hg5, hO5⟩ := own_mk (A := [1]) (B := E) hown rfl rfl (by intro x hx; have := List.mem_singleton.1 hx; omega) HO4.out.by_ (by omega)
          have HG5 := Lib.hid (grown_new (World.grownBy_alloc w4 _ none) hgrow (Nat.le_refl _))
          have HGE5 := Lib.hid (own_keep HGE.out HG5.out)
          obtain ⟨F, hF⟩ : ∃ F, [1] ++ E = F := ⟨_, rfl⟩
          have hFl : F.length = 1 + E.length := by rw [← hF]; simp; omega
          rw [hF] at hO5 ⊢
          have HF := Lib.hid hF
          have HO5 := Lib.hid hO5
          have hown5 := hO5.own
          have hs5 := HG5.out.size
          clear hown hgrow hO5 hF HO4 HGE
          go_wp2_with (at_builtin; refine wpList_append_own _ rfl _ _ 23 rfl w4.heap.size 5 j0 (.int .u8 0) 1 1 Tryd.underlying23 hj0 hy0 hy1 hy2 rfl (by decide) _ F.length (F.map nv) rfl hown5 ⟨gE, 0, none⟩ D.length cE (D.map nv) rfl (by simp) ?c1 ?c2 ?c3 ?c4 ?c5 ?_)
          case c1 => exact own_at HGE5.out
          case c2 => exact nv_one
          case c3 => unfold maxLen; omega
          case c4 => omega
          case c5 => exact hs5
          intro v7 w7 hown hgrow _
          obtain ⟨g7, c7, rfl, hg7, hO7⟩ := own_mk (A := F) (B := D) hown (by first | rfl | exact hFl) rfl HO5.out.by_ HGE5.out.by_ (by omega)
          have HX7 := Lib.hid (And.intro hO7 (grown_new (grown_trans HG4.out HG5.out) hgrow (Nat.le_trans HG4.out.size hg5)))
          clear hown hgrow hO7 hown5
          go_wp2_with fail
          go_ret2
          have e0 : encF r P = F ++ D := by
            rw [← HEP.out, ← HF.out, ← HEE.out, ← encF_some (P := P) hr0]; simp
          refine Or.inl ⟨HVF.out.1, some ⟨g7, 0, none⟩, c7, by rw [e0]; rfl, ?_, HX7.out.2⟩
          rw [e0]
          exact HX7.out.1.mono HG4.out.size
end Go.Proofs.YtpabfjhjehjebaaDoor

/- The reference's DecodeLabels. -/
namespace Go.Proofs.YtpabfjhjehjebaaDoor
open Go.RowKit Bs
set_option maxRecDepth 100000 in
theorem i64_or_nat (a b : Nat) (ha : a < 4294967296) (hb : b < 4294967296) : bits .or .i64 (a : Int) (b : Int) = ((a ||| b : Nat) : Int) := by
  have hx : a ||| b < 2 ^ 32 := Nat.or_lt_two_pow (by omega) (by omega)
  show IntKind.i64.wrap ((BitVec.ofInt 64 (a : Int) ||| BitVec.ofInt 64 (b : Int)).toNat : Int) = _
  rw [BitVec.toNat_or, ofInt_u64 a (by omega), ofInt_u64 b (by omega)]
  exact IntWalk.i64_in _ (by omega)
set_option maxRecDepth 100000 in
theorem labN_int (n : Nat) : labN n = ⟨(n : Int) / 4096, (n : Int) / 512 % 8, (n : Int) % 256⟩ := by
  unfold labN
  simp
set_option maxRecDepth 100000 in
theorem botN_int (n : Nat) : botN n = decide ((n : Int) / 256 % 2 = 1) := by
  unfold botN
  rw [Bool.eq_iff_iff, beq_iff_eq, decide_eq_true_eq]
  omega
set_option maxRecDepth 100000 in
theorem word_ori {a b c d : Nat} (ha : a < 256) (hb : b < 256) (hc : c < 256) (hd : d < 256) :
    bits .or .i64 (bits .or .i64 (bits .or .i64 (((a : Nat) : Int) * 16777216) ((b : Nat) * 65536)) ((c : Nat) * 256)) (d : Nat) = ((a * 16777216 + b * 65536 + c * 256 + d : Nat) : Int) := by
  have e1 : ((a : Nat) : Int) * 16777216 = ((a * 16777216 : Nat) : Int) := by omega
  have e2 : ((b : Nat) : Int) * 65536 = ((b * 65536 : Nat) : Int) := by omega
  have e3 : ((c : Nat) : Int) * 256 = ((c * 256 : Nat) : Int) := by omega
  have o1 : a * 16777216 ||| b * 65536 = a * 16777216 + b * 65536 := or_join (k := 24) (by omega)
  have o2 : (a * 16777216 + b * 65536) ||| c * 256 = a * 16777216 + b * 65536 + c * 256 := by
    have := or_join (a := a * 256 + b) (b := c * 256) (k := 16) (by omega)
    have e : (a * 256 + b) * 2 ^ 16 = a * 16777216 + b * 65536 := by omega
    rw [e] at this
    exact this
  have o3 : (a * 16777216 + b * 65536 + c * 256) ||| d = a * 16777216 + b * 65536 + c * 256 + d := by
    have := or_join (a := a * 65536 + b * 256 + c) (b := d) (k := 8) (by omega)
    have e : (a * 65536 + b * 256 + c) * 2 ^ 8 = a * 16777216 + b * 65536 + c * 256 := by omega
    rw [e] at this
    exact this
  rw [e1, e2, e3, i64_or_nat _ _ (by omega) (by omega), o1, i64_or_nat _ _ (by omega) (by omega), o2, i64_or_nat _ _ (by omega) (by omega), o3]
set_option maxRecDepth 100000 in
set_option maxHeartbeats 3200000 in
theorem rdecl_any (L : List Nat) (hL : By L) (p : Option Addr) (c : Nat) (hc : L.length ≤ c) (hcm : c ≤ 9223372036854775807) (q : Nat → Prop) (w : World) (hR : Rd w q (.slice p L.length c) (L.map nv)) :
    Calls Tryd.prog 31 #[.slice p L.length c] w fun e w' => DLPost L w e w' := by
  obtain ⟨i0, hi, hz0, hz1, hz2⟩ := info_parts info_lab
  have HR := Lib.hid hR
  have HL := Lib.hid hL
  have HC := Lib.hid (And.intro hc hcm)
  clear hR hL hc hcm
  have HM : Hid (decM L = decGo L 24 0) := Lib.hid rfl
  go_enter Tryd.func31, Tryd.ntmps31
  go_wp2_with fail
  go_loopw [5, 6] (fun v a wr => ∃ k : Nat, k < 24 ∧ a = .int .i64 ((4 * k : Nat) : Int) ∧ OwnL wr w.heap.size v (labsN L k) ∧ w.grownBy wr none ∧ decM L = decGo L (24 - k) k ∧ ∃ p2 c2, v = .slice p2 k c2) (fun _ a _ => 24 - (intOf a).toNat / 4)
  case atStart => exact ⟨0, by omega, rfl, World.ownsRow_nil _ _ _ _, grown_refl _ _, HM.out, none, 0, rfl⟩
  case round =>
    obtain ⟨k, hk, rfl, hO, hG, hM, p2, c2, rfl⟩ := hrel
    have HO := Lib.hid hO
    have HG := Lib.hid hG
    have HM2 := Lib.hid hM
    clear hO hG hM HM
    by_cases hs : L.length < 4 * k + 4
    · go_wp2_with fail
      go_ret3
      exact dl_err (by rw [HM2.out, show 24 - k = (23 - k) + 1 by omega, decGo, if_pos hs]) HG.out
    · obtain ⟨b, off, rfl, hb, hcc⟩ := rd_cells (HR.out.keep HG.out) (by omega)
      have hle : 4 * k ≤ L.length := by omega
      have hlc := HC.out.1
      have hlm := Nat.le_trans HC.out.1 HC.out.2
      have c0 := hcc (4 * k) (by omega)
      have c1 := hcc (4 * k + 1) (by omega)
      have c2' := hcc (4 * k + 2) (by omega)
      have c3 := hcc (4 * k + 3) (by omega)
      have y0 := HL.out.at_ (j := 4 * k) (by omega)
      have y1 := HL.out.at_ (j := 4 * k + 1) (by omega)
      have y2 := HL.out.at_ (j := 4 * k + 2) (by omega)
      have y3 := HL.out.at_ (j := 4 * k + 3) (by omega)
      have HW : Hid (word4 L k = L.getD (4 * k) 0 * 16777216 + L.getD (4 * k + 1) 0 * 65536 + L.getD (4 * k + 2) 0 * 256 + L.getD (4 * k + 3) 0) := Lib.hid rfl
      have HWO := Lib.hid (word_ori y0 y1 y2 y3)
      have HY := Lib.hid (word4_lt HL.out k)
      clear hcc
      generalize L.getD (4 * k) 0 = x0 at *
      generalize L.getD (4 * k + 1) 0 = x1 at *
      generalize L.getD (4 * k + 2) 0 = x2 at *
      generalize L.getD (4 * k + 3) 0 = x3 at *
      have l0 : 4 * k < L.length := by omega
      have l1 : 4 * k + 1 < L.length := by omega
      have l2 : 4 * k + 2 < L.length := by omega
      have l3 : 4 * k + 3 < L.length := by omega
      go_wp2_with fail
      go_region
      rw [HWO.out, ← HW.out]
      obtain ⟨n, hn⟩ : ∃ n, word4 L k = n := ⟨_, rfl⟩
      have hY := HY.out
      rw [hn] at hY ⊢
      have HN := Lib.hid hn
      have HO1 : Hid (OwnL wr.drew w.heap.size (.slice p2 k c2) (labsN L k)) := Lib.hid HO.out.drew
      have HG1 := hid_drew HG
      clear HO HG hn HY HW HWO c0 c1 c2' c3 y0 y1 y2 y3
      generalize wr.drew = w1 at *
      go_wp2_with (at_builtin; refine wpList_append_own _ rfl _ _ 53 rfl w.heap.size 55 i0 (.agg #[.int .i64 0, .int .i64 0, .int .i64 0]) 3 24 Tryd.underlying53 hi hz0 hz1 hz2 rfl (by decide) (.slice p2 k c2) (labsN L k).length (labsC (labsN L k)) rfl (HO1.out.alloc _) ⟨w1.heap.size, 0, none⟩ 1 1 [.int .i64 ((n : Int) / 4096), .int .i64 ((n : Int) / 512 % 8), .int .i64 ((n : Int) % 256)] rfl rfl ?c1 ?c2 ?c3 ?c4 ?c5 ?_)
      case c1 => exact cells3 _ _ _ _ _
      case c2 => intro u hu; simp at hu; rcases hu with rfl | rfl | rfl <;> rfl
      case c3 => rw [labsN_len]; unfold maxLen; omega
      case c4 => rw [labsN_len]; omega
      case c5 => have := HG1.out.size; simp; omega
      intro v' w2 hown2 hg2 _
      obtain ⟨O2, G2⟩ := dl_step (l := ⟨(n : Int) / 4096, (n : Int) / 512 % 8, (n : Int) % 256⟩) HG1.out HO1.out (by rw [HN.out, labN_int]) hg2 hown2
      have HO2 := Lib.hid O2
      have HG2 := Lib.hid G2
      clear hown2 hg2 O2 G2 HO1 HG1
      have HM3 : Hid (decM L = if botN n = true then (k + 1, 0) else decGo L (23 - k) (k + 1)) := by
        refine Lib.hid ?_
        rw [HM2.out, show 24 - k = (23 - k) + 1 by omega, decGo, if_neg hs, HN.out]
      have HBN := Lib.hid (botN_int n)
      clear HM2
      by_cases hz : (n : Int) / 256 % 2 = 1
      · go_wp2_with fail
        go_ret3
        have e : decM L = (k + 1, 0) := by rw [HM3.out, HBN.out, if_pos (by simpa using hz)]
        have e2 : 4 * (k : Int) + 4 = ((4 * (k + 1) : Nat) : Int) := by omega
        refine ⟨v', ?_, ?_, HG2.out⟩
        · show Ending.returned (.tuple #[v', .int .i64 (4 * (k : Int) + 4), .int .i64 0]) = _
          rw [e2, e]
        · rw [e]
          exact HO2.out
      · have e : decM L = decGo L (23 - k) (k + 1) := by rw [HM3.out, HBN.out, if_neg (by simpa using hz)]
        have HE := Lib.hid e
        obtain ⟨g, cap, hv⟩ := Joins.ownsRow_form HO2.out (by rw [labsN_len]; omega)
        rw [labsN_len] at hv
        subst hv
        clear e
        by_cases h24 : k + 1 = 24
        · obtain rfl : k = 23 := by omega
          go_wp2_with fail
          go_ret3
          exact dl_err (by rw [HE.out]; rfl) HG2.out
        · have h24' : (k : Int) + 1 ≠ 24 := by omega
          go_wp2_with fail
          refine ⟨⟨k + 1, by omega, congrArg _ (by omega), HO2.out, HG2.out, by rw [HE.out, show 24 - (k + 1) = 23 - k by omega], _, _, rfl⟩, ?_⟩
          simp only [intOf]
          omega
end Go.Proofs.YtpabfjhjehjebaaDoor

/- packet: what the reference's Decode calls. -/
namespace Go.Proofs.YtpabfjhjehjebaaDoor
open Go.RowKit Bs
section
variable {w : World} {q : Nat → Prop} {l : List Nat} {p : Option Addr} {c : Nat}
set_option maxRecDepth 100000 in
theorem slice_wholer {A T : Nat} {a b : Int} (t : Int) (ht : t = (T : Int)) (hl : By l) (h : 8 * l.length ≤ 8192) (hT : A + T ≤ 8 * l.length) (ha : a = (A : Int)) (hb : b = ((A + T : Nat) : Int)) (hR : Rd w q (.slice p l.length c) (l.map nv)) :
    Calls Tryd.prog 64 #[.agg #[.slice p l.length c, .int .i64 (8 * (l.length : Int))], .int .i64 a, .int .i64 b] w fun e w' =>
      ∃ p2 c2, e = .returned (.tuple #[.agg #[.slice p2 (pz (fun i => bt l (A + i)) T ((T + 7) / 8)).length c2, .int .i64 t], .int .i64 0]) ∧ Rd w' (fun _ => True) (.slice p2 (pz (fun i => bt l (A + i)) T ((T + 7) / 8)).length c2) ((pz (fun i => bt l (A + i)) T ((T + 7) / 8)).map nv) ∧ (p2 = none → c2 = 0) ∧ w.grownBy w' none := by
  subst ha hb ht
  refine (slicer_any l (8 * (l.length : Int)) (A : Int) ((A + T : Nat) : Int) _ p c hl (by unfold I64; omega) (by unfold I64; omega) w (fun _ h => h) hR.bound).mono fun e w' hp => ?_
  have hv := slV_ok (l := l) (N := 8 * l.length) (A := A) (T := T) (vs_whole h) rfl hT
  rw [Int.natCast_mul] at hv
  change slV l (8 * (l.length : Int)) _ _ = _ at hv
  rw [hv] at hp
  obtain ⟨u, he, ⟨p2, c2, rfl, h1, h2, _⟩, hg⟩ := hp
  exact ⟨p2, c2, he, h1, h2, hg⟩
set_option maxRecDepth 100000 in
theorem take_wholer {A K : Nat} {a k : Int} (hl : By l) (h : 8 * l.length ≤ 8192) (hK : K ≤ 64) (hT : A + K ≤ 8 * l.length) (ha : a = (A : Int)) (hk : k = (K : Int)) (hR : Rd w q (.slice p l.length c) (l.map nv)) :
    Calls Tryd.prog 61 #[.agg #[.slice p l.length c, .int .i64 (8 * (l.length : Int))], .int .i64 a, .int .i64 k] w fun e w' => e = .returned (.tuple #[.int .u64 ((num (bt l) A K : Nat) : Int), .int .i64 0]) ∧ w.grownBy w' none := by
  subst ha hk
  refine (taker_any l (8 * (l.length : Int)) (A : Int) (K : Int) _ p c hl (by unfold I64; omega) w (fun _ h => h) hR.bound).mono fun e w' hp => ?_
  obtain ⟨he, hg⟩ := hp
  have hv := takeV_ok (l := l) (n := ((8 * l.length : Nat) : Int)) (a := (A : Int)) (k := (K : Int)) (vs_whole h) (by unfold vw; simp; omega) (by omega) (by omega)
  rw [Int.natCast_mul, Int.toNat_natCast, Int.toNat_natCast] at hv
  change takeV l (8 * (l.length : Int)) _ _ = _ at hv
  rw [hv] at he
  exact ⟨he, hg⟩
set_option maxRecDepth 100000 in
theorem check_partr {T : Nat} {t : Int} (ht : t = (T : Int)) (h : T ≤ 8 * l.length) (h2 : 8 * l.length ≤ 8192) (hR : Rd w q (.slice p (pz (fun i => bt l (0 + i)) T ((T + 7) / 8)).length c) ((pz (fun i => bt l (0 + i)) T ((T + 7) / 8)).map nv)) :
    Calls Tryd.prog 47 #[.agg #[.slice p (pz (fun i => bt l (0 + i)) T ((T + 7) / 8)).length c, .int .i64 t]] w fun e w' => e = .returned (.tuple #[.int .u64 ((chk (bt l) T : Nat) : Int), .int .i64 0]) ∧ w.grownBy w' none := by
  subst ht
  refine (checkr_any _ (T : Int) _ p c (pz_lt _ _ _) w (fun _ h => h) hR.bound).mono fun e w' hp => ?_
  obtain ⟨he, hg⟩ := hp
  have hvs : vs (pz (fun i => bt l (0 + i)) T ((T + 7) / 8)) (T : Int) = true := by
    refine vs_iff.2 ⟨by omega, pz_len _ _ _, fun i hi hn => ?_⟩
    rw [pz_len] at hi
    rw [bt_pz _ _ _ _ hi]
    simp; omega
  rw [chkV_ok hvs] at he
  rw [← chk_same (f := bt (pz (fun i => bt l (0 + i)) T ((T + 7) / 8))) (g := bt l) T fun i hi => by rw [bt_pz _ _ _ _ (by omega)]; simp [hi]]
  exact ⟨he, hg⟩
end
set_option maxRecDepth 100000 in
theorem decoded_any (v : Nat) (hv : v < 4) (w : World) :
    Calls Tryd.prog 62 #[.int .i64 (v : Int)] w fun e w' => e = .returned (.int .i64 ((8 * 2 ^ v : Nat) : Int)) ∧ w = w' := by
  rcases (show v = 0 ∨ v = 1 ∨ v = 2 ∨ v = 3 by omega) with rfl | rfl | rfl | rfl
  all_goals
    go_enter Tryd.func62, Tryd.ntmps62
    go_wp2_with fail
    go_ret
    exact ⟨rfl, rfl⟩
/-- The result's box, the stream's, the widths, while the reference decodes. -/
structure DR (W : World) (S D : Nat) (t : List Nat) (p : Option Addr) (c : Nat) (w : World) : Prop where
  zb : w.heap[W.heap.size]? = some (.cells zpk 31 (0, 0))
  sb : w.heap[S]? = some (.cells #[.slice p t.length c, .int .i64 (8 * (t.length : Int))] 74 (0, 0))
  db : w.heap[D]? = some (.cells wcells 3 (0, 0))
  rd : Rd w (· < W.heap.size) (.slice p t.length c) (t.map nv)
  gr : W.grownBy w none
section
variable {W w w1 : World} {S D : Nat} {t : List Nat} {p : Option Addr} {c : Nat}
theorem DR.keep (H : DR W S D t p c w) (k : w.grownBy w1 none) : DR W S D t p c w1 :=
  ⟨kept_row H.zb k (by simp), kept_row H.sb k (by simp), kept_row H.db k (by simp), H.rd.keep k, grown_trans H.gr k⟩
theorem DR.facts (H : DR W S D t p c w) : w.cell? ⟨S, 0, none⟩ = some (.slice p t.length c) ∧ w.cell? ⟨S, 1, none⟩ = some (.int .i64 (8 * (t.length : Int))) :=
  ⟨(row_cells H.sb).1, (row_cells H.sb).2⟩
end
/-- The list of the fields, while it is made. -/
def Flds (wb : World) (V : Nat → Nat) (k : Nat) (v : Value) (w : World) : Prop := w.ownsRow wb.heap.size 3 1 v k ((List.range k).map fun j => zv (V j)) ∧ wb.grownBy w none
theorem flds_next {wb wr w1 : World} {V : Nat → Nat} {k : Nat} {v v' : Value} {o : Obj} (h : Flds wb V k v wr) (hown : w1.ownsRow wb.heap.size 3 1 v' (k + 1) (((List.range k).map fun j => zv (V j)) ++ [zv (V k)])) (hg : (wr.alloc o).grownBy w1 v.ownBlock) : Flds wb V (k + 1) v' w1 := by
  refine ⟨?_, own_step h.2 h.1 hg⟩
  rw [List.range_succ, List.map_append]
  exact hown
theorem flds_keep {wb wr w1 : World} {V : Nat → Nat} {k : Nat} {v : Value} (h : Flds wb V k v wr) (g : wr.grownBy w1 none) : Flds wb V k v w1 :=
  ⟨h.1.kept g (by cases hv : v.ownBlock <;> simp), grown_trans h.2 g⟩
theorem own_cell2 {w : World} {base g n cap k : Nat} {e : TypeId} {xs : List Value} {x : Value} (h : w.ownsRow base e 1 (.slice (some ⟨g, 0, none⟩) n cap) n xs) (hk : xs[k]? = some x) : w.cell? ⟨g, k, none⟩ = some x := by
  obtain ⟨p, c, hv, hc⟩ := rd_of_own h
  injection hv with h1 _ _
  obtain ⟨b, off, hp, _, hx⟩ := hc (by intro e2; rw [e2] at hk; cases hk)
  rw [hp] at h1
  have h2 := Option.some.inj h1
  injection h2 with h3 h4 _
  have := hx k x hk
  rw [← h3, ← h4, Nat.zero_add] at this
  exact this
theorem flds_cell {wb w : World} {V : Nat → Nat} {g n cap j : Nat} (h : Flds wb V n (.slice (some ⟨g, 0, none⟩) n cap) w) (hj : j < n) : w.cell? ⟨g, j, none⟩ = some (.int .i64 ((V j : Nat) : Int)) :=
  own_cell2 h.1 (by rw [List.getElem?_map, List.getElem?_range hj]; rfl)
end Go.Proofs.YtpabfjhjehjebaaDoor

/- packet: what the reference's Decode keeps, its payload, its answer. -/
namespace Go.Proofs.YtpabfjhjehjebaaDoor
open Go.RowKit Bs
/-- The boxes and the fields, while the reference decodes behind the header. -/
structure RR (W wb : World) (S D gf cf B : Nat) (V : Nat → Nat) (n b : Nat) (s : ByteArray) (t : List Nat) (p : Option Addr) (c : Nat) (w : World) : Prop where
  dr : DR W S D t p c w
  fl : Flds wb V 10 (.slice (some ⟨gf, 0, none⟩) 10 cf) w
  pb : w.heap[B]? = some (.cells (rcells V (n : Int) b s) 31 (0, 0))
  ne : W.heap.size < B ∧ S ≠ B ∧ D ≠ B ∧ gf ≠ B ∧ wb.heap.size ≤ B
section
variable {W wb w w1 : World} {S D gf cf B : Nat} {V : Nat → Nat} {n b : Nat} {s : ByteArray} {t : List Nat} {p : Option Addr} {c : Nat}
theorem RR.keep (H : RR W wb S D gf cf B V n b s t p c w) (k : w.grownBy w1 none) : RR W wb S D gf cf B V n b s t p c w1 :=
  ⟨H.dr.keep k, flds_keep H.fl k, kept_row H.pb k (by simp), H.ne⟩
theorem DR.other (H : DR W S D t p c w) (k : w.grownBy w1 (some B)) (h1 : W.heap.size < B) (h2 : S ≠ B) (h3 : D ≠ B) : DR W S D t p c w1 :=
  ⟨kept_row H.zb k (fun e => by have := Option.some.inj e; omega), kept_row H.sb k (fun e => h2 (Option.some.inj e)), kept_row H.db k (fun e => h3 (Option.some.inj e)), H.rd.grown k (fun b hb e => by have := Option.some.inj e; omega), grown_new H.gr k (by omega)⟩
theorem RR.stores (H : RR W wb S D gf cf B V n b s t p c w) {k : Nat} {v : Value} {b' : Nat} {s' : ByteArray} (h : (rcells V (n : Int) b s).setIfInBounds k v = rcells V (n : Int) b' s') : RR W wb S D gf cf B V n b' s' t p c (w.setCell ⟨B, k, none⟩ v) := by
  have j := grown_setCell w ⟨B, k, none⟩ v
  obtain ⟨h1, h2, h3, h4, h5⟩ := H.ne
  refine ⟨H.dr.other j h1 h2 h3, ⟨H.fl.1.kept j (.inr (fun e => h4 (Option.some.inj (show some gf = some B from e)))), grown_new H.fl.2 j h5⟩, ?_, H.ne⟩
  rw [← h]
  exact heap_setCell_same w _ k _ _ _ H.pb
theorem RR.bits (H : RR W wb S D gf cf B V n b s t p c w) (b' : Nat) : RR W wb S D gf cf B V n b' s t p c (w.setCell ⟨B, 8, none⟩ (.int .u64 (b' : Int))) := H.stores rfl
theorem RR.pay (H : RR W wb S D gf cf B V n b s t p c w) (s' : ByteArray) : RR W wb S D gf cf B V n b s' t p c (w.setCell ⟨B, 9, none⟩ (.string s')) := H.stores rfl
end
/-- The bytes of the payload, while they are read. -/
def pyl (t : List Nat) (A j : Nat) : List Nat := (List.range j).map fun i => num (bt t) (A + 8 * i) 8
def PayRel (wb : World) (t : List Nat) (A j : Nat) (v : Value) (w : World) : Prop := w.ownsRow wb.heap.size 5 1 v j ((pyl t A j).map nv) ∧ (j = 0 → v = .slice none 0 0) ∧ wb.grownBy w none
theorem pyl_next (t : List Nat) (A j : Nat) : pyl t A (j + 1) = pyl t A j ++ [num (bt t) (A + 8 * j) 8] := by unfold pyl; rw [List.range_succ, List.map_append]; rfl
theorem pyl_len (t : List Nat) (A j : Nat) : (pyl t A j).length = j := by unfold pyl; simp
theorem pyl_by (t : List Nat) (A j : Nat) : By (pyl t A j) := by
  intro x hx
  unfold pyl at hx
  obtain ⟨i, _, rfl⟩ := List.mem_map.1 hx
  exact num_lt _ _ 8
theorem pay_next {wb wr w1 : World} {t : List Nat} {A j : Nat} {v v' : Value} {o : Obj} (h : PayRel wb t A j v wr) (hown : w1.ownsRow wb.heap.size 5 1 v' (j + 1) ((pyl t A j).map nv ++ [nv (num (bt t) (A + 8 * j) 8)])) (hg : (wr.alloc o).grownBy w1 v.ownBlock) : PayRel wb t A (j + 1) v' w1 := by
  refine ⟨?_, fun e => by omega, own_step h.2.2 h.1 hg⟩
  rw [pyl_next, List.map_append]
  exact hown
theorem pay_keep {wb wr w1 : World} {t : List Nat} {A j : Nat} {v : Value} (h : PayRel wb t A j v wr) (g : wr.grownBy w1 none) : PayRel wb t A j v w1 :=
  ⟨h.1.kept g (by cases hv : v.ownBlock <;> simp), h.2.1, grown_trans h.2.2 g⟩
theorem pay_conv {wb w : World} {t : List Nat} {A j : Nat} {v : Value} (h : PayRel wb t A j v w) : (convert 23 9 v).run Tryd.prog w = .ok (.string (bs (pyl t A j))) w := by
  by_cases h0 : j = 0
  · rw [h.2.1 h0]
    subst h0
    exact conv_nv (l := pyl t A 0) (q := fun _ => True) (pyl_by t A 0) rfl (Rd.nil_ _ _ _ _) (fun _ => rfl)
  · obtain ⟨g, cap, rfl, _⟩ := own_form h.1 (by omega)
    have hr := rd_of_own h.1
    exact conv_nv (pyl_by t A j) (pyl_len t A j).symm hr (by simp)
/-- The error behind the header. -/
def cErr (t : List Nat) (K sz : Nat) : Int := if num (bt t) K 16 ≠ chk (bt t) K then 23 else if num (bt t) (K + 16) (8 * sz - (K + 16)) ≠ 0 then 24 else 0
theorem dec_rest {l t : List Nat} {V : Nat → Nat} {n sz K : Nat} (ht : t = l.take 128) (hs : sz ≤ 81) (hl : sz ≤ l.length) (hK : K = 49 + n + 8 * V 9) (hKs : K + 16 ≤ 8 * sz) :
    restV V n (l.take sz) = if cErr t K sz = 0 then (rcells V (n : Int) (num (bt t) 49 n) (bs (pyl t (49 + n) (V 9))), 0) else (zpk, cErr t K sz) := by
  have bb : ∀ i, i < 8 * sz → bt (l.take sz) i = bt t i := fun i hi => by rw [ht, bt_take hi, bt_take (by omega)]
  have e1 : ∀ a k, a + k ≤ 8 * sz → num (bt (l.take sz)) a k = num (bt t) a k := fun a k h => num_congr k fun i hi => bb _ (by omega)
  have e2 : chk (bt (l.take sz)) K = chk (bt t) K := chk_same _ fun i hi => bb i (by omega)
  have e3 : (l.take sz).length = sz := by rw [List.length_take]; omega
  have hE : restE (l.take sz) n (V 9) = cErr t K sz := by
    unfold restE cErr
    rw [← hK, e1 K 16 hKs, e2, e3, e1 (K + 16) (8 * sz - (K + 16)) (by omega)]
  have hP : restP (l.take sz) n (V 9) = bs (pyl t (49 + n) (V 9)) := by
    unfold restP
    refine congrArg bs ?_
    unfold pz pyl
    refine List.map_congr_left ?_
    intro j hj
    have hj := List.mem_range.1 hj
    unfold py
    refine num_congr 8 fun i hi => ?_
    have : decide (8 * j + i < 8 * V 9) = true := by simpa using (by omega : 8 * j + i < 8 * V 9)
    rw [this, Bool.true_and]
    show bt (l.take sz) (49 + n + (8 * j + i)) = _
    rw [bb _ (by omega)]
    exact congrArg (bt t) (by omega)
  unfold restV
  rw [hE, hP, e1 49 n (by omega)]
end Go.Proofs.YtpabfjhjehjebaaDoor

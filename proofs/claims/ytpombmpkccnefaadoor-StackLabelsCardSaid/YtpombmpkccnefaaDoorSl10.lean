/- Parts of the proof, packed: StEncF, StRtOf, StDecL, StDecF, StSame. -/
import Derived.Test.YtpombmpkccnefaaDoorSl9
import Derived.Test.YtpombmpkccnefaaDoorSl7
import Derived.Test.YtpombmpkccnefaaDoorSl8
import Derived.Test.YtpombmpkccnefaaDoorSl6
import Derived.Lib.SmallJoins
/- stack: EncodeFrame. -/
namespace Go.Proofs.YtpombmpkccnefaaDoor
open Go.RowKit Bs
set_option maxRecDepth 100000 in
theorem rdb_row {w : World} {b : Nat} {t : TypeId} {vs : List Value} {Ls : List (List Nat)} (h : Row w b t vs) (hx : ∀ (i : Nat) (L : List Nat), Ls[i]? = some L → ∃ (p : Option Addr) (c : Nat), vs[i]? = some (Value.slice p L.length c) ∧ Rd w (fun _ => True) (.slice p L.length c) (L.map nv) ∧ (p = none → c = 0)) : RdB w (fun _ => True) (some ⟨b, 0, none⟩) Ls := by
  intro _
  refine ⟨b, 0, rfl, fun i L hL => ?_⟩
  obtain ⟨p, c, h1, h2, h3⟩ := hx i L hL
  exact ⟨p, c, by rw [Nat.zero_add]; exact h.cell h1, h2, h3⟩
set_option maxRecDepth 100000 in
theorem rdb2 {w : World} {x g : Nat} {E : List Nat} (h : Blk w g E) :
    RdB ((w.alloc (.cells #[.int .u8 (x : Int)] 5)).alloc (.cells #[.slice (some ⟨w.heap.size, 0, none⟩) 1 1, .slice (some ⟨g, 0, none⟩) E.length E.length] 23)) (fun _ => True) (some ⟨w.heap.size + 1, 0, none⟩) [[x], E] := by
  obtain ⟨k1, k2, k3, _⟩ := two_boxes w #[.int .u8 (x : Int)] #[.slice (some ⟨w.heap.size, 0, none⟩) 1 1, .slice (some ⟨g, 0, none⟩) E.length E.length] 5 23
  refine rdb_row (vs := [.slice (some ⟨w.heap.size, 0, none⟩) 1 1, .slice (some ⟨g, 0, none⟩) E.length E.length]) k2 fun i L hL => ?_
  rcases i with _ | _ | i
  · obtain rfl : [x] = L := by simpa using hL
    exact ⟨_, _, rfl, Blk.rd (l := [x]) k1 _ trivial 1, by exact nofun⟩
  · obtain rfl : E = L := by simpa using hL
    exact ⟨_, _, rfl, (h.keep k3).rd _ trivial _, by exact nofun⟩
  · simp at hL
set_option maxRecDepth 100000 in
theorem rdb3 {w : World} {x g c1 : Nat} {p1 : Option Addr} {D E : List Nat} (h1 : Rd w (fun _ => True) (.slice p1 D.length c1) (D.map nv)) (hp : p1 = none → c1 = 0) (h : Blk w g E) :
    RdB ((w.alloc (.cells #[.int .u8 (x : Int)] 5)).alloc (.cells #[.slice (some ⟨w.heap.size, 0, none⟩) 1 1, .slice p1 D.length c1, .slice (some ⟨g, 0, none⟩) E.length E.length] 23)) (fun _ => True) (some ⟨w.heap.size + 1, 0, none⟩) [[x], D, E] := by
  obtain ⟨k1, k2, k3, _⟩ := two_boxes w #[.int .u8 (x : Int)] #[.slice (some ⟨w.heap.size, 0, none⟩) 1 1, .slice p1 D.length c1, .slice (some ⟨g, 0, none⟩) E.length E.length] 5 23
  refine rdb_row (vs := [.slice (some ⟨w.heap.size, 0, none⟩) 1 1, .slice p1 D.length c1, .slice (some ⟨g, 0, none⟩) E.length E.length]) k2 fun i L hL => ?_
  rcases i with _ | _ | _ | i
  · obtain rfl : [x] = L := by simpa using hL
    exact ⟨_, _, rfl, Blk.rd (l := [x]) k1 _ trivial 1, by exact nofun⟩
  · obtain rfl : D = L := by simpa using hL
    exact ⟨_, _, rfl, h1.keep k3, hp⟩
  · obtain rfl : E = L := by simpa using hL
    exact ⟨_, _, rfl, (h.keep k3).rd _ trivial _, by exact nofun⟩
  · simp at hL
set_option maxRecDepth 100000 in
theorem by_one {x : Nat} (h : x < 256) : By [x] := fun y hy => by
  obtain rfl : y = x := by simpa using hy
  exact h
set_option maxRecDepth 100000 in
theorem by2 {x : Nat} {E : List Nat} (h : x < 256) (hE : By E) : ∀ L ∈ ([[x], E] : List (List Nat)), By L := by
  intro L hL
  rcases List.mem_cons.1 hL with rfl | hL
  · exact by_one h
  · obtain rfl : L = E := by simpa using hL
    exact hE
set_option maxRecDepth 100000 in
theorem by3 {x : Nat} {D E : List Nat} (h : x < 256) (hD : By D) (hE : By E) : ∀ L ∈ ([[x], D, E] : List (List Nat)), By L := by
  intro L hL
  rcases List.mem_cons.1 hL with rfl | hL
  · exact by_one h
  rcases List.mem_cons.1 hL with rfl | hL
  · exact hD
  · obtain rfl : L = E := by simpa using hL
    exact hE
set_option maxRecDepth 100000 in
theorem two_grown (w : World) (A Z : Array Value) (t u : TypeId) : w.grownBy ((w.alloc (.cells A t)).alloc (.cells Z u)) none := (two_boxes w A Z t u).2.2.1
set_option maxRecDepth 100000 in
theorem encF_nil {r : List Int} {P : Pk} (h : r.length = 0) : ([[0], enc P] : List (List Nat)).flatten = encF r P := by
  unfold encF
  rw [if_pos (List.eq_nil_of_length_eq_zero h)]
  simp
set_option maxRecDepth 100000 in
theorem encF_some {r : List Int} {P : Pk} (h : ¬ r.length = 0) : ([[1], encL (r.map lbR), enc P] : List (List Nat)).flatten = encF r P := by
  unfold encF
  rw [if_neg (fun e => h (by rw [e]; rfl))]
  simp
def EFPost (r : List Int) (P : Pk) (w : World) (e : Ending) (w' : World) : Prop :=
  (vfr r P = true ∧ ∃ p c, e = .returned (.tuple #[.slice p (encF r P).length c, .int .i64 0]) ∧ Own w' w.heap.size p c (encF r P) ∧ w.grownBy w' none) ∨
  (vfr r P = false ∧ e = .returned (.tuple #[.slice none 0 0, .int .i64 1]) ∧ w.grownBy w' none)
set_option maxRecDepth 100000 in
theorem vfr_parts {r : List Int} {P : Pk} (h : vfr r P = true) : r.length ≤ 24 ∧ allR r = true ∧ rep r = false ∧ vpk P = true := by
  unfold vfr at h
  simp only [Bool.and_eq_true, decide_eq_true_eq, Bool.not_eq_true'] at h
  exact ⟨h.1, h.2.1, h.2.2.1, h.2.2.2⟩
set_option maxRecDepth 100000 in
theorem enc_small {P : Pk} (h : vpk P = true) : (enc P).length ≤ 100 := by
  obtain ⟨_, hn⟩ := vpk_len h
  have hp := (vpk_parts h).2.2.2.2.2.2.2.1
  rw [enc_len]
  omega
set_option maxRecDepth 100000 in
theorem encL_route {r : List Int} (hr : allR r = true) (h1 : 1 ≤ r.length) (h24 : r.length ≤ 24) : encE (r.map lbR) = 0 ∧ encB (r.map lbR) = encL (r.map lbR) := by
  have he : encE (r.map lbR) = 0 := by
    unfold encE lenL
    rw [if_pos (by rw [List.length_map, decide_eq_true_eq]; omega), if_pos]
    rw [List.all_eq_true]
    intro x hx
    obtain ⟨z, hz, rfl⟩ := List.mem_map.1 hx
    exact lbR_v (List.all_eq_true.1 hr z hz)
  exact ⟨he, by unfold encB; rw [if_pos he]⟩
set_option maxRecDepth 100000 in
set_option maxHeartbeats 3200000 in
theorem sencf_any (r : List Int) (P : Pk) (hP : P.Wf) (p : Option Addr) (c : Nat) (hc0 : r.length ≤ c) (hcm : c ≤ 9223372036854775807) (q : Nat → Prop) (w : World) (hT : Tb w) (hR : Rd w q (.slice p r.length c) (r.map iv)) :
    Calls Tryd.prog 32 #[fval (.slice p r.length c) P] w fun e w' => EFPost r P w e w' := by
  have hfv : fval (.slice p r.length c) P = .agg #[.slice p r.length c, .int .i64 P.mode, .int .i64 P.sub, .int .i64 P.set, .int .i64 P.len, .int .i64 P.ttl, .int .i64 P.ent, .int .i64 P.ing, .int .i64 P.pro, .int .u64 (P.bits : Int), .string P.pay] := rfl
  rw [hfv]
  obtain ⟨k1, k2⟩ := sone_box w (frcells (.slice p r.length c) P) 43
  have HB := Lib.hid (And.intro k1 k2)
  obtain ⟨c0, c1, c2, c3, c4, c5, c6, c7, c8, c9, c10⟩ := fr_facts k1
  have HR := Lib.hid (hR.keep k2)
  have HTT := Lib.hid (hT.keep k2)
  have HFV := Lib.hid hfv
  have hval : P.val = .agg #[.int .i64 P.mode, .int .i64 P.sub, .int .i64 P.set, .int .i64 P.len, .int .i64 P.ttl, .int .i64 P.ent, .int .i64 P.ing, .int .i64 P.pro, .int .u64 (P.bits : Int), .string P.pay] := rfl
  have HV := Lib.hid hval
  have HC := Lib.hid (And.intro hc0 hcm)
  clear hR hT hfv hval hc0 hcm k1 k2
  go_enter Tryd.func32, Tryd.ntmps32
  go_upto_region 1 with fail
  have HB2 : Hid ((w.alloc (.cells #[.slice p r.length c, .int .i64 P.mode, .int .i64 P.sub, .int .i64 P.set, .int .i64 P.len, .int .i64 P.ttl, .int .i64 P.ent, .int .i64 P.ing, .int .i64 P.pro, .int .u64 (P.bits : Int), .string P.pay] 43)).heap[w.heap.size]? = some (.cells (frcells (.slice p r.length c) P) 43 (0, 0)) ∧ w.grownBy (w.alloc (.cells #[.slice p r.length c, .int .i64 P.mode, .int .i64 P.sub, .int .i64 P.set, .int .i64 P.len, .int .i64 P.ttl, .int .i64 P.ent, .int .i64 P.ing, .int .i64 P.pro, .int .u64 (P.bits : Int), .string P.pay] 43)) none) := HB
  clear HB
  unfold frcells at HR HTT c0 c1 c2 c3 c4 c5 c6 c7 c8 c9 c10
  generalize w.alloc _ = wa at *
  go_wp2_with fail
  rw [← HFV.out]
  refine (svfr_any r P hP p c HC.out.1 HC.out.2 q wa HR.out).mono ?_
  rintro e w1 ⟨rfl, hg⟩
  have HB1 := Lib.hid (And.intro (kept_row HB2.out.1 hg (by simp)) (grown_trans HB2.out.2 hg))
  have HR1 := Lib.hid (HR.out.keep hg)
  have HT1 := Lib.hid (HTT.out.keep hg)
  clear hg HB2 HR HTT c0 c1 c2 c3 c4 c5 c6 c7 c8 c9 c10
  cases hv : vfr r P
  · go_wp2_with fail
    go_ret2
    exact Or.inr ⟨hv, rfl, HB1.out.2⟩
  · obtain ⟨hr24, hra, hrr, hvp⟩ := vfr_parts hv
    obtain ⟨c0, c1, c2, c3, c4, c5, c6, c7, c8, c9, c10⟩ := fr_facts HB1.out.1
    have HVF := Lib.hid (And.intro hv (And.intro hra (And.intro hvp (enc_small hvp))))
    clear hv hra hrr hvp
    go_wp2_with fail
    rw [← HV.out]
    refine (pencode_any P hP w1 HT1.out).mono ?_
    intro e w2 hE
    rcases hE with ⟨-, g, rfl, hB, hge, hg⟩ | ⟨hbad, _⟩
    · have HB3 := Lib.hid (And.intro (kept_row HB1.out.1 hg (by simp)) (grown_trans HB1.out.2 hg))
      have HR3 := Lib.hid (HR1.out.keep hg)
      have HE := Lib.hid hB
      clear hg HB1 HR1 HT1 hB c0 c1 c2 c3 c4 c5 c6 c7 c8 c9 c10
      obtain ⟨c0, c1, c2, c3, c4, c5, c6, c7, c8, c9, c10⟩ := fr_facts HB3.out.1
      clear c1 c2 c3 c4 c5 c6 c7 c8 c9 c10
      by_cases hr0 : r.length = 0
      · go_wp2_with fail
        have RB := rdb2 (x := 0) HE.out
        refine (sjoin_any [[0], enc P] (by2 (by decide) (pk_by _)) (by have := HVF.out.2.2.2; simp; omega) _ 2 2 rfl (by simp) _ _ RB).mono ?_
        clear RB
        rw [encF_nil hr0]
        rintro e w3 ⟨p2, c2, rfl, hO, hg3⟩
        have HF := Lib.hid (And.intro hO (grown_trans (two_grown _ _ _ _ _) hg3))
        clear hO hg3
        go_wp2_with fail
        go_ret2
        have G2 := grown_trans HB3.out.2 HF.out.2
        exact Or.inl ⟨HVF.out.1, p2, c2, rfl, HF.out.1.mono (Nat.le_trans HB3.out.2.size (by simp; omega)), G2⟩
      · go_wp2_with fail
        refine (slabs_any r HVF.out.2.1 p c hr24 q w2 HR3.out).mono ?_
        rintro e w3 ⟨g3, rfl, hrow, hge3, hg3⟩
        have hlen : (r.map lbR).length = r.length := List.length_map _
        have hL : RdL w3 (· = g3) (.slice (some ⟨g3, 0, none⟩) (r.map lbR).length r.length) (r.map lbR) := hrow.rd _ _
        have C := sencl_any (r.map lbR) _ _ _ w3 hL
        rw [hlen] at C
        have HB4 := Lib.hid (grown_trans HB3.out.2 hg3)
        have HE4 := Lib.hid (HE.out.keep hg3)
        obtain ⟨q1, q2⟩ := encL_route HVF.out.2.1 (by omega) hr24
        have HQ := Lib.hid (And.intro q1 q2)
        clear hrow hL hg3 hlen q1 q2 HR3 c0
        go_wp2_with fail
        refine C.mono ?_
        clear C
        rintro e w4 ⟨p2, c2, rfl, hO, hg4⟩
        rw [HQ.out.1, HQ.out.2]
        rw [HQ.out.2] at hO
        obtain ⟨D, hD⟩ : ∃ D, encL (r.map lbR) = D := ⟨_, rfl⟩
        rw [hD] at hO ⊢
        have HD := Lib.hid hD
        have HF := Lib.hid (And.intro hO (And.intro (grown_trans HB4.out hg4) (HE4.out.keep hg4)))
        clear hO hg4 HE4 HB4 hD
        go_wp2_with fail
        have RB := rdb3 (x := 1) (HF.out.1.rd.mono fun _ _ => trivial) HF.out.1.pc HF.out.2.2
        refine (sjoin_any [[1], D, enc P] (by3 (by decide) HF.out.1.by_ (pk_by _)) (by have := HVF.out.2.2.2; have hl := encL_len (r.map lbR); rw [HD.out, List.length_map] at hl; simp; omega) _ 3 3 rfl (by simp) _ _ RB).mono ?_
        clear RB
        rw [← HD.out, encF_some hr0]
        rintro e w5 ⟨p3, c3, rfl, hO, hg5⟩
        have HF2 := Lib.hid (And.intro hO (grown_trans (two_grown _ _ _ _ _) hg5))
        clear hO hg5
        go_wp2_with fail
        go_ret2
        exact Or.inl ⟨HVF.out.1, p3, c3, rfl, HF2.out.1.mono (Nat.le_trans HF.out.2.1.size (by simp; omega)), grown_trans HF.out.2.1 HF2.out.2⟩
    · rw [HVF.out.2.2.1] at hbad; cases hbad
end Go.Proofs.YtpombmpkccnefaaDoor

/- stack: routeOf. -/
namespace Go.Proofs.YtpombmpkccnefaaDoor
open Go.RowKit Bs
def RTPost (ls : List Lab) (w : World) (e : Ending) (w' : World) : Prop :=
  ∃ p c, e = .returned (.tuple #[.slice p (rtV ls).1.length c, .int .i64 (rtV ls).2]) ∧ Rd w' (w.heap.size ≤ ·) (.slice p (rtV ls).1.length c) ((rtV ls).1.map iv) ∧ (rtV ls).1.length ≤ c ∧ c ≤ 9223372036854775807 ∧ (p = none → c = 0) ∧ w.grownBy w' none
set_option maxRecDepth 100000 in
theorem rt_err {ls : List Lab} {w w' : World} {x : Int} (h : rtV ls = ([], x)) (g : w.grownBy w' none) : RTPost ls w (.returned (.tuple #[.slice none 0 0, .int .i64 x])) w' := by
  refine ⟨none, 0, by rw [h]; rfl, ?_, by rw [h]; exact Nat.le_refl _, by omega, fun _ => rfl, g⟩
  rw [h]
  exact Rd.nil_ _ _ _ _
set_option maxRecDepth 100000 in
theorem keep3 {w0 w' : World} {b : Nat} {x y z : Value} (h0 : w0.cell? ⟨b, 0, none⟩ = some x) (h1 : w0.cell? ⟨b, 1, none⟩ = some y) (h2 : w0.cell? ⟨b, 2, none⟩ = some z) (g : Hid (w0.grownBy w' none)) :
    w'.cell? ⟨b, 0, none⟩ = some x ∧ w'.cell? ⟨b, 1, none⟩ = some y ∧ w'.cell? ⟨b, 2, none⟩ = some z ∧ Hid (w0.grownBy w' none) := ⟨g.out.cell h0 (by simp), g.out.cell h1 (by simp), g.out.cell h2 (by simp), g⟩
set_option maxRecDepth 100000 in
theorem grown_dn (w : World) (n : Nat) : w.grownBy (w.drewN n) none := grown_drewN w n none
set_option maxRecDepth 100000 in
theorem hid_dr (w : World) : Hid (w.grownBy w.drew none) := Lib.hid (grown_drew (grown_refl _ _))
def rtZ (ls : List Lab) (k : Nat) : List Value := (rts (ls.take k)).map iv ++ List.replicate (ls.length - k) (iv 0)
set_option maxRecDepth 100000 in
theorem rtZ_pre {ls : List Lab} {k : Nat} (h : k ≤ ls.length) : ((rts (ls.take k)).map iv).length = k := by
  unfold rts
  rw [List.length_map, List.length_map, List.length_take, Nat.min_eq_left h]
set_option maxRecDepth 100000 in
theorem rtZ_at {ls : List Lab} {k : Nat} (h : k < ls.length) : (rtZ ls k)[k]? = some (iv 0) := by
  unfold rtZ
  rw [List.getElem?_append_right (by rw [rtZ_pre (Nat.le_of_lt h)]; exact Nat.le_refl _), rtZ_pre (Nat.le_of_lt h), Nat.sub_self, List.getElem?_replicate, if_pos (by omega)]
set_option maxRecDepth 100000 in
theorem rtZ_set {ls : List Lab} {k : Nat} {l : Lab} (h : k < ls.length) (hl : ls[k]? = some l) : (rtZ ls k).set k (iv (l.v - 16)) = rtZ ls (k + 1) := by
  unfold rtZ
  have hp := rtZ_pre (Nat.le_of_lt h)
  rw [show ls.length - k = (ls.length - (k + 1)) + 1 by omega, List.replicate_succ, List.set_append_right _ _ (by rw [hp]; exact Nat.le_refl _), hp, Nat.sub_self, List.set_cons_zero, List.take_add_one, hl]
  unfold rts
  simp
set_option maxRecDepth 100000 in
theorem okL_iff (l : Lab) : okL l = true ↔ okR (l.v - 16) = true ∧ l.c = 0 ∧ l.h = 255 := by
  unfold okL okR
  rw [decide_eq_true_eq, decide_eq_true_eq]
  omega
set_option maxRecDepth 100000 in
theorem all_bad {ls : List Lab} {k : Nat} {l : Lab} (h : ls[k]? = some l) (hv : ¬ okL l = true) : rtV ls = ([], 2) := by
  have : ls.all okL = false := by
    rw [Bool.eq_false_iff]
    intro ha
    exact hv (List.all_eq_true.1 ha l (List.mem_of_getElem? h))
  unfold rtV
  rw [this]
  rfl
set_option maxRecDepth 100000 in
set_option maxHeartbeats 3200000 in
theorem srtof_any (ls : List Lab) (hv : ∀ l ∈ ls, vlab l = true) (h24 : ls.length ≤ 24) (p : Option Addr) (c : Nat) (q : Nat → Prop) (w : World) (hR : RdL w q (.slice p ls.length c) ls) :
    Calls Tryd.prog 81 #[.slice p ls.length c] w fun e w' => RTPost ls w e w' := by
  have HR := Lib.hid hR
  have HV := Lib.hid hv
  clear hR hv
  obtain ⟨i0, hi, hz0, hz1, hz2⟩ := info_parts info_int
  go_enter Tryd.func81, Tryd.ntmps81
  go_wp2_with (at_make; refine wpList_make_k _ rfl _ _ 22 rfl 3 i0 _ Tryd.underlying22 hi hz0 ls.length rfl rfl (by omega) (by omega) ?_; rw [hz1, made_same _ (iv 0) (by intro i hi; have : i = 0 := by { simp [Value.cells] at hi; omega }; subst this; rfl) (by simp [Value.cells]) _, Nat.mul_one])
  obtain ⟨k1, k2⟩ := sone_box w (Array.replicate ls.length (iv 0)) 3
  have P0 : Hid (Row (w.alloc (.cells (Array.replicate ls.length (iv 0)) 3)) w.heap.size 3 (rtZ ls 0) ∧ w.grownBy (w.alloc (.cells (Array.replicate ls.length (iv 0)) 3)) none) := by
    refine Lib.hid ⟨?_, k2⟩
    unfold Row rtZ
    rw [k1, List.take_zero, Nat.sub_zero]
    show _ = some (Obj.cells (List.replicate ls.length (iv 0)).toArray _ _)
    rw [List.toArray_replicate]
  clear k1 k2
  generalize w.alloc _ = wa at *
  go_loopw [13] (fun a wr => ∃ k : Nat, k ≤ ls.length ∧ a = .int .i64 (k : Int) ∧ Row wr w.heap.size 3 (rtZ ls k) ∧ w.grownBy wr none ∧ ∀ x ∈ ls.take k, okL x = true) (fun a _ => ls.length - (intOf a).toNat)
  case atStart => exact ⟨0, Nat.zero_le _, rfl, P0.out.1, P0.out.2, fun x hx => by simp at hx⟩
  case round =>
    obtain ⟨k, hk, rfl, hX, hG, hA⟩ := hrel
    have HX := Lib.hid (And.intro hX hG)
    have HA := Lib.hid hA
    clear hX hG P0 hA
    by_cases hlt : k < ls.length
    · obtain ⟨-, b, off, rfl, hq, hc⟩ := (HR.out.keep HX.out.2).cells (by omega)
      obtain ⟨c0, c1, c2⟩ := hc k hlt
      obtain ⟨l, hl⟩ : ∃ l, ls[k] = l := ⟨_, rfl⟩
      rw [hl] at c0 c1 c2
      have HL : Hid (ls[k]? = some l) := Lib.hid (by rw [← hl]; exact List.getElem?_eq_getElem hlt)
      have hv9 := (vlab_iff l).1 (HV.out l (List.mem_of_getElem? HL.out))
      clear hc hl
      obtain ⟨y, hy⟩ : ∃ y, l.v - 16 = y := ⟨_, rfl⟩
      have hv' : l.v = 16 + y := by omega
      obtain ⟨v0, v1⟩ : -16 ≤ y ∧ y ≤ 1048559 := by omega
      have HOK := Lib.hid (okL_iff l)
      rw [hy] at HOK
      have HY := Lib.hid hy
      rw [hv'] at c0
      obtain ⟨cc, hcc⟩ : ∃ cc, l.c = cc := ⟨_, rfl⟩
      obtain ⟨hh, hhh⟩ : ∃ hh, l.h = hh := ⟨_, rfl⟩
      rw [hcc] at c1 HOK
      rw [hhh] at c2 HOK
      clear hv' hcc hhh hy hv9
      go_upto_region 5 with fail
      obtain ⟨k1, k2⟩ := sone_box wr #[.int .i64 (16 + y), .int .i64 cc, .int .i64 hh] 41
      have HX1 := Lib.hid (And.intro (HX.out.1.kept k2 (by simp)) (grown_trans HX.out.2 k2))
      obtain ⟨d0, d1, d2⟩ := lab_facts (l := ⟨16 + y, cc, hh⟩) k1
      simp only at d0 d1 d2
      clear k1 k2 HX c0 c1 c2
      generalize wr.alloc _ = wb at *
      go_upto_region 6 with fail
      rw [show 16 + y - 16 = y by omega]
      cases hok : okR y
      · have hVR : ∀ w, Calls Tryd.prog 103 #[.int .i64 y] w fun e w' => e = .returned (.bool false) ∧ w = w' := fun w => (svr_any y w).mono (by rw [hok]; rintro e w' ⟨rfl, rfl⟩; exact ⟨rfl, rfl⟩)
        have HB := Lib.hid (all_bad HL.out (fun h => by have := (HOK.out.1 h).1; rw [hok] at this; cases this))
        clear hok
        go_quiet (first | (go_at_call 103; first | exact qt0 (hVR _) | exact qt1 (hVR _) | exact qt2 (hVR _)))
        go_wp2_with fail
        go_ret2
        exact rt_err HB.out (grown_trans HX1.out.2 (grown_dn _ _))
      · have HOKT := Lib.hid hok
        have hz9 : 1 ≤ y ∧ y ≤ 99 := by simpa [okR] using hok
        have HZ := Lib.hid hz9
        clear hok hz9
        by_cases hc0 : cc = 0
        · by_cases hh0 : hh = 255
          · subst hc0
            subst hh0
            go_region_held3 (fun w' => w'.cell? ⟨wr.heap.size, 0, none⟩ = some (.int .i64 (16 + y)) ∧ w'.cell? ⟨wr.heap.size, 1, none⟩ = some (.int .i64 0) ∧ w'.cell? ⟨wr.heap.size, 2, none⟩ = some (.int .i64 255) ∧ Hid (wb.grownBy w' none))
              (first | with_reducible exact keep3 d0 d1 d2 (hid_dr wb) | (go_split_ands; with_reducible refine keep3 d0 d1 d2 (hid_more ?_ hap); with_reducible assumption) | (go_split_ands; with_reducible refine keep3 d0 d1 d2 ?_; with_reducible assumption))
              (first | (go_at_call 103; refine (svr_any _ _).mono ?_; rw [HOKT.out]; rintro e w' ⟨rfl, rfl⟩) | (go_at_call 105; refine (slabof_any _ HZ.out _).mono ?_; rintro e w' ⟨rfl, hap⟩))
            all_goals
              have HGW := Lib.hid (And.intro (HX1.out.1.kept (grown_trans (hid_dr wb).out hap) (by simp)) (grown_trans HX1.out.2 (grown_trans (hid_dr wb).out hap)))
              go_split_ands
              clear hap
              have e0 : w'.cell? ⟨w.heap.size, k, none⟩ = some (.int .i64 0) := HGW.out.1.cell (rtZ_at hlt)
              have f0 := HGW.out.1.frozen k
              have HS : Hid (Row (w'.setCell ⟨w.heap.size, k, none⟩ (.int .i64 y)) w.heap.size 3 (rtZ ls (k + 1)) ∧ w.grownBy (w'.setCell ⟨w.heap.size, k, none⟩ (.int .i64 y)) none) := by
                refine Lib.hid ⟨?_, grown_new HGW.out.2 (grown_setCell w' ⟨w.heap.size, k, none⟩ _) (Nat.le_refl _)⟩
                rw [← rtZ_set hlt HL.out, HY.out]
                exact HGW.out.1.set _ _
              go_wp2_with fail
              refine ⟨⟨k + 1, by omega, congrArg _ (by omega), HS.out.1, HS.out.2, fun x hx => ?_⟩, by simp only [intOf]; omega⟩
              rw [List.take_add_one, HL.out] at hx
              rcases List.mem_append.1 hx with hx | hx
              · exact HA.out x hx
              · obtain rfl : x = l := by simpa using hx
                exact HOK.out.2 (by simp [HOKT.out])
          · subst hc0
            have hhb : (hh == 255) = false := by simpa using hh0
            go_region_held3 (fun w' => w'.cell? ⟨wr.heap.size, 0, none⟩ = some (.int .i64 (16 + y)) ∧ w'.cell? ⟨wr.heap.size, 1, none⟩ = some (.int .i64 0) ∧ w'.cell? ⟨wr.heap.size, 2, none⟩ = some (.int .i64 hh) ∧ Hid (wb.grownBy w' none))
              (first | with_reducible exact keep3 d0 d1 d2 (hid_dr wb) | (go_split_ands; with_reducible refine keep3 d0 d1 d2 (hid_more ?_ hap); with_reducible assumption) | (go_split_ands; with_reducible refine keep3 d0 d1 d2 ?_; with_reducible assumption))
              (first | (go_at_call 103; refine (svr_any _ _).mono ?_; rw [HOKT.out]; rintro e w' ⟨rfl, rfl⟩) | (go_at_call 105; refine (slabof_any _ HZ.out _).mono ?_; rintro e w' ⟨rfl, hap⟩))
            all_goals
              have HGW := Lib.hid (grown_trans HX1.out.2 (grown_trans (hid_dr wb).out hap))
              go_split_ands
              clear hap
              go_wp2_with fail
              go_ret2
              exact rt_err (all_bad HL.out (fun h => by have := (HOK.out.1 h).2; omega)) HGW.out
        · have hcb : (cc == 0) = false := by simpa using hc0
          go_region_held3 (fun w' => w'.cell? ⟨wr.heap.size, 0, none⟩ = some (.int .i64 (16 + y)) ∧ w'.cell? ⟨wr.heap.size, 1, none⟩ = some (.int .i64 cc) ∧ w'.cell? ⟨wr.heap.size, 2, none⟩ = some (.int .i64 hh) ∧ Hid (wb.grownBy w' none))
            (first | with_reducible exact keep3 d0 d1 d2 (hid_dr wb) | (go_split_ands; with_reducible refine keep3 d0 d1 d2 (hid_more ?_ hap); with_reducible assumption) | (go_split_ands; with_reducible refine keep3 d0 d1 d2 ?_; with_reducible assumption))
            (first | (go_at_call 103; refine (svr_any _ _).mono ?_; rw [HOKT.out]; rintro e w' ⟨rfl, rfl⟩) | (go_at_call 105; refine (slabof_any _ HZ.out _).mono ?_; rintro e w' ⟨rfl, hap⟩))
          all_goals
            have HGW := Lib.hid (grown_trans HX1.out.2 (grown_trans (hid_dr wb).out hap))
            go_split_ands
            clear hap
            go_wp2_with fail
            go_ret2
            exact rt_err (all_bad HL.out (fun h => by have := (HOK.out.1 h).2; omega)) HGW.out
    · obtain rfl : k = ls.length := by omega
      have hrow : Row wr w.heap.size 3 ((rts ls).map iv) := by
        have := HX.out.1
        unfold rtZ at this
        rw [List.take_length, Nat.sub_self] at this
        simpa using this
      have hlen : (rts ls).length = ls.length := by unfold rts; rw [List.length_map]
      have hall : ls.all okL = true := by
        rw [List.all_eq_true]
        have := HA.out
        rwa [List.take_length] at this
      have hRd : Rd wr (w.heap.size ≤ ·) (.slice (some ⟨w.heap.size, 0, none⟩) (rts ls).length (rts ls).length) ((rts ls).map iv) :=
        ⟨_, _, by rw [List.length_map], fun _ => ⟨w.heap.size, 0, rfl, Nat.le_refl _, fun i x hi => by rw [Nat.zero_add]; exact hrow.cell hi⟩⟩
      have C := salld_any (rts ls) _ _ (Nat.le_refl _) (by omega) _ wr hRd
      have hrt : rtV ls = if rep (rts ls) then ([], 5) else (rts ls, 0) := by unfold rtV; rw [if_pos hall]
      have HRT := Lib.hid hrt
      have HRD := Lib.hid hRd
      have HLN := Lib.hid hlen
      rw [hlen] at C
      clear hrow hall hRd hrt hlen
      go_wp2_with fail
      refine C.mono ?_
      clear C
      rintro e w' ⟨rfl, rfl⟩
      cases hr : rep (rts ls)
      · have e : rtV ls = (rts ls, 0) := by rw [HRT.out, if_neg (by rw [hr]; decide)]
        have HE := Lib.hid e
        clear e hr
        go_wp2_with fail
        go_ret2
        refine ⟨some ⟨w.heap.size, 0, none⟩, ls.length, ?_, ?_, ?_, by omega, by exact nofun, HX.out.2⟩
        · rw [HE.out]
          show Ending.returned (.tuple #[.slice (some ⟨w.heap.size, 0, none⟩) ls.length ls.length, .int .i64 0]) = .returned (.tuple #[.slice (some ⟨w.heap.size, 0, none⟩) (rts ls).length ls.length, .int .i64 0])
          rw [HLN.out]
        · rw [HE.out, ← HLN.out]
          exact HRD.out
        · rw [HE.out]
          exact Nat.le_of_eq HLN.out
      · have HE := Lib.hid (show rtV ls = ([], 5) by rw [HRT.out, if_pos hr])
        clear hr
        go_wp2_with fail
        go_ret2
        exact rt_err HE.out HX.out.2
end Go.Proofs.YtpombmpkccnefaaDoor

/- stack: DecodeLabels. -/
namespace Go.Proofs.YtpombmpkccnefaaDoor
open Go.RowKit Bs
/-- What DecodeLabels returns: the labels lie in memory of the call's own. -/
def DLPost (b : List Nat) (w : World) (e : Ending) (w' : World) : Prop :=
  ∃ v, e = .returned (.tuple #[v, .int .i64 ((4 * (decM b).1 : Nat) : Int), .int .i64 (decM b).2]) ∧ OwnL w' w.heap.size v (labsN b (decM b).1) ∧ w.grownBy w' none
set_option maxRecDepth 100000 in
theorem dl_err {b : List Nat} {w w' : World} {e : Int} (h : decM b = (0, e)) (g : w.grownBy w' none) : DLPost b w (.returned (.tuple #[.slice none 0 0, .int .i64 0, .int .i64 e])) w' := by
  refine ⟨.slice none 0 0, ?_, ?_, g⟩
  · rw [h]; rfl
  · rw [h]; exact World.ownsRow_nil _ _ _ _
set_option maxRecDepth 100000 in
theorem dl_step {b : List Nat} {w wr w1 : World} {k : Nat} {v v' : Value} {o : Obj} {l : Lab} (g : w.grownBy wr none) (h : OwnL wr w.heap.size v (labsN b k)) (hl : l = labN (word4 b k)) (ha : (wr.alloc o).grownBy w1 v.ownBlock)
    (hown : w1.ownsRow w.heap.size 41 3 v' ((labsN b k).length + 1) (labsC (labsN b k) ++ [.int .i64 l.v, .int .i64 l.c, .int .i64 l.h])) : OwnL w1 w.heap.size v' (labsN b (k + 1)) ∧ w.grownBy w1 none := by
  refine ⟨?_, own_step g h ha⟩
  show w1.ownsRow w.heap.size 41 3 v' (labsN b (k + 1)).length (labsC (labsN b (k + 1)))
  rw [labsN_snoc, labsC_snoc, List.length_append, ← hl]
  exact hown
set_option maxRecDepth 100000 in
set_option maxHeartbeats 3200000 in
theorem sdecl_any (L : List Nat) (hL : By L) (p : Option Addr) (c : Nat) (hc : L.length ≤ c) (hcm : c ≤ 9223372036854775807) (q : Nat → Prop) (w : World) (hR : Rd w q (.slice p L.length c) (L.map nv)) :
    Calls Tryd.prog 29 #[.slice p L.length c] w fun e w' => DLPost L w e w' := by
  obtain ⟨i0, hi, hz0, hz1, hz2⟩ := info_parts info_lab
  have HR := Lib.hid hR
  have HL := Lib.hid hL
  have HC := Lib.hid (And.intro hc hcm)
  clear hR hL hc hcm
  have HM : Hid (decM L = decGo L 24 0) := Lib.hid rfl
  go_enter Tryd.func29, Tryd.ntmps29
  go_wp2_with fail
  go_loopw [5, 6] (fun v a wr => ∃ k : Nat, k ≤ 24 ∧ a = .int .i64 ((4 * k : Nat) : Int) ∧ OwnL wr w.heap.size v (labsN L k) ∧ w.grownBy wr none ∧ decM L = decGo L (24 - k) k ∧ ∃ p2 c2, v = .slice p2 k c2) (fun _ a _ => 24 - (intOf a).toNat / 4)
  case atStart => exact ⟨0, by omega, rfl, World.ownsRow_nil _ _ _ _, grown_refl _ _, HM.out, none, 0, rfl⟩
  case round =>
    obtain ⟨k, hk, rfl, hO, hG, hM, p2, c2, rfl⟩ := hrel
    have HO := Lib.hid hO
    have HG := Lib.hid hG
    have HM2 := Lib.hid hM
    clear hO hG hM HM
    by_cases h24 : k < 24
    · by_cases hs : L.length < 4 * k + 4
      · go_wp2_with fail
        go_ret3
        exact dl_err (by rw [HM2.out, show 24 - k = (23 - k) + 1 by omega, decGo, if_pos hs]) HG.out
      · obtain ⟨b, off, rfl, hb, _⟩ := rd_cells HR.out (by omega)
        have hle : 4 * k ≤ L.length := by omega
        have hlc := HC.out.1
        have hlm := Nat.le_trans HC.out.1 HC.out.2
        go_wp2_with fail
        have C := rdlab_any (L.drop (4 * k)) (HL.out.drop _) (by rw [List.length_drop]; omega) q (some ⟨b, off + 4 * k, none⟩) (c - 4 * k) wr (rd_drop (HR.out.keep HG.out) _ _)
        rw [List.length_drop, word4_drop] at C
        refine C.mono ?_
        clear C
        rintro e w1 ⟨rfl, hg1⟩
        obtain ⟨l, hl⟩ : ∃ l, labN (word4 L k) = l := ⟨_, rfl⟩
        obtain ⟨z, hz⟩ : ∃ z, botN (word4 L k) = z := ⟨_, rfl⟩
        rw [hl, hz]
        have HO1 : Hid (OwnL w1 w.heap.size (.slice p2 k c2) (labsN L k)) := Lib.hid (HO.out.kept hg1 (by cases hv : (Value.slice p2 k c2).ownBlock <;> simp))
        have HG1 := Lib.hid (grown_trans HG.out hg1)
        have HLZ := Lib.hid (And.intro hl hz)
        clear hg1 hl hz HO HG
        go_wp2_with (at_builtin; refine wpList_append_own _ rfl _ _ 49 rfl w.heap.size 41 i0 (.agg #[.int .i64 0, .int .i64 0, .int .i64 0]) 3 24 Tryd.underlying49 hi hz0 hz1 hz2 rfl (by decide) (.slice p2 k c2) (labsN L k).length (labsC (labsN L k)) rfl ((HO1.out.alloc _).alloc _) ⟨w1.heap.size + 1, 0, none⟩ 1 1 [.int .i64 l.v, .int .i64 l.c, .int .i64 l.h] rfl rfl ?c1 ?c2 ?c3 ?c4 ?c5 ?_)
        case c1 => rw [← show (w1.alloc (.cells #[.int .i64 l.v, .int .i64 l.c, .int .i64 l.h] 41)).heap.size = w1.heap.size + 1 by simp]; exact cells3 _ _ _ _ _
        case c2 => intro u hu; simp at hu; rcases hu with rfl | rfl | rfl <;> rfl
        case c3 => rw [labsN_len]; unfold maxLen; omega
        case c4 => rw [labsN_len]; omega
        case c5 => have := HG1.out.size; simp; omega
        intro v' w2 hown2 hg2 _
        obtain ⟨O2, G2⟩ := dl_step (grown_trans HG1.out (World.grownBy_alloc w1 _ _)) (HO1.out.alloc _) HLZ.out.1.symm hg2 hown2
        have HO2 := Lib.hid O2
        have HG2 := Lib.hid G2
        have hzz := HLZ.out.2
        clear hown2 hg2 O2 G2 HO1 HG1
        have hM : decM L = if z = true then (k + 1, 0) else decGo L (23 - k) (k + 1) := by
          rw [HM2.out, show 24 - k = (23 - k) + 1 by omega, decGo, if_neg hs, hzz]
        have HM3 := Lib.hid hM
        clear hM hzz HLZ HM2
        cases z
        · go_wp2_with fail
          obtain ⟨g, cap, hv⟩ := Joins.ownsRow_form HO2.out (by rw [labsN_len]; omega)
          rw [labsN_len] at hv
          refine ⟨⟨k + 1, by omega, congrArg _ (by omega), HO2.out, HG2.out, by rw [HM3.out, if_neg (by decide), show 24 - (k + 1) = 23 - k by omega], _, _, hv⟩, ?_⟩
          simp only [intOf]
          omega
        · go_wp2_with fail
          go_ret3
          have e : decM L = (k + 1, 0) := by have := HM3.out; simpa using this
          have e2 : 4 * (k : Int) + 4 = ((4 * (k + 1) : Nat) : Int) := by omega
          refine ⟨v', ?_, ?_, HG2.out⟩
          · show Ending.returned (.tuple #[v', .int .i64 (4 * (k : Int) + 4), .int .i64 0]) = _
            rw [e2, e]
          · rw [e]
            exact HO2.out
    · have hk24 : k = 24 := by omega
      subst hk24
      go_wp2_with fail
      go_ret3
      exact dl_err (by rw [HM2.out]; rfl) HG.out
end Go.Proofs.YtpombmpkccnefaaDoor

/- stack: DecodeFrame. -/
namespace Go.Proofs.YtpombmpkccnefaaDoor
open Go.RowKit Bs
/-- A zero frame's cells. -/
def zfr : Array Value := #[.slice none 0 0, .int .i64 0, .int .i64 0, .int .i64 0, .int .i64 0, .int .i64 0, .int .i64 0, .int .i64 0, .int .i64 0, .int .u64 0, .string ⟨#[]⟩]
/-- What DecodeFrame returns. -/
def DFPost (L : List Nat) (w : World) (e : Ending) (w' : World) : Prop :=
  ∃ p c, e = .returned (.tuple #[.agg (#[.slice p (decF L).1.length c] ++ (decF L).2.1), .int .i64 (decF L).2.2]) ∧ Rd w' (w.heap.size ≤ ·) (.slice p (decF L).1.length c) ((decF L).1.map iv) ∧ (decF L).1.length ≤ c ∧ c ≤ 9223372036854775807 ∧ (p = none → c = 0) ∧ w.grownBy w' none
set_option maxRecDepth 100000 in
theorem df_err {L : List Nat} {w w' : World} {x : Int} (h : decF L = ([], zpk, x)) (g : w.grownBy w' none) : DFPost L w (.returned (.tuple #[.agg zfr, .int .i64 x])) w' := by
  refine ⟨none, 0, by rw [h]; rfl, ?_, by rw [h]; exact Nat.le_refl _, by omega, fun _ => rfl, g⟩
  rw [h]
  exact Rd.nil_ _ _ _ _
set_option maxRecDepth 100000 in
theorem frame_size : (Tryd.prog.info? 43).map (·.size) = some 11 := by kernel_rfl
set_option maxRecDepth 100000 in
theorem res_frame_err {fn : Func} {p u : Tmp} (h : fn.results = #[.cell p 43, .tmp u]) (tmps : Array Value) (w : World) (g : Nat) (xs : Array Value) (hp : tmps.getD p undef = .pointer (some ⟨g, 0, none⟩)) (hn : xs.size = 11) (hg : w.heap[g]? = some (.cells xs 43 (0, 0))) :
    (results fn tmps).run Tryd.prog w = .ok (.tuple #[.agg xs, tmps.getD u undef]) w := by
  have hp' : tmps[p]?.getD undef = .pointer (some ⟨g, 0, none⟩) := by simpa using hp
  rw [results_cell_tmp h]
  simp [hp', asAddr, run_loadVar_row w g _ _ _ _ _ hg Tryd.underlying43 rfl (by rw [hn]; exact frame_size), Result.andThen]
/-- A frame is stored. -/
def fput (w : World) (h : Nat) (v v0 v1 v2 v3 v4 v5 v6 v7 v8 v9 : Value) : World :=
  (((((((((((w.setCell ⟨h, 0, none⟩ v).setCell ⟨h, 1, none⟩ v0).setCell ⟨h, 2, none⟩ v1).setCell ⟨h, 3, none⟩ v2).setCell ⟨h, 4, none⟩ v3).setCell ⟨h, 5, none⟩ v4).setCell ⟨h, 6, none⟩ v5).setCell ⟨h, 7, none⟩ v6).setCell ⟨h, 8, none⟩ v7).setCell ⟨h, 9, none⟩ v8).setCell ⟨h, 10, none⟩ v9)
set_option maxRecDepth 100000 in
theorem fput_row {w : World} {h : Nat} (v v0 v1 v2 v3 v4 v5 v6 v7 v8 v9 : Value) (hr : Row w h 43 zfr.toList) : Row (fput w h v v0 v1 v2 v3 v4 v5 v6 v7 v8 v9) h 43 [v, v0, v1, v2, v3, v4, v5, v6, v7, v8, v9] :=
  ((((((((((hr.set 0 v).set 1 v0).set 2 v1).set 3 v2).set 4 v3).set 5 v4).set 6 v5).set 7 v6).set 8 v7).set 9 v8).set 10 v9
set_option maxRecDepth 100000 in
theorem fput_grown (w : World) (h : Nat) (v v0 v1 v2 v3 v4 v5 v6 v7 v8 v9 : Value) : w.grownBy (fput w h v v0 v1 v2 v3 v4 v5 v6 v7 v8 v9) (some h) := by
  unfold fput
  have S : ∀ (u : World) (j : Nat) (x : Value), u.grownBy (u.setCell ⟨h, j, none⟩ x) (some h) := fun u j x => grown_setCell u ⟨h, j, none⟩ x
  exact grown_trans (grown_trans (grown_trans (grown_trans (grown_trans (grown_trans (grown_trans (grown_trans (grown_trans (grown_trans (S _ _ _) (S _ _ _)) (S _ _ _)) (S _ _ _)) (S _ _ _)) (S _ _ _)) (S _ _ _)) (S _ _ _)) (S _ _ _)) (S _ _ _)) (S _ _ _)
set_option maxRecDepth 100000 in
theorem zfr_facts {w : World} {b : Nat} (h : Row w b 43 zfr.toList) :
    (w.cell? ⟨b, 0, none⟩ = some (.slice none 0 0) ∧ w.cell? ⟨b, 1, none⟩ = some (.int .i64 0) ∧ w.cell? ⟨b, 2, none⟩ = some (.int .i64 0) ∧ w.cell? ⟨b, 3, none⟩ = some (.int .i64 0) ∧ w.cell? ⟨b, 4, none⟩ = some (.int .i64 0) ∧ w.cell? ⟨b, 5, none⟩ = some (.int .i64 0) ∧ w.cell? ⟨b, 6, none⟩ = some (.int .i64 0) ∧ w.cell? ⟨b, 7, none⟩ = some (.int .i64 0) ∧ w.cell? ⟨b, 8, none⟩ = some (.int .i64 0) ∧ w.cell? ⟨b, 9, none⟩ = some (.int .u64 0) ∧ w.cell? ⟨b, 10, none⟩ = some (.string ⟨#[]⟩)) ∧
    (w.frozen? ⟨b, 0, none⟩ = false ∧ w.frozen? ⟨b, 1, none⟩ = false ∧ w.frozen? ⟨b, 2, none⟩ = false ∧ w.frozen? ⟨b, 3, none⟩ = false ∧ w.frozen? ⟨b, 4, none⟩ = false ∧ w.frozen? ⟨b, 5, none⟩ = false ∧ w.frozen? ⟨b, 6, none⟩ = false ∧ w.frozen? ⟨b, 7, none⟩ = false ∧ w.frozen? ⟨b, 8, none⟩ = false ∧ w.frozen? ⟨b, 9, none⟩ = false ∧ w.frozen? ⟨b, 10, none⟩ = false) :=
  ⟨⟨h.cell rfl, h.cell rfl, h.cell rfl, h.cell rfl, h.cell rfl, h.cell rfl, h.cell rfl, h.cell rfl, h.cell rfl, h.cell rfl, h.cell rfl⟩, h.frozen _, h.frozen _, h.frozen _, h.frozen _, h.frozen _, h.frozen _, h.frozen _, h.frozen _, h.frozen _, h.frozen _, h.frozen _⟩
/-- While a frame is decoded: the result's block is zero still. -/
structure DF (W : World) (w : World) : Prop where
  row : Row w W.heap.size 43 zfr.toList
  gr : W.grownBy w none
set_option maxRecDepth 100000 in
theorem DF.keep {W w w' : World} (h : DF W w) (g : w.grownBy w' none) : DF W w' := ⟨h.row.kept g (by simp), grown_trans h.gr g⟩
set_option maxRecDepth 100000 in
theorem DF.err {L : List Nat} {W w : World} {x : Int} (h : DF W w) (hx : decF L = ([], zpk, x)) :
    Row (fput w W.heap.size (.slice none 0 0) (.int .i64 0) (.int .i64 0) (.int .i64 0) (.int .i64 0) (.int .i64 0) (.int .i64 0) (.int .i64 0) (.int .i64 0) (.int .u64 0) (.string ⟨#[]⟩)) W.heap.size 43 zfr.toList ∧
      DFPost L W (.returned (.tuple #[.agg zfr, .int .i64 x])) (fput w W.heap.size (.slice none 0 0) (.int .i64 0) (.int .i64 0) (.int .i64 0) (.int .i64 0) (.int .i64 0) (.int .i64 0) (.int .i64 0) (.int .i64 0) (.int .u64 0) (.string ⟨#[]⟩)) :=
  ⟨fput_row _ _ _ _ _ _ _ _ _ _ _ h.row, df_err hx (grown_new h.gr (fput_grown _ _ _ _ _ _ _ _ _ _ _ _ _) (Nat.le_refl _))⟩
set_option maxRecDepth 100000 in
theorem dec_form3 (l : List Nat) : ∃ (m0 m1 m2 m3 m4 m5 m6 m7 m8 : Int) (s9 : ByteArray), (decV l).1 = #[.int .i64 m0, .int .i64 m1, .int .i64 m2, .int .i64 m3, .int .i64 m4, .int .i64 m5, .int .i64 m6, .int .i64 m7, .int .u64 m8, .string s9] := by
  unfold decV
  split
  · exact ⟨_, _, _, _, _, _, _, _, _, _, rfl⟩
  · split
    · exact ⟨_, _, _, _, _, _, _, _, _, _, rfl⟩
    · split
      · exact ⟨_, _, _, _, _, _, _, _, _, _, rfl⟩
      · split
        · exact ⟨_, _, _, _, _, _, _, _, _, _, rfl⟩
        · split
          · exact ⟨_, _, _, _, _, _, _, _, _, _, rfl⟩
          · unfold restV
            split
            · exact ⟨_, _, _, _, _, _, _, _, _, _, rfl⟩
            · exact ⟨_, _, _, _, _, _, _, _, _, _, rfl⟩
/-- What the last part of a frame's reading needs. -/
structure DR2 (L : List Nat) (W : World) (r : List Int) (B : List Nat) (p1 p2 : Option Addr) (c1 c2 : Nat) (w : World) : Prop where
  dec : decF L = finF r B
  by_ : By B
  le : B.length ≤ c2
  rd : Rd w (fun _ => True) (.slice p2 B.length c2) (B.map nv)
  rt : Rd w (W.heap.size < ·) (.slice p1 r.length c1) (r.map iv)
  rle : r.length ≤ c1
  cmax : c1 ≤ 9223372036854775807
  pc : p1 = none → c1 = 0
  df : DF W w
set_option maxRecDepth 100000 in
theorem rd_drop2 {w : World} {q : Nat → Prop} {p : Option Addr} {n c : Nat} {B : List Nat} (h : Rd w q (.slice p n c) (B.map nv)) (k c2 : Nat) : Rd w q (.slice (p.map (fun x => x.add k)) (B.drop k).length c2) ((B.drop k).map nv) := by
  by_cases hne : (B.drop k).length = 0
  · have e := List.eq_nil_of_length_eq_zero hne
    rw [e]
    exact Rd.nil_ _ _ _ _
  · obtain ⟨b, off, rfl, _⟩ := rd_cells h (by rw [List.length_drop] at hne; omega)
    show Rd w q (.slice (some ((⟨b, off, none⟩ : Addr).add k)) _ c2) _
    rw [add_plain]
    exact rd_drop h k c2
set_option maxRecDepth 100000 in
theorem rd_nil2 {w : World} {q : Nat → Prop} {p : Option Addr} {n c : Nat} {B : List Nat} (h : B.length = 0) (hn : n = B.length) : Rd w q (.slice p n c) (B.map nv) := by
  have e := List.eq_nil_of_length_eq_zero h
  subst e
  subst hn
  exact Rd.nil_ _ _ _ _
set_option maxRecDepth 100000 in
set_option maxHeartbeats 3200000 in
theorem sdecf_any (L : List Nat) (hL : By L) (p : Option Addr) (c : Nat) (hc : L.length ≤ c) (hcm : c ≤ 9223372036854775807) (q : Nat → Prop) (w : World) (hR : Rd w q (.slice p L.length c) (L.map nv)) :
    Calls Tryd.prog 34 #[.slice p L.length c] w fun e w' => DFPost L w e w' := by
  obtain ⟨k1, k2⟩ := sone_box w zfr 43
  have HD : Hid (DF w (w.alloc (.cells zfr 43))) := Lib.hid ⟨k1, k2⟩
  have HR := Lib.hid (hR.keep k2)
  have HL := Lib.hid hL
  have HC := Lib.hid (And.intro hc hcm)
  have hlm := Nat.le_trans hc hcm
  unfold zfr at HD HR
  clear k1 k2 hR hL hcm
  go_enter Tryd.func34, Tryd.ntmps34
  go_upto_region 1 with fail
  generalize w.alloc _ = wa at *
  obtain ⟨⟨d0, d1, d2, d3, d4, d5, d6, d7, d8, d9, d10⟩, f0, f1, f2, f3, f4, f5, f6, f7, f8, f9, f10⟩ := zfr_facts HD.out.row
  by_cases h0 : L.length = 0
  · have HE := Lib.hid (HD.out.err (L := L) (x := 20) (by unfold decF; rw [if_pos h0]))
    go_wp2_with fail
    refine bodyPost_ret (res_frame_err rfl _ _ w.heap.size zfr rfl rfl HE.out.1) rfl ?_
    exact HE.out.2
  · obtain ⟨b, off, rfl, hq, hcc⟩ := rd_cells HR.out (by omega)
    have c0 := hcc 0 (by omega)
    rw [Nat.add_zero] at c0
    have hpos : 0 < L.length := by omega
    have HF : Hid (decF L = decH (L.getD 0 0) (L.drop 1)) := Lib.hid (by unfold decF; rw [if_neg h0])
    have hx9 := HL.out.at_ hpos
    clear hcc
    generalize L.getD 0 0 = x at *
    by_cases hx : 1 < x
    · have HE := Lib.hid (HD.out.err (L := L) (x := 22) (by rw [HF.out]; unfold decH; rw [if_pos hx]))
      have hx0 : ((x : Int) != 0) = true := by simp; omega
      have hx1 : ((x : Int) != 1) = true := by simp; omega
      go_wp2_with fail
      refine bodyPost_ret (res_frame_err rfl _ _ w.heap.size zfr rfl rfl HE.out.1) rfl ?_
      exact HE.out.2
    · have hx01 : x = 0 ∨ x = 1 := by omega
      have hl0 : ((L.length : Int) == 0) = false := by simp; intro e; exact h0 (by rw [e]; rfl)
      go_upto_region 3 with fail
      first | rw [hl0] | skip
      go_cut [24] from 15 to 24 (fun bb wx => bb = .bool false ∧ wx = wa)
      case first =>
        rcases hx01 with rfl | rfl
        · have c0' : wa.cell? ⟨b, off, none⟩ = some (.int .u8 0) := c0
          clear c0
          go_wp2_with fail
          go_meet
          exact ⟨rfl, rfl⟩
        · have c0' : wa.cell? ⟨b, off, none⟩ = some (.int .u8 1) := c0
          clear c0
          go_wp2_with fail
          go_meet
          exact ⟨rfl, rfl⟩
      case rest =>
      obtain ⟨rfl, rfl⟩ := hcut
      go_upto_region 6 with fail
      have hB1 : (L.drop 1).length = L.length - 1 := List.length_drop
      go_cut [5] from 26 to 27 (fun rr wx => ∃ pt : Option Addr, rr = .slice pt (L.length - 1) (c - 1) ∧ wx = wc ∧ Hid (Rd wc q (.slice pt (L.drop 1).length (c - 1)) ((L.drop 1).map nv)))
      case first =>
        by_cases hc1 : c = 1
        · subst hc1
          go_wp2_with fail
          go_meet
          exact ⟨some ⟨b, off, none⟩, by rw [show L.length - 1 = 0 by omega], rfl, Lib.hid (rd_nil2 (by omega) rfl)⟩
        · have hc2 : ¬ c - 1 = 0 := by omega
          go_wp2_with fail
          go_meet
          exact ⟨_, rfl, rfl, Lib.hid (rd_drop HR.out 1 (c - 1))⟩
      case rest =>
      obtain ⟨pt, rfl, rfl, HRT⟩ := hcut
      obtain ⟨B, hB⟩ : ∃ B, L.drop 1 = B := ⟨_, rfl⟩
      have hBy : By B := by rw [← hB]; exact HL.out.drop 1
      rw [hB] at HF HRT hB1
      obtain ⟨n, hn⟩ : ∃ n, L.length - 1 = n := ⟨_, rfl⟩
      obtain ⟨cB, hcB⟩ : ∃ cB, c - 1 = cB := ⟨_, rfl⟩
      have hbc : B.length ≤ cB := by omega
      have hbm : cB ≤ 9223372036854775807 := by have := HC.out.2; omega
      rw [hn] at hB1 ⊢
      rw [hcB] at HRT ⊢
      subst hB1
      clear hB hn hcB hq
      go_upto_if 31 with fail
      have HBB := Lib.hid (And.intro hBy (And.intro hbc hbm))
      go_cut [4, 5, 6, 7, 8] from 28 to 51 (fun rt rr l6 s7 e8 wx => ∃ r B2 p1 p2 c1 c2, rt = .slice p1 r.length c1 ∧ rr = .slice p2 B2.length c2 ∧ Hid (DR2 L w r B2 p1 p2 c1 c2 wx))
      case first =>
        rcases hx01 with rfl | rfl
        · have c0' : wc.cell? ⟨b, off, none⟩ = some (.int .u8 0) := c0
          clear c0
          go_wp2_with fail
          go_meet
          exact ⟨[], B, none, pt, 0, cB, rfl, rfl, Lib.hid ⟨by rw [HF.out]; rfl, HBB.out.1, HBB.out.2.1, HRT.out.mono fun _ _ => trivial, Rd.nil_ _ _ _ _, Nat.le_refl _, by omega, fun _ => rfl, HD.out⟩⟩
        · have c0' : wc.cell? ⟨b, off, none⟩ = some (.int .u8 1) := c0
          clear c0
          go_wp2_with fail
          refine (sdecl_any B HBB.out.1 pt cB HBB.out.2.1 HBB.out.2.2 q wc HRT.out).mono ?_
          rintro e w1 ⟨v, rfl, hO, hg⟩
          have hDM := decGo_le B 24 0
          obtain ⟨m, e2, hM⟩ : ∃ m e2, decM B = (m, e2) := ⟨_, _, rfl⟩
          rw [show decGo B 24 0 = decM B from rfl, hM] at hDM
          obtain ⟨m1, m2, m3, -⟩ := hDM
          rw [hM] at hO ⊢
          obtain ⟨ls, hls⟩ : ∃ ls, labsN B m = ls := ⟨_, rfl⟩
          have hll : ls.length = m := by rw [← hls, labsN_len]
          have hlv : ∀ l ∈ ls, vlab l = true := by
            intro l hl
            rw [← hls] at hl
            obtain ⟨i, _, rfl⟩ := List.mem_map.1 hl
            exact labN_v (word4_lt HBB.out.1 i)
          have hH : decF L = (if e2 = 0 then (if (rtV ls).2 = 0 then finF (rtV ls).1 (B.drop (4 * m)) else ([], zpk, (rtV ls).2)) else ([], zpk, e2)) := by
            rw [HF.out]
            show decH 1 B = _
            unfold decH
            rw [if_neg (by decide), if_pos rfl, hM]
            simp only
            rw [hls]
          rw [show (m, e2).1 = m from rfl, hls] at hO
          obtain ⟨pl, cl, rfl, hx⟩ := rdk_of_own hO
          have hRL : RdL w1 (wc.heap.size ≤ ·) (.slice pl ls.length cl) ls := ⟨pl, cl, rfl, hx⟩
          have HDD := Lib.hid (HD.out.keep hg)
          have HK1 := Lib.hid (And.intro hRL (And.intro hlv hH))
          have HRT1 := Lib.hid (HRT.out.keep hg)
          have HMM := Lib.hid (And.intro m1 m2)
          have h24 : ls.length ≤ 24 := by simp only at m1; omega
          clear hO hx hRL hlv hH hg hls hM HF m1 m2 HRT HD d0 d1 d2 d3 d4 d5 d6 d7 d8 d9 d10 f0 f1 f2 f3 f4 f5 f6 f7 f8 f9 f10 c0'
          simp only
          by_cases he : e2 = 0
          · subst he
            go_wp2_with fail
            have C := srtof_any ls HK1.out.2.1 h24 pl cl _ w1 HK1.out.1
            rw [hll] at C
            refine C.mono ?_
            clear C
            rintro e w2 ⟨p3, c3, rfl, hRr, hle3, hm3, hp3, hg3⟩
            obtain ⟨r, e3, hr⟩ : ∃ r e3, rtV ls = (r, e3) := ⟨_, _, rfl⟩
            have hH := HK1.out.2.2
            rw [if_pos trivial, hr] at hH
            rw [hr] at hRr hle3 ⊢
            simp only at hH hRr hle3 ⊢
            have HDD2 := Lib.hid (HDD.out.keep hg3)
            have HRT2 := Lib.hid (HRT1.out.keep hg3)
            have HR3 := Lib.hid (And.intro (hRr.mono (q' := (w.heap.size < ·)) (fun b hb => Nat.lt_of_lt_of_le HDD.out.row.lt hb)) (And.intro hle3 (And.intro hm3 hp3)))
            have HH := Lib.hid hH
            clear hRr hle3 hm3 hp3 hg3 hr hH HK1 HDD HRT1
            by_cases he3 : e3 = 0
            · subst he3
              have h4 : 4 * m ≤ B.length := HMM.out.2
              have hlb : B.length ≤ 9223372036854775807 := by omega
              by_cases hcap : cB - 4 * m = 0
              · go_wp2_with fail
                go_meet
                exact ⟨r, B.drop (4 * m), p3, pt, c3, 0, rfl, by rw [List.length_drop], Lib.hid ⟨by have := HH.out; simpa using this, HBB.out.1.drop _, by rw [List.length_drop]; omega, rd_nil2 (by rw [List.length_drop]; omega) rfl, HR3.out.1, HR3.out.2.1, HR3.out.2.2.1, HR3.out.2.2.2, HDD2.out⟩⟩
              · go_wp2_with fail
                go_meet
                exact ⟨r, B.drop (4 * m), p3, pt.map (fun x => x.add (4 * m)), c3, cB - 4 * m, rfl, by rw [List.length_drop], Lib.hid ⟨by have := HH.out; simpa using this, HBB.out.1.drop _, by rw [List.length_drop]; omega, (rd_drop2 HRT2.out (4 * m) _).mono (fun _ _ => trivial), HR3.out.1, HR3.out.2.1, HR3.out.2.2.1, HR3.out.2.2.2, HDD2.out⟩⟩
            · have heb : (e3 == 0) = false := by simpa using he3
              have hen : (e3 != 0) = true := by simpa using he3
              have HE := Lib.hid (HDD2.out.err (L := L) (x := e3) (by rw [HH.out, if_neg he3]))
              obtain ⟨⟨d0, d1, d2, d3, d4, d5, d6, d7, d8, d9, d10⟩, f0, f1, f2, f3, f4, f5, f6, f7, f8, f9, f10⟩ := zfr_facts HDD2.out.row
              go_wp2_with fail
              refine bodyPost_ret (res_frame_err rfl _ _ w.heap.size zfr rfl rfl HE.out.1) rfl ?_
              exact HE.out.2
          · have heb : (e2 == 0) = false := by simpa using he
            have hen : (e2 != 0) = true := by simpa using he
            have HE := Lib.hid (HDD.out.err (L := L) (x := e2) (by rw [HK1.out.2.2, if_neg he]))
            obtain ⟨⟨d0, d1, d2, d3, d4, d5, d6, d7, d8, d9, d10⟩, f0, f1, f2, f3, f4, f5, f6, f7, f8, f9, f10⟩ := zfr_facts HDD.out.row
            go_wp2_with fail
            refine bodyPost_ret (res_frame_err rfl _ _ w.heap.size zfr rfl rfl HE.out.1) rfl ?_
            exact HE.out.2
      case rest =>
        obtain ⟨r, B2, p1, p2, c1, c2, rfl, rfl, H⟩ := hcut
        have hle := H.out.le
        clear HD HRT HBB c0 d0 d1 d2 d3 d4 d5 d6 d7 d8 d9 d10 f0 f1 f2 f3 f4 f5 f6 f7 f8 f9 f10
        obtain ⟨X, y, hXy⟩ : ∃ X y, decV B2 = (X, y) := ⟨_, _, rfl⟩
        obtain ⟨n0, n1, n2, n3, n4, n5, n6, n7, n8, s9, hX⟩ := dec_form3 B2
        have C := fun w0 h => pdecode_any B2 H.out.by_ p2 c2 hle (fun _ => True) w0 h
        rw [hXy] at C hX
        simp only at C hX
        subst hX
        have HXY := Lib.hid hXy
        clear hXy
        go_wp2_with fail
        refine (C _ H.out.rd).mono ?_
        clear C
        rintro e w3 ⟨rfl, hg⟩
        go_upto_region 15 with fail
        obtain ⟨k1, k2⟩ := sone_box w3 #[.int .i64 n0, .int .i64 n1, .int .i64 n2, .int .i64 n3, .int .i64 n4, .int .i64 n5, .int .i64 n6, .int .i64 n7, .int .u64 n8, .string s9] 31
        have HDF := Lib.hid (H.out.df.keep (grown_trans hg k2))
        have HRR := Lib.hid (H.out.rt.keep (grown_trans hg k2))
        have a0 := cell_of_row _ _ 0 _ _ _ k1
        have a1 := cell_of_row _ _ 1 _ _ _ k1
        have a2 := cell_of_row _ _ 2 _ _ _ k1
        have a3 := cell_of_row _ _ 3 _ _ _ k1
        have a4 := cell_of_row _ _ 4 _ _ _ k1
        have a5 := cell_of_row _ _ 5 _ _ _ k1
        have a6 := cell_of_row _ _ 6 _ _ _ k1
        have a7 := cell_of_row _ _ 7 _ _ _ k1
        have a8 := cell_of_row _ _ 8 _ _ _ k1
        have a9 := cell_of_row _ _ 9 _ _ _ k1
        simp only [List.getElem?_toArray, List.getElem?_cons_zero, List.getElem?_cons_succ] at a0 a1 a2 a3 a4 a5 a6 a7 a8 a9
        have HDC : Hid (decF L = if y = 0 then (r, #[.int .i64 n0, .int .i64 n1, .int .i64 n2, .int .i64 n3, .int .i64 n4, .int .i64 n5, .int .i64 n6, .int .i64 n7, .int .u64 n8, .string s9], 0) else ([], zpk, y)) := by
          refine Lib.hid ?_
          rw [H.out.dec]
          unfold finF
          rw [HXY.out]
        have HR4 := Lib.hid (And.intro H.out.rle (And.intro H.out.cmax H.out.pc))
        clear hg k1 k2 H HXY
        generalize w3.alloc _ = w4 at *
        obtain ⟨⟨d0, d1, d2, d3, d4, d5, d6, d7, d8, d9, d10⟩, f0, f1, f2, f3, f4, f5, f6, f7, f8, f9, f10⟩ := zfr_facts HDF.out.row
        by_cases hy : y = 0
        · subst hy
          go_wp2_with fail
          refine bodyPost_ret (res_frame_err rfl _ _ w.heap.size _ rfl rfl (fput_row _ _ _ _ _ _ _ _ _ _ _ HDF.out.row)) rfl ?_
          have hd := HDC.out
          rw [if_pos trivial] at hd
          refine ⟨p1, c1, by rw [hd]; rfl, ?_, by rw [hd]; exact HR4.out.1, HR4.out.2.1, HR4.out.2.2, grown_new HDF.out.gr (fput_grown _ _ _ _ _ _ _ _ _ _ _ _ _) (Nat.le_refl _)⟩
          rw [hd]
          exact (HRR.out.grown (fput_grown _ w.heap.size _ _ _ _ _ _ _ _ _ _ _) (fun b hb e => by have := Option.some.inj e; omega)).mono (fun b hb => Nat.le_of_lt hb)
        · have hyb : (y == 0) = false := by simpa using hy
          have hyn : (y != 0) = true := by simpa using hy
          have HE := Lib.hid (HDF.out.err (L := L) (x := y) (by rw [HDC.out, if_neg hy]))
          go_wp2_with fail
          refine bodyPost_ret (res_frame_err rfl _ _ w.heap.size zfr rfl rfl HE.out.1) rfl ?_
          exact HE.out.2
end Go.Proofs.YtpombmpkccnefaaDoor

/- The reference's Ints and Same, and the statements' sameLabels, at equal lists. -/
namespace Go.Proofs.YtpombmpkccnefaaDoor
open Go.RowKit Bs
set_option maxRecDepth 100000 in
set_option maxHeartbeats 3200000 in
theorem rints_any (r : List Int) (p1 p2 : Option Addr) (c1 c2 : Nat) (q1 q2 : Nat → Prop) (w : World) (h1 : Rd w q1 (.slice p1 r.length c1) (r.map iv)) (h2 : Rd w q2 (.slice p2 r.length c2) (r.map iv)) (hm : r.length ≤ 9223372036854775807) :
    Calls Tryd.prog 82 #[.slice p1 r.length c1, .slice p2 r.length c2] w fun e w' => e = .returned (.bool true) ∧ w.grownBy w' none := by
  have H := Lib.hid (And.intro h1 h2)
  clear h1 h2
  go_enter Tryd.func82, Tryd.ntmps82
  go_wp2_with fail
  go_loopw [5] (fun a wr => ∃ k : Nat, k ≤ r.length ∧ a = .int .i64 (k : Int) ∧ w.grownBy wr none) (fun a _ => r.length - (intOf a).toNat)
  case atStart => exact ⟨0, Nat.zero_le _, rfl, grown_refl _ _⟩
  case round =>
    obtain ⟨k, hk, rfl, hG⟩ := hrel
    by_cases hlt : k < r.length
    · obtain ⟨b1, o1, rfl, _, hc1⟩ := rdi_cells (H.out.1.keep hG) (by omega)
      obtain ⟨b2, o2, rfl, _, hc2⟩ := rdi_cells (H.out.2.keep hG) (by omega)
      have e1 := hc1 k hlt
      have e2 := hc2 k hlt
      have HG := Lib.hid hG
      clear hc1 hc2 hG
      generalize r.getD k 0 = y at *
      go_wp2_with fail
      go_region
      have HG2 := Lib.hid (grown_drew HG.out)
      clear HG e1 e2
      change Exit.then _ _ _ _ wr.drew
      generalize wr.drew = w2 at *
      go_wp2_with fail
      exact ⟨⟨k + 1, by omega, congrArg _ (by omega), HG2.out⟩, by simp only [intOf]; omega⟩
    · obtain rfl : k = r.length := by omega
      have HG := Lib.hid hG
      clear hG
      go_wp2_with fail
      go_ret
      exact ⟨rfl, HG.out⟩
set_option maxRecDepth 100000 in
set_option maxHeartbeats 3200000 in
theorem rsl_any (ls : List Lab) (p1 p2 : Option Addr) (c1 c2 : Nat) (q1 q2 : Nat → Prop) (w : World) (h1 : RdL w q1 (.slice p1 ls.length c1) ls) (h2 : RdL w q2 (.slice p2 ls.length c2) ls) (hm : ls.length ≤ 9223372036854775807) :
    Calls Tryd.prog 30 #[.slice p1 ls.length c1, .slice p2 ls.length c2] w fun e w' => e = .returned (.bool true) ∧ w.grownBy w' none := by
  have H := Lib.hid (And.intro h1 h2)
  clear h1 h2
  go_enter Tryd.func30, Tryd.ntmps30
  go_wp2_with fail
  go_loopw [5] (fun a wr => ∃ k : Nat, k ≤ ls.length ∧ a = .int .i64 (k : Int) ∧ w.grownBy wr none) (fun a _ => ls.length - (intOf a).toNat)
  case atStart => exact ⟨0, Nat.zero_le _, rfl, grown_refl _ _⟩
  case round =>
    obtain ⟨k, hk, rfl, hG⟩ := hrel
    by_cases hlt : k < ls.length
    · obtain ⟨-, b1, o1, rfl, _, hc1⟩ := (H.out.1.keep hG).cells (by omega)
      obtain ⟨-, b2, o2, rfl, _, hc2⟩ := (H.out.2.keep hG).cells (by omega)
      obtain ⟨e1, e2, e3⟩ := hc1 k hlt
      obtain ⟨e4, e5, e6⟩ := hc2 k hlt
      have HG := Lib.hid hG
      clear hc1 hc2 hG
      generalize ls[k] = l at *
      go_wp2_with fail
      go_region
      have HG2 := Lib.hid (grown_drew HG.out)
      clear HG e1 e2 e3 e4 e5 e6
      change Exit.then _ _ _ _ wr.drew
      generalize wr.drew = w2 at *
      go_wp2_with fail
      exact ⟨⟨k + 1, by omega, congrArg _ (by omega), HG2.out⟩, by simp only [intOf]; omega⟩
    · obtain rfl : k = ls.length := by omega
      have HG := Lib.hid hG
      clear hG
      go_wp2_with fail
      go_ret
      exact ⟨rfl, HG.out⟩
/-- The cells of a frame, each by its kind. -/
def gcells (v : Value) (n0 n1 n2 n3 n4 n5 n6 n7 n8 : Int) (s9 : ByteArray) : Array Value := #[v, .int .i64 n0, .int .i64 n1, .int .i64 n2, .int .i64 n3, .int .i64 n4, .int .i64 n5, .int .i64 n6, .int .i64 n7, .int .u64 n8, .string s9]
set_option maxRecDepth 100000 in
theorem g_facts {w : World} {b : Nat} {v : Value} {n0 n1 n2 n3 n4 n5 n6 n7 n8 : Int} {s9 : ByteArray} (h : w.heap[b]? = some (.cells (gcells v n0 n1 n2 n3 n4 n5 n6 n7 n8 s9) 43 (0, 0))) :
    w.cell? ⟨b, 0, none⟩ = some v ∧ w.cell? ⟨b, 1, none⟩ = some (.int .i64 n0) ∧ w.cell? ⟨b, 2, none⟩ = some (.int .i64 n1) ∧ w.cell? ⟨b, 3, none⟩ = some (.int .i64 n2) ∧ w.cell? ⟨b, 4, none⟩ = some (.int .i64 n3) ∧ w.cell? ⟨b, 5, none⟩ = some (.int .i64 n4) ∧ w.cell? ⟨b, 6, none⟩ = some (.int .i64 n5) ∧ w.cell? ⟨b, 7, none⟩ = some (.int .i64 n6) ∧ w.cell? ⟨b, 8, none⟩ = some (.int .i64 n7) ∧ w.cell? ⟨b, 9, none⟩ = some (.int .u64 n8) ∧ w.cell? ⟨b, 10, none⟩ = some (.string s9) :=
  ⟨cell_of_row _ _ _ _ _ _ h, cell_of_row _ _ _ _ _ _ h, cell_of_row _ _ _ _ _ _ h, cell_of_row _ _ _ _ _ _ h, cell_of_row _ _ _ _ _ _ h, cell_of_row _ _ _ _ _ _ h, cell_of_row _ _ _ _ _ _ h, cell_of_row _ _ _ _ _ _ h, cell_of_row _ _ _ _ _ _ h, cell_of_row _ _ _ _ _ _ h, cell_of_row _ _ _ _ _ _ h⟩
set_option maxRecDepth 100000 in
set_option maxHeartbeats 3200000 in
theorem rsame_any (r : List Int) (n0 n1 n2 n3 n4 n5 n6 n7 n8 : Int) (s9 : ByteArray) (p1 p2 : Option Addr) (c1 c2 : Nat) (q1 q2 : Nat → Prop) (w : World) (h1 : Rd w q1 (.slice p1 r.length c1) (r.map iv)) (h2 : Rd w q2 (.slice p2 r.length c2) (r.map iv)) (hm : r.length ≤ 9223372036854775807) :
    Calls Tryd.prog 35 #[.agg #[.slice p1 r.length c1, .int .i64 n0, .int .i64 n1, .int .i64 n2, .int .i64 n3, .int .i64 n4, .int .i64 n5, .int .i64 n6, .int .i64 n7, .int .u64 n8, .string s9], .agg #[.slice p2 r.length c2, .int .i64 n0, .int .i64 n1, .int .i64 n2, .int .i64 n3, .int .i64 n4, .int .i64 n5, .int .i64 n6, .int .i64 n7, .int .u64 n8, .string s9]] w fun e w' => e = .returned (.bool true) ∧ w.grownBy w' none := by
  obtain ⟨k1, k2, k3, k4⟩ := two_boxes w (gcells (.slice p1 r.length c1) n0 n1 n2 n3 n4 n5 n6 n7 n8 s9) (gcells (.slice p2 r.length c2) n0 n1 n2 n3 n4 n5 n6 n7 n8 s9) 43 43
  obtain ⟨a0, a1, a2, a3, a4, a5, a6, a7, a8, a9, a10⟩ := g_facts k1
  obtain ⟨b0, b1, b2, b3, b4, b5, b6, b7, b8, b9, b10⟩ := g_facts k2
  have H := Lib.hid (And.intro (h1.keep k3) (h2.keep k3))
  have K := Lib.hid k3
  clear k1 k2 k3 k4 h1 h2
  unfold gcells at *
  go_enter Tryd.func35, Tryd.ntmps35
  go_upto_region 1 with fail
  generalize (w.alloc _).alloc _ = wa at *
  go_wp2_with (go_at_call 82; refine (rints_any r p1 p2 c1 c2 _ _ wa H.out.1 H.out.2 hm).mono ?_; rintro e w' ⟨rfl, hg⟩; have G := Lib.hid hg; clear hg)
  go_ret
  exact ⟨rfl, grown_trans K.out G.out⟩
end Go.Proofs.YtpombmpkccnefaaDoor

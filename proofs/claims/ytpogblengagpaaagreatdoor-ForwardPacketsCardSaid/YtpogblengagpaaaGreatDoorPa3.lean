/- Parts of the proof, packed: ToCheckR, ToFail, ToWith, ToOpn, IdM, ToRws, IdArr, IdLeaf. -/
import Derived.Test.YtpogblengagpaaaGreatDoorPa2
import Derived.Test.YtpogblengagpaaaGreatDoorPa1
import Derived.Deep.WholeRow
import Derived.Deep.CutBlock
/- The reference's has, cost, Check of a topology. -/
namespace Go.Proofs.YtpogblengagpaaaGreatDoor
set_option maxRecDepth 100000
open Go.RowKit Bs
theorem ck_pr {w wr : World} {T : Tg} (h : CK w T wr) (hn : 0 < T.R.length) : ∃ b off, T.pR = some ⟨b, off, none⟩ := by
 obtain ⟨-, b, off, e, -, -⟩ := rdr_cells h.ok.r hn
 exact ⟨b, off, e⟩
theorem ck_pl {w wr : World} {T : Tg} (h : CK w T wr) (hn : 0 < T.L.length) : ∃ b off, T.pL = some ⟨b, off, none⟩ := by
 obtain ⟨-, b, off, e, -, -⟩ := rdl_cells h.ok.l hn
 exact ⟨b, off, e⟩
theorem ck_rt {w wr : World} {R : List Rt} {L : List Lk} {b off cR cL : Nat} {pL : Option Addr} (h : CK w ⟨R, L, some ⟨b, off, none⟩, cR, pL, cL⟩ wr) {i : Nat} {x : Rt} (hx : R[i]? = some x) :
  wr.cell? ⟨b, off + i * 2, none⟩ = some (.int .i64 x.id) ∧ wr.cell? ⟨b, off + i * 2 + 1, none⟩ = some (.bool x.cap) := by
 have hl := (List.getElem?_eq_some_iff.1 hx).1
 obtain ⟨-, b', off', e, -, hc⟩ := rdr_cells (R := R) h.ok.r (by omega)
 injection e with e
 injection e with e1 e2
 subst e1
 subst e2
 exact hc i x hx
theorem ck_lk {w wr : World} {R : List Rt} {L : List Lk} {b off cR cL : Nat} {pR : Option Addr} (h : CK w ⟨R, L, pR, cR, some ⟨b, off, none⟩, cL⟩ wr) {i : Nat} {x : Lk} (hx : L[i]? = some x) :
  wr.cell? ⟨b, off + i * 5, none⟩ = some (.int .i64 x.a) ∧ wr.cell? ⟨b, off + i * 5 + 1, none⟩ = some (.int .i64 x.b) ∧ wr.cell? ⟨b, off + i * 5 + 2, none⟩ = some (.int .i64 x.ca) ∧ wr.cell? ⟨b, off + i * 5 + 3, none⟩ = some (.int .i64 x.cb) ∧ wr.cell? ⟨b, off + i * 5 + 4, none⟩ = some (.int .i64 x.cp) := by
 have hl := (List.getElem?_eq_some_iff.1 hx).1
 obtain ⟨-, b', off', e, -, hc⟩ := rdl_cells (L := L) h.ok.l (by omega)
 injection e with e
 injection e with e1 e2
 subst e1
 subst e2
 exact hc i x hx
theorem CK.drew {w wr : World} {T : Tg} (h : CK w T wr) : CK w T wr.drew := h.keep (grown_drew (grown_refl _ _))
def coK (n : Int) : Bool := decide (1 ≤ n ∧ n ≤ 1000)
theorem rcost_any (n : Int) (w : World) :
  Calls Tryz.prog 87 #[.int .i64 n] w fun e w' => e = .returned (.bool (coK n)) ∧ w' = w := by
 unfold coK
 go_enter Tryz.func87, Tryz.ntmps87
 by_cases h1 : 1 ≤ n
 ·by_cases h2 : n ≤ 1000
  ·go_wp2_with fail
   go_ret
   exact ⟨by simp; omega, rfl⟩
  ·go_wp2_with fail
   go_ret
   exact ⟨by simp; omega, rfl⟩
 ·go_wp2_with fail
  go_ret
  exact ⟨by simp; omega, rfl⟩
theorem wrNum_coK (l : Lk) : wrNum l = (!coK l.ca || (!coK l.cb || !decide (0 ≤ l.cp ∧ l.cp ≤ 1000))) := by
 unfold wrNum coK
 simp only [Bool.decide_and, Bool.not_and, Bool.or_assoc]
set_option maxHeartbeats 1600000 in
theorem rhas_any (T : Tg) (x : Int) (q : Nat → Prop) (w : World) (hT : TgOk w q T) :
  Calls Tryz.prog 88 #[.agg #[.slice T.pR T.R.length T.cR, .slice T.pL T.L.length T.cL], .int .i64 x] w fun e w' => e = .returned (.bool (hasR T.R x)) ∧ w.grownBy w' none := by
 have C0 := Lib.hid (CK.start hT)
 have hmR := Nat.le_trans hT.cr.1 hT.cr.2
 clear hT
 obtain ⟨R, L, pR, cR, pL, cL⟩ := T
 simp only at hmR C0 ⊢
 go_enter Tryz.func88, Tryz.ntmps88
 go_upto_region 1 with fail
 generalize w.alloc _ = wa at *
 go_wp2_with fail
 go_loopw [5] (fun a wr => ∃ k : Nat, k ≤ R.length ∧ a = .int .i64 (k : Int) ∧ Hid (CK w ⟨R, L, pR, cR, pL, cL⟩ wr) ∧ Hid ((R.take k).any (fun r => decide (r.id = x)) = false)) (fun a _ => R.length - (RowKit.intOf a).toNat)
 case atStart => exact ⟨0, Nat.zero_le _, rfl, C0, Lib.hid rfl⟩
 case round =>
  obtain ⟨k, hk, rfl, C, HN⟩ := hrel
  clear C0
  obtain ⟨c0, c1⟩ := row_cells C.out.box
  by_cases hlt : k < R.length
  ·obtain ⟨b, off, hp⟩ := ck_pr C.out (show 0 < R.length by omega)
   change pR = _ at hp
   subst hp
   obtain ⟨y, hy⟩ : ∃ y, R[k]? = some y := ⟨_, List.getElem?_eq_getElem hlt⟩
   obtain ⟨a0, a1⟩ := ck_rt C.out hy
   have HY := Lib.hid hy
   clear hy
   by_cases e : y.id = x
   ·have e' : (y.id == x) = true := by simpa using e
    have HE := Lib.hid e
    clear e
    go_wp2_with fail
    go_ret
    refine ⟨?_, C.out.gr⟩
    have : hasR R x = true := any_at HY.out (decide_eq_true HE.out)
    rw [this]; rfl
   ·have e' : (y.id == x) = false := by simpa using e
    have HE := Lib.hid e
    clear e
    go_wp2_with fail
    exact ⟨⟨k + 1, by omega, congrArg _ (by omega), C, Lib.hid (any_take HN.out HY.out (decide_eq_false HE.out))⟩, by simp only [RowKit.intOf]; omega⟩
  ·obtain rfl : k = R.length := by omega
   go_wp2_with fail
   go_ret
   have : hasR R x = false := any_end HN.out (Nat.le_refl _)
   rw [this]
   exact ⟨rfl, C.out.gr⟩
set_option maxRecDepth 1000000 in
set_option maxHeartbeats 6400000 in
theorem rcheck_any (T : Tg) (q : Nat → Prop) (w : World) (hT : TgOk w q T) :
  Calls Tryz.prog 61 #[.agg #[.slice T.pR T.R.length T.cR, .slice T.pL T.L.length T.cL]] w fun e w' => e = .returned (.int .i64 (chk T.R T.L)) ∧ w.grownBy w' none := by
 have C0 := Lib.hid (CK.start hT)
 have hmR := Nat.le_trans hT.cr.1 hT.cr.2
 have hmL := Nat.le_trans hT.cl.1 hT.cl.2
 clear hT
 obtain ⟨R, L, pR, cR, pL, cL⟩ := T
 simp only at hmR hmL C0 ⊢
 go_enter Tryz.func61, Tryz.ntmps61
 go_upto_region 1 with fail
 generalize w.alloc _ = wa at *
 obtain ⟨c0, c1⟩ := row_cells C0.out.box
 by_cases h1 : R.length ≤ 24
 case neg =>
  have h1' : (24 : Int) < (R.length : Int) := by omega
  go_wp2_with fail
  go_ret
  exact ⟨by unfold chk; rw [if_pos (by omega)]; rfl, C0.out.gr⟩
 by_cases h2 : L.length ≤ 60
 case neg =>
  have h1' : ¬ (24 : Int) < (R.length : Int) := by omega
  have h2' : (60 : Int) < (L.length : Int) := by omega
  go_wp2_with fail
  go_ret
  exact ⟨by unfold chk; rw [if_pos (by omega)]; rfl, C0.out.gr⟩
 have hc0 : Hid (¬ (24 < R.length ∨ 60 < L.length)) := Lib.hid (by omega)
 go_wp2_with fail
 go_loopw [3] (fun a wr => ∃ k : Nat, k ≤ R.length ∧ a = .int .i64 (k : Int) ∧ Hid (CK w ⟨R, L, pR, cR, pL, cL⟩ wr) ∧ Hid ((R.take k).any wrId = false)) (fun a _ => R.length - (RowKit.intOf a).toNat)
 case atStart => exact ⟨0, Nat.zero_le _, rfl, C0, Lib.hid rfl⟩
 case round =>
 obtain ⟨k, hk, rfl, C, HN⟩ := hrel
 clear C0 c0 c1
 obtain ⟨c0, c1⟩ := row_cells C.out.box
 by_cases hlt : k < R.length
 case pos =>
  obtain ⟨b, off, hp⟩ := ck_pr C.out (show 0 < R.length by omega)
  change pR = _ at hp
  subst hp
  obtain ⟨y, hy⟩ : ∃ y, R[k]? = some y := ⟨_, List.getElem?_eq_getElem hlt⟩
  obtain ⟨a0, a1⟩ := ck_rt C.out hy
  have HY := Lib.hid hy
  clear hy
  by_cases g1 : 1 ≤ y.id
  ·by_cases g2 : y.id ≤ 99
   ·have g1' : ¬ y.id < 1 := by omega
    have g2' : ¬ 99 < y.id := by omega
    have HE : Hid (wrId y = false) := Lib.hid (by unfold wrId; simp; omega)
    go_wp2_with fail
    exact ⟨⟨k + 1, by omega, congrArg _ (by omega), C, Lib.hid (any_take HN.out HY.out HE.out)⟩, by simp only [RowKit.intOf]; omega⟩
   ·have g1' : ¬ y.id < 1 := by omega
    have g2' : 99 < y.id := by omega
    have HE : Hid (wrId y = true) := Lib.hid (by unfold wrId; simp; omega)
    go_wp2_with fail
    go_ret
    exact ⟨by unfold chk; rw [if_neg hc0.out, any_at HY.out HE.out]; rfl, C.out.gr⟩
  ·have g1' : y.id < 1 := by omega
   have HE : Hid (wrId y = true) := Lib.hid (by unfold wrId; simp; omega)
   go_wp2_with fail
   go_ret
   exact ⟨by unfold chk; rw [if_neg hc0.out, any_at HY.out HE.out]; rfl, C.out.gr⟩
 obtain rfl : k = R.length := by omega
 have F1 := Lib.hid (any_end HN.out (Nat.le_refl _))
 clear HN
 obtain ⟨w1, rfl⟩ : ∃ w1 : World, w1 = wr := ⟨_, rfl⟩
 go_wp2_with fail
 go_loopw [4] (fun a wr => ∃ k : Nat, 1 ≤ k ∧ (k ≤ R.length ∨ k = 1) ∧ a = .int .i64 (k : Int) ∧ Hid (CK w ⟨R, L, pR, cR, pL, cL⟩ wr) ∧ Hid (∀ i x y, i + 1 < k → R[i]? = some x → R[i + 1]? = some y → ltR x y = true)) (fun a _ => R.length - (RowKit.intOf a).toNat)
 case atStart => exact ⟨1, by omega, Or.inr rfl, rfl, C, Lib.hid (fun i x y h => by omega)⟩
 case round =>
 clear C c0 c1
 obtain ⟨k, hk1, hk, rfl, C, HN⟩ := hrel
 obtain ⟨c0, c1⟩ := row_cells C.out.box
 by_cases hlt : k < R.length
 case pos =>
  obtain ⟨j, rfl⟩ : ∃ j, k = j + 1 := ⟨k - 1, by omega⟩
  obtain ⟨b, off, hp⟩ := ck_pr C.out (show 0 < R.length by omega)
  change pR = _ at hp
  subst hp
  obtain ⟨x, hx⟩ : ∃ x, R[j]? = some x := ⟨_, List.getElem?_eq_getElem (by omega)⟩
  obtain ⟨y, hy⟩ : ∃ y, R[j + 1]? = some y := ⟨_, List.getElem?_eq_getElem hlt⟩
  obtain ⟨a0, a1⟩ := ck_rt C.out hx
  obtain ⟨b0, b1⟩ := ck_rt C.out hy
  have HXY := Lib.hid (And.intro hx hy)
  have ew1 : ((j : Int) + 1 - 1) = (j : Int) := by omega
  have ew2 : IntKind.i64.wrap ((j : Int) + 1 - 1) = (j : Int) := by rw [ew1, IntWalk.i64_in _ (by omega)]
  have ew3 : IntKind.i64.wrap (j : Int) = (j : Int) := IntWalk.i64_in _ (by omega)
  have j0 : (0 : Int) ≤ (j : Int) := by omega
  have j1 : (0 : Int) ≤ (j : Int) + 1 := by omega
  have j2 : (j : Int) < (R.length : Int) := by omega
  have j3 : (j : Int) + 1 < (R.length : Int) := by omega
  have j4 : ((j : Int) + 1).toNat = j + 1 := by omega
  clear hx hy
  have hcast : ((j + 1 : Nat) : Int) = (j : Int) + 1 := by omega
  rw [hcast]
  by_cases hge : y.id ≤ x.id
  ·have HE : Hid (ltR x y = false) := Lib.hid (by unfold ltR; simp; omega)
   go_wp2_with fail
   go_region
   go_wp2_with fail
   go_ret
   exact ⟨by unfold chk; rw [if_neg hc0.out, F1.out, ascR_hit HXY.out.1 HXY.out.2 HE.out]; rfl, C.out.drew.gr⟩
  ·have HE : Hid (ltR x y = true) := Lib.hid (by unfold ltR; simp; omega)
   go_wp2_with fail
   go_region
   have HC := Lib.hid C.out.drew
   go_wp2_with fail
   refine ⟨⟨j + 1 + 1, by omega, Or.inl (by omega), congrArg _ (by omega), HC, Lib.hid fun i x2 y2 hi hx2 hy2 => ?_⟩, by simp only [RowKit.intOf]; omega⟩
   by_cases hij : i = j
   ·subst hij
    have e1 := HXY.out.1.symm.trans hx2
    have e2 := HXY.out.2.symm.trans hy2
    injection e1 with e1
    injection e2 with e2
    subst e1
    subst e2
    exact HE.out
   ·exact HN.out i x2 y2 (by omega) hx2 hy2
 have F2 : Hid (ascB ltR R = true) := Lib.hid (ascR_end fun i x y hi hx hy => HN.out i x y (by omega) hx hy)
 clear HN
 have hltz : ¬ (k : Int) < (R.length : Int) := by omega
 obtain ⟨w2, rfl⟩ : ∃ w2 : World, w2 = wr := ⟨_, rfl⟩
 go_wp2_with fail
 go_loopw [5] (fun a wr => ∃ k : Nat, k ≤ L.length ∧ a = .int .i64 (k : Int) ∧ Hid (CK w ⟨R, L, pR, cR, pL, cL⟩ wr) ∧ Hid ((L.take k).any wrNum = false)) (fun a _ => L.length - (RowKit.intOf a).toNat)
 case atStart => exact ⟨0, Nat.zero_le _, rfl, C, Lib.hid rfl⟩
 case round =>
 clear C c0 c1
 obtain ⟨k, hk, rfl, C, HN⟩ := hrel
 obtain ⟨c0, c1⟩ := row_cells C.out.box
 by_cases hlt : k < L.length
 case pos =>
  obtain ⟨b, off, hp⟩ := ck_pl C.out (show 0 < L.length by omega)
  change pL = _ at hp
  subst hp
  obtain ⟨y, hy⟩ : ∃ y, L[k]? = some y := ⟨_, List.getElem?_eq_getElem hlt⟩
  obtain ⟨a0, a1, a2, a3, a4⟩ := ck_lk C.out hy
  have HY := Lib.hid hy
  clear hy
  have gal := World.grownBy_alloc wr (.cells #[.int .i64 y.a, .int .i64 y.b, .int .i64 y.ca, .int .i64 y.cb, .int .i64 y.cp] 135) none
  obtain ⟨d0, d1, d2, d3, d4⟩ := lk_facts (heap_alloc_new wr (.cells #[.int .i64 y.a, .int .i64 y.b, .int .i64 y.ca, .int .i64 y.cb, .int .i64 y.cp] 135))
  have C2 := Lib.hid (C.out.keep gal)
  clear gal
  go_upto_region 17 with fail
  generalize wr.alloc _ = wy at *
  have HW := Lib.hid (wrNum_coK y)
  have yes : Hid (wrNum y = true) → Hid (chk R L = 2) := fun h => Lib.hid (by unfold chk; rw [if_neg hc0.out, F1.out, F2.out, any_at HY.out h.out]; rfl)
  cases f1 : coK y.ca
  ·have HF := yes (Lib.hid (by rw [HW.out, f1]; rfl))
   clear yes HW
   go_wp2_with (go_at_call 87; refine (rcost_any _ _).mono ?_; rintro e w' ⟨rfl, rfl⟩; try rw [f1])
   go_ret
   exact ⟨by rw [HF.out]; rfl, C2.out.gr⟩
  ·cases f2 : coK y.cb
   ·have HF := yes (Lib.hid (by rw [HW.out, f1, f2]; rfl))
    clear yes HW
    go_wp2_with (go_at_call 87; refine (rcost_any _ _).mono ?_; rintro e w' ⟨rfl, rfl⟩; first | rw [f1] | rw [f2])
    go_ret
    exact ⟨by rw [HF.out]; rfl, C2.out.gr⟩
   ·by_cases g1 : 0 ≤ y.cp
    ·by_cases g2 : y.cp ≤ 1000
     ·have g1' : ¬ y.cp < 0 := by omega
      have g2' : ¬ 1000 < y.cp := by omega
      have HF : Hid (wrNum y = false) := Lib.hid (by rw [HW.out, f1, f2, decide_eq_true ⟨g1, g2⟩]; rfl)
      clear yes HW
      go_wp2_with (go_at_call 87; refine (rcost_any _ _).mono ?_; rintro e w' ⟨rfl, rfl⟩; first | rw [f1] | rw [f2])
      exact ⟨⟨k + 1, by omega, congrArg _ (by omega), C2, Lib.hid (any_take HN.out HY.out HF.out)⟩, by simp only [RowKit.intOf]; omega⟩
     ·have g1' : ¬ y.cp < 0 := by omega
      have g2' : 1000 < y.cp := by omega
      have HF := yes (Lib.hid (by rw [HW.out, f1, f2, decide_eq_false (by omega)]; rfl))
      clear yes HW
      go_wp2_with (go_at_call 87; refine (rcost_any _ _).mono ?_; rintro e w' ⟨rfl, rfl⟩; first | rw [f1] | rw [f2])
      go_ret
      exact ⟨by rw [HF.out]; rfl, C2.out.gr⟩
    ·have g1' : y.cp < 0 := by omega
     have HF := yes (Lib.hid (by rw [HW.out, f1, f2, decide_eq_false (by omega)]; rfl))
     clear yes HW
     go_wp2_with (go_at_call 87; refine (rcost_any _ _).mono ?_; rintro e w' ⟨rfl, rfl⟩; first | rw [f1] | rw [f2])
     go_ret
     exact ⟨by rw [HF.out]; rfl, C2.out.gr⟩
 obtain rfl : k = L.length := by omega
 have F3 := Lib.hid (any_end HN.out (Nat.le_refl _))
 clear HN
 obtain ⟨w3, rfl⟩ : ∃ w3 : World, w3 = wr := ⟨_, rfl⟩
 go_wp2_with fail
 go_loopw [7] (fun a wr => ∃ k : Nat, k ≤ L.length ∧ a = .int .i64 (k : Int) ∧ Hid (CK w ⟨R, L, pR, cR, pL, cL⟩ wr) ∧ Hid ((L.take k).any (unk R) = false)) (fun a _ => L.length - (RowKit.intOf a).toNat)
 case atStart => exact ⟨0, Nat.zero_le _, rfl, C, Lib.hid rfl⟩
 case round =>
 clear C c0 c1
 obtain ⟨k, hk, rfl, C, HN⟩ := hrel
 obtain ⟨c0, c1⟩ := row_cells C.out.box
 by_cases hlt : k < L.length
 case pos =>
  obtain ⟨b, off, hp⟩ := ck_pl C.out (show 0 < L.length by omega)
  change pL = _ at hp
  subst hp
  obtain ⟨y, hy⟩ : ∃ y, L[k]? = some y := ⟨_, List.getElem?_eq_getElem hlt⟩
  obtain ⟨a0, a1, a2, a3, a4⟩ := ck_lk C.out hy
  have HY := Lib.hid hy
  clear hy
  have HF := Lib.hid (show _ ∧ _ from And.intro C.out HY.out)
  have GZ : Hid (wr.grownBy wr none) := Lib.hid (grown_refl _ _)
  go_upto_region 22 with fail
  clear c0 c1 a0 a1 a2 a3 a4
  cases f1 : hasR R y.a
  ·refine wp_region_held_drew (S := fun w' => Hid (wr.grownBy w' none)) (by kernel_rfl) (hid_drew GZ) (fun hHeld => ?_)
   refine zT (i := 0) (v := ?_) rfl ?_ hHeld ?_
   rotate_left 1
   ·intro u hSu
    obtain ⟨c0, c1⟩ := row_cells (HF.out.1.keep hSu.out).box
    obtain ⟨a0, a1, a2, a3, a4⟩ := ck_lk (HF.out.1.keep hSu.out) HF.out.2
    go_simp
    first | done | with_reducible rfl
   try simp only [Act.put, zA, zB, zC]
   refine zT (i := 1) (v := ?_) rfl ?_ hHeld ?_
   rotate_left 1
   ·intro u hSu
    go_simp
    first | done | with_reducible rfl
   try simp only [Act.put, zA, zB, zC]
   refine zT (i := 2) (v := ?_) rfl ?_ hHeld ?_
   rotate_left 1
   ·intro u hSu
    obtain ⟨c0, c1⟩ := row_cells (HF.out.1.keep hSu.out).box
    obtain ⟨a0, a1, a2, a3, a4⟩ := ck_lk (HF.out.1.keep hSu.out) HF.out.2
    go_simp
    first | done | with_reducible rfl
   try simp only [Act.put, zA, zB, zC]
   refine zT (i := 3) (v := ?_) rfl ?_ hHeld ?_
   rotate_left 1
   ·intro u hSu
    go_simp
    first | done | with_reducible rfl
   try simp only [Act.put, zA, zB, zC]
   refine zT (i := 4) (v := ?_) rfl ?_ hHeld ?_
   rotate_left 1
   ·intro u hSu
    go_simp
    first | done | with_reducible rfl
   try simp only [Act.put, zA, zB, zC]
   refine zT (i := 5) (v := ?_) rfl ?_ hHeld ?_
   rotate_left 1
   ·intro u hSu
    go_simp
    first | done | with_reducible rfl
   try simp only [Act.put, zA, zB, zC]
   refine zT (i := 6) (v := ?_) rfl ?_ hHeld ?_
   rotate_left 1
   ·intro u hSu
    obtain ⟨c0, c1⟩ := row_cells (HF.out.1.keep hSu.out).box
    obtain ⟨a0, a1, a2, a3, a4⟩ := ck_lk (HF.out.1.keep hSu.out) HF.out.2
    go_simp
    first | done | with_reducible rfl
   try simp only [Act.put, zA, zB, zC]
   refine wpAnyH_ready (rs := [7]) (by kernel_rfl) (by simp) ?_
   refine AllReadyH.cons (o := ⟨_, _, _, _, _, _⟩) rfl (fun K hK => ?_) AllReadyH.nil
   go_simp
   go_at_call 88
   refine (rhas_any ⟨R, L, pR, cR, some ⟨b, off, none⟩, cL⟩ y.a _ _ (HF.out.1.keep hHeld.out).ok).mono ?_
   rintro e w' ⟨rfl, hap⟩
   simp only
   rw [f1]
   refine hK.out _ _ (hid_more hHeld hap) (fun hH2 => ?_)
   clear hK K hHeld
   have hHeld := hH2
   clear hH2
   try simp only [Act.put, zA, zB, zC]
   refine zT (i := 8) (v := ?_) rfl ?_ hHeld ?_
   rotate_left 1
   ·intro u hSu
    go_simp
    first | done | with_reducible rfl
   try simp only [Act.put, zA, zB, zC]
   refine zT (i := 9) (v := ?_) rfl ?_ hHeld ?_
   rotate_left 1
   ·intro u hSu
    go_simp
    first | done | with_reducible rfl
   try simp only [Act.put, zA, zB, zC]
   refine zS (i := 10) rfl hHeld ?_
   try simp only [Act.put, zA, zB, zC]
   refine zS (i := 11) rfl hHeld ?_
   try simp only [Act.put, zA, zB, zC]
   refine zS (i := 12) rfl hHeld ?_
   try simp only [Act.put, zA, zB, zC]
   refine zS (i := 13) rfl hHeld ?_
   try simp only [Act.put, zA, zB, zC]
   refine zS (i := 14) rfl hHeld ?_
   try simp only [Act.put, zA, zB, zC]
   refine zS (i := 15) rfl hHeld ?_
   try simp only [Act.put, zA, zB, zC]
   refine zS (i := 16) rfl hHeld ?_
   try simp only [Act.put, zA, zB, zC]
   refine zS (i := 17) rfl hHeld ?_
   try simp only [Act.put, zA, zB, zC]
   refine zS (i := 18) rfl hHeld ?_
   try simp only [Act.put, zA, zB, zC]
   refine zT (i := 19) (v := ?_) rfl ?_ hHeld ?_
   rotate_left 1
   ·intro u hSu
    go_simp
    first | done | with_reducible rfl
   try simp only [Act.put, zA, zB, zC]
   refine wpAnyH_done (by kernel_rfl) ?_ _
   have HC := Lib.hid (HF.out.1.keep hHeld.out)
   have HE : Hid (unk R y = true) := Lib.hid (by unfold unk; rw [f1]; rfl)
   clear f1 hHeld
   go_wp2_with fail
   go_ret
   exact ⟨by unfold chk; rw [if_neg hc0.out, F1.out, F2.out, F3.out, any_at HY.out HE.out]; rfl, HC.out.gr⟩
  ·refine wp_region_held_drew (S := fun w' => Hid (wr.grownBy w' none)) (by kernel_rfl) (hid_drew GZ) (fun hHeld => ?_)
   refine zT (i := 0) (v := ?_) rfl ?_ hHeld ?_
   rotate_left 1
   ·intro u hSu
    obtain ⟨c0, c1⟩ := row_cells (HF.out.1.keep hSu.out).box
    obtain ⟨a0, a1, a2, a3, a4⟩ := ck_lk (HF.out.1.keep hSu.out) HF.out.2
    go_simp
    first | done | with_reducible rfl
   try simp only [Act.put, zA, zB, zC]
   refine zT (i := 1) (v := ?_) rfl ?_ hHeld ?_
   rotate_left 1
   ·intro u hSu
    go_simp
    first | done | with_reducible rfl
   try simp only [Act.put, zA, zB, zC]
   refine zT (i := 2) (v := ?_) rfl ?_ hHeld ?_
   rotate_left 1
   ·intro u hSu
    obtain ⟨c0, c1⟩ := row_cells (HF.out.1.keep hSu.out).box
    obtain ⟨a0, a1, a2, a3, a4⟩ := ck_lk (HF.out.1.keep hSu.out) HF.out.2
    go_simp
    first | done | with_reducible rfl
   try simp only [Act.put, zA, zB, zC]
   refine zT (i := 3) (v := ?_) rfl ?_ hHeld ?_
   rotate_left 1
   ·intro u hSu
    go_simp
    first | done | with_reducible rfl
   try simp only [Act.put, zA, zB, zC]
   refine zT (i := 4) (v := ?_) rfl ?_ hHeld ?_
   rotate_left 1
   ·intro u hSu
    go_simp
    first | done | with_reducible rfl
   try simp only [Act.put, zA, zB, zC]
   refine zT (i := 5) (v := ?_) rfl ?_ hHeld ?_
   rotate_left 1
   ·intro u hSu
    go_simp
    first | done | with_reducible rfl
   try simp only [Act.put, zA, zB, zC]
   refine zT (i := 6) (v := ?_) rfl ?_ hHeld ?_
   rotate_left 1
   ·intro u hSu
    obtain ⟨c0, c1⟩ := row_cells (HF.out.1.keep hSu.out).box
    obtain ⟨a0, a1, a2, a3, a4⟩ := ck_lk (HF.out.1.keep hSu.out) HF.out.2
    go_simp
    first | done | with_reducible rfl
   try simp only [Act.put, zA, zB, zC]
   refine wpAnyH_ready (rs := [7]) (by kernel_rfl) (by simp) ?_
   refine AllReadyH.cons (o := ⟨_, _, _, _, _, _⟩) rfl (fun K hK => ?_) AllReadyH.nil
   go_simp
   go_at_call 88
   refine (rhas_any ⟨R, L, pR, cR, some ⟨b, off, none⟩, cL⟩ y.a _ _ (HF.out.1.keep hHeld.out).ok).mono ?_
   rintro e w' ⟨rfl, hap⟩
   simp only
   rw [f1]
   refine hK.out _ _ (hid_more hHeld hap) (fun hH2 => ?_)
   clear hK K hHeld
   have hHeld := hH2
   clear hH2
   try simp only [Act.put, zA, zB, zC]
   refine zT (i := 8) (v := ?_) rfl ?_ hHeld ?_
   rotate_left 1
   ·intro u hSu
    go_simp
    first | done | with_reducible rfl
   try simp only [Act.put, zA, zB, zC]
   refine zT (i := 9) (v := ?_) rfl ?_ hHeld ?_
   rotate_left 1
   ·intro u hSu
    go_simp
    first | done | with_reducible rfl
   try simp only [Act.put, zA, zB, zC]
   refine zT (i := 10) (v := ?_) rfl ?_ hHeld ?_
   rotate_left 1
   ·intro u hSu
    obtain ⟨c0, c1⟩ := row_cells (HF.out.1.keep hSu.out).box
    obtain ⟨a0, a1, a2, a3, a4⟩ := ck_lk (HF.out.1.keep hSu.out) HF.out.2
    go_simp
    first | done | with_reducible rfl
   try simp only [Act.put, zA, zB, zC]
   refine zT (i := 11) (v := ?_) rfl ?_ hHeld ?_
   rotate_left 1
   ·intro u hSu
    go_simp
    first | done | with_reducible rfl
   try simp only [Act.put, zA, zB, zC]
   refine zT (i := 12) (v := ?_) rfl ?_ hHeld ?_
   rotate_left 1
   ·intro u hSu
    obtain ⟨c0, c1⟩ := row_cells (HF.out.1.keep hSu.out).box
    obtain ⟨a0, a1, a2, a3, a4⟩ := ck_lk (HF.out.1.keep hSu.out) HF.out.2
    go_simp
    first | done | with_reducible rfl
   try simp only [Act.put, zA, zB, zC]
   refine zT (i := 13) (v := ?_) rfl ?_ hHeld ?_
   rotate_left 1
   ·intro u hSu
    go_simp
    first | done | with_reducible rfl
   try simp only [Act.put, zA, zB, zC]
   refine zT (i := 14) (v := ?_) rfl ?_ hHeld ?_
   rotate_left 1
   ·intro u hSu
    go_simp
    first | done | with_reducible rfl
   try simp only [Act.put, zA, zB, zC]
   refine zT (i := 15) (v := ?_) rfl ?_ hHeld ?_
   rotate_left 1
   ·intro u hSu
    go_simp
    first | done | with_reducible rfl
   try simp only [Act.put, zA, zB, zC]
   refine zT (i := 16) (v := ?_) rfl ?_ hHeld ?_
   rotate_left 1
   ·intro u hSu
    obtain ⟨c0, c1⟩ := row_cells (HF.out.1.keep hSu.out).box
    obtain ⟨a0, a1, a2, a3, a4⟩ := ck_lk (HF.out.1.keep hSu.out) HF.out.2
    go_simp
    first | done | with_reducible rfl
   try simp only [Act.put, zA, zB, zC]
   refine wpAnyH_ready (rs := [17]) (by kernel_rfl) (by simp) ?_
   refine AllReadyH.cons (o := ⟨_, _, _, _, _, _⟩) rfl (fun K hK => ?_) AllReadyH.nil
   go_simp
   go_at_call 88
   refine (rhas_any ⟨R, L, pR, cR, some ⟨b, off, none⟩, cL⟩ y.b _ _ (HF.out.1.keep hHeld.out).ok).mono ?_
   rintro e w' ⟨rfl, hap⟩
   simp only
   refine hK.out _ _ (hid_more hHeld hap) (fun hH2 => ?_)
   clear hK K hHeld
   have hHeld := hH2
   clear hH2
   try simp only [Act.put, zA, zB, zC]
   refine zT (i := 18) (v := ?_) rfl ?_ hHeld ?_
   rotate_left 1
   ·intro u hSu
    go_simp
    first | done | with_reducible rfl
   try simp only [Act.put, zA, zB, zC]
   refine zT (i := 19) (v := ?_) rfl ?_ hHeld ?_
   rotate_left 1
   ·intro u hSu
    go_simp
    first | done | with_reducible rfl
   try simp only [Act.put, zA, zB, zC]
   refine wpAnyH_done (by kernel_rfl) ?_ _
   have HC := Lib.hid (HF.out.1.keep hHeld.out)
   clear hHeld
   cases f2 : hasR R y.b
   ·have HE : Hid (unk R y = true) := Lib.hid (by unfold unk; rw [f1, f2]; rfl)
    clear f1 f2
    go_wp2_with fail
    go_ret
    exact ⟨by unfold chk; rw [if_neg hc0.out, F1.out, F2.out, F3.out, any_at HY.out HE.out]; rfl, HC.out.gr⟩
   ·have HE : Hid (unk R y = false) := Lib.hid (by unfold unk; rw [f1, f2]; rfl)
    clear f1 f2
    go_wp2_with fail
    exact ⟨⟨k + 1, by omega, congrArg _ (by omega), HC, Lib.hid (any_take HN.out HY.out HE.out)⟩, by simp only [RowKit.intOf]; omega⟩
 obtain rfl : k = L.length := by omega
 have F4 := Lib.hid (any_end HN.out (Nat.le_refl _))
 clear HN
 obtain ⟨w4, rfl⟩ : ∃ w4 : World, w4 = wr := ⟨_, rfl⟩
 go_wp2_with fail
 go_loopw [8] (fun a wr => ∃ k : Nat, k ≤ L.length ∧ a = .int .i64 (k : Int) ∧ Hid (CK w ⟨R, L, pR, cR, pL, cL⟩ wr) ∧ Hid ((L.take k).any wrEnd = false)) (fun a _ => L.length - (RowKit.intOf a).toNat)
 case atStart => exact ⟨0, Nat.zero_le _, rfl, C, Lib.hid rfl⟩
 case round =>
 clear C c0 c1
 obtain ⟨k, hk, rfl, C, HN⟩ := hrel
 obtain ⟨c0, c1⟩ := row_cells C.out.box
 by_cases hlt : k < L.length
 case pos =>
  obtain ⟨b, off, hp⟩ := ck_pl C.out (show 0 < L.length by omega)
  change pL = _ at hp
  subst hp
  obtain ⟨y, hy⟩ : ∃ y, L[k]? = some y := ⟨_, List.getElem?_eq_getElem hlt⟩
  obtain ⟨a0, a1, a2, a3, a4⟩ := ck_lk C.out hy
  have HY := Lib.hid hy
  clear hy
  by_cases hge : y.b ≤ y.a
  ·have HE : Hid (wrEnd y = true) := Lib.hid (decide_eq_true hge)
   go_wp2_with fail
   go_region
   go_wp2_with fail
   go_ret
   exact ⟨by unfold chk; rw [if_neg hc0.out, F1.out, F2.out, F3.out, F4.out, any_at HY.out HE.out]; rfl, C.out.drew.gr⟩
  ·have HE : Hid (wrEnd y = false) := Lib.hid (decide_eq_false hge)
   go_wp2_with fail
   go_region
   have HC := Lib.hid C.out.drew
   go_wp2_with fail
   exact ⟨⟨k + 1, by omega, congrArg _ (by omega), HC, Lib.hid (any_take HN.out HY.out HE.out)⟩, by simp only [RowKit.intOf]; omega⟩
 obtain rfl : k = L.length := by omega
 have F5 := Lib.hid (any_end HN.out (Nat.le_refl _))
 clear HN
 obtain ⟨w5, rfl⟩ : ∃ w5 : World, w5 = wr := ⟨_, rfl⟩
 go_wp2_with fail
 go_loopw [9] (fun a wr => ∃ k : Nat, 1 ≤ k ∧ (k ≤ L.length ∨ k = 1) ∧ a = .int .i64 (k : Int) ∧ Hid (CK w ⟨R, L, pR, cR, pL, cL⟩ wr) ∧ Hid (∀ i x y, i + 1 < k → L[i]? = some x → L[i + 1]? = some y → ltL x y = true)) (fun a _ => L.length - (RowKit.intOf a).toNat)
 case atStart => exact ⟨1, by omega, Or.inr rfl, rfl, C, Lib.hid (fun i x y h => by omega)⟩
 case round =>
 clear C c0 c1
 obtain ⟨k, hk1, hk, rfl, C, HN⟩ := hrel
 obtain ⟨c0, c1⟩ := row_cells C.out.box
 by_cases hlt : k < L.length
 case pos =>
  obtain ⟨j, rfl⟩ : ∃ j, k = j + 1 := ⟨k - 1, by omega⟩
  obtain ⟨b, off, hp⟩ := ck_pl C.out (show 0 < L.length by omega)
  change pL = _ at hp
  subst hp
  obtain ⟨x, hx⟩ : ∃ x, L[j]? = some x := ⟨_, List.getElem?_eq_getElem (by omega)⟩
  obtain ⟨y, hy⟩ : ∃ y, L[j + 1]? = some y := ⟨_, List.getElem?_eq_getElem hlt⟩
  obtain ⟨a0, a1, a2, a3, a4⟩ := ck_lk C.out hx
  obtain ⟨b0, b1, b2, b3, b4⟩ := ck_lk C.out hy
  have HXY := Lib.hid (And.intro hx hy)
  have ew1 : ((j : Int) + 1 - 1) = (j : Int) := by omega
  have ew2 : IntKind.i64.wrap ((j : Int) + 1 - 1) = (j : Int) := by rw [ew1, IntWalk.i64_in _ (by omega)]
  have ew3 : IntKind.i64.wrap (j : Int) = (j : Int) := IntWalk.i64_in _ (by omega)
  have j0 : (0 : Int) ≤ (j : Int) := by omega
  have j1 : (0 : Int) ≤ (j : Int) + 1 := by omega
  have j2 : (j : Int) < (L.length : Int) := by omega
  have j3 : (j : Int) + 1 < (L.length : Int) := by omega
  have j4 : ((j : Int) + 1).toNat = j + 1 := by omega
  clear hx hy
  have hcast : ((j + 1 : Nat) : Int) = (j : Int) + 1 := by omega
  rw [hcast]
  have z1 : b < wr.heap.size := World.block_lt_of_cell? wr ⟨b, off + j * 5, none⟩ a0
  have z2 : w.heap.size < wr.heap.size := World.block_lt_of_cell? wr ⟨w.heap.size, 0, none⟩ c0
  have z3 : b < wr.heap.size + 1 := by omega
  have z4 : w.heap.size < wr.heap.size + 1 := by omega
  have HF := Lib.hid (show _ ∧ _ from And.intro C.out HXY.out)
  have hcs : (Hid (ltL x y = true) ∧ x.a < y.a) ∨ (Hid (ltL x y = false) ∧ y.a < x.a) ∨ (Hid (ltL x y = true) ∧ x.a = y.a ∧ x.b < y.b) ∨ (Hid (ltL x y = false) ∧ x.a = y.a ∧ y.b ≤ x.b) := by
   have T1 : (x.a < y.a ∨ (x.a = y.a ∧ x.b < y.b)) → Hid (ltL x y = true) := fun h => Lib.hid (decide_eq_true h)
   have T2 : ¬ (x.a < y.a ∨ (x.a = y.a ∧ x.b < y.b)) → Hid (ltL x y = false) := fun h => Lib.hid (decide_eq_false h)
   rcases Int.lt_trichotomy x.a y.a with h | h | h
   ·exact Or.inl ⟨T1 (Or.inl h), h⟩
   ·rcases (show x.b < y.b ∨ y.b ≤ x.b by omega) with g | g
    ·exact Or.inr (Or.inr (Or.inl ⟨T1 (Or.inr ⟨h, g⟩), h, g⟩))
    ·exact Or.inr (Or.inr (Or.inr ⟨T2 (by omega), h, g⟩))
   ·exact Or.inr (Or.inl ⟨T2 (by omega), h⟩)
  have ok32 : ∀ w9, Hid (CK w ⟨R, L, pR, cR, some ⟨b, off, none⟩, cL⟩ w9) → Hid (ltL x y = true) → (∃ k : Nat, 1 ≤ k ∧ (k ≤ L.length ∨ k = 1) ∧ Value.int .i64 ((j : Int) + 1 + 1) = .int .i64 (k : Int) ∧ Hid (CK w ⟨R, L, pR, cR, some ⟨b, off, none⟩, cL⟩ w9) ∧ Hid (∀ i x y, i + 1 < k → L[i]? = some x → L[i + 1]? = some y → ltL x y = true)) ∧ L.length - (RowKit.intOf (.int .i64 ((j : Int) + 1 + 1))).toNat < L.length - (RowKit.intOf (.int .i64 ((j : Int) + 1))).toNat := by
   intro w9 HC HE
   refine ⟨⟨j + 1 + 1, by omega, Or.inl (by omega), congrArg _ (by omega), HC, Lib.hid fun i x2 y2 hi hx2 hy2 => ?_⟩, by simp only [RowKit.intOf]; omega⟩
   by_cases hij : i = j
   ·subst hij
    have e1 := HXY.out.1.symm.trans hx2
    have e2 := HXY.out.2.symm.trans hy2
    injection e1 with e1
    injection e2 with e2
    subst e1
    subst e2
    exact HE.out
   ·exact HN.out i x2 y2 (by omega) hx2 hy2
  have OK32 := Lib.hid ok32
  have HCS := Lib.hid hcs
  clear ok32 hcs
  have GZ : Hid (wr.grownBy wr none) := Lib.hid (grown_refl _ _)
  go_upto_region 32 with fail
  clear c0 c1 a0 a1 a2 a3 a4 b0 b1 b2 b3 b4
  refine wp_region_held_drew (S := fun w' => Hid (wr.grownBy w' none)) (by kernel_rfl) (hid_drew GZ) (fun hHeld => ?_)
  refine zT (i := 0) (v := ?_) rfl ?_ hHeld ?_
  rotate_left 1
  ·intro u hSu
   go_simp
   first | done | with_reducible rfl
  try simp only [Act.put, zA, zB, zC]
  refine zT (i := 1) (v := ?_) rfl ?_ hHeld ?_
  rotate_left 1
  ·intro u hSu
   obtain ⟨c0, c1⟩ := row_cells (HF.out.1.keep hSu.out).box
   obtain ⟨a0, a1, a2, a3, a4⟩ := ck_lk (HF.out.1.keep hSu.out) HF.out.2.1
   obtain ⟨b0, b1, b2, b3, b4⟩ := ck_lk (HF.out.1.keep hSu.out) HF.out.2.2
   go_simp
   first | done | with_reducible rfl
  try simp only [Act.put, zA, zB, zC]
  refine zT (i := 2) (v := ?_) rfl ?_ hHeld ?_
  rotate_left 1
  ·intro u hSu
   go_simp
   first | done | with_reducible rfl
  try simp only [Act.put, zA, zB, zC]
  refine zT (i := 3) (v := ?_) rfl ?_ hHeld ?_
  rotate_left 1
  ·intro u hSu
   go_simp
   first | done | with_reducible rfl
  try simp only [Act.put, zA, zB, zC]
  refine zT (i := 4) (v := ?_) rfl ?_ hHeld ?_
  rotate_left 1
  ·intro u hSu
   go_simp
   first | done | with_reducible rfl
  try simp only [Act.put, zA, zB, zC]
  refine zT (i := 5) (v := ?_) rfl ?_ hHeld ?_
  rotate_left 1
  ·intro u hSu
   obtain ⟨c0, c1⟩ := row_cells (HF.out.1.keep hSu.out).box
   obtain ⟨a0, a1, a2, a3, a4⟩ := ck_lk (HF.out.1.keep hSu.out) HF.out.2.1
   obtain ⟨b0, b1, b2, b3, b4⟩ := ck_lk (HF.out.1.keep hSu.out) HF.out.2.2
   go_simp
   first | done | with_reducible rfl
  try simp only [Act.put, zA, zB, zC]
  refine zT (i := 6) (v := ?_) rfl ?_ hHeld ?_
  rotate_left 1
  ·intro u hSu
   go_simp
   first | done | with_reducible rfl
  try simp only [Act.put, zA, zB, zC]
  refine zT (i := 7) (v := ?_) rfl ?_ hHeld ?_
  rotate_left 1
  ·intro u hSu
   obtain ⟨c0, c1⟩ := row_cells (HF.out.1.keep hSu.out).box
   obtain ⟨a0, a1, a2, a3, a4⟩ := ck_lk (HF.out.1.keep hSu.out) HF.out.2.1
   obtain ⟨b0, b1, b2, b3, b4⟩ := ck_lk (HF.out.1.keep hSu.out) HF.out.2.2
   go_simp
   first | done | with_reducible rfl
  try simp only [Act.put, zA, zB, zC]
  refine zT (i := 8) (v := ?_) rfl ?_ hHeld ?_
  rotate_left 1
  ·intro u hSu
   go_simp
   first | done | with_reducible rfl
  try simp only [Act.put, zA, zB, zC]
  refine zT (i := 9) (v := ?_) rfl ?_ hHeld ?_
  rotate_left 1
  ·intro u hSu
   go_simp
   first | done | with_reducible rfl
  try simp only [Act.put, zA, zB, zC]
  refine zT (i := 10) (v := ?_) rfl ?_ hHeld ?_
  rotate_left 1
  ·intro u hSu
   obtain ⟨c0, c1⟩ := row_cells (HF.out.1.keep hSu.out).box
   obtain ⟨a0, a1, a2, a3, a4⟩ := ck_lk (HF.out.1.keep hSu.out) HF.out.2.1
   obtain ⟨b0, b1, b2, b3, b4⟩ := ck_lk (HF.out.1.keep hSu.out) HF.out.2.2
   go_simp
   first | done | with_reducible rfl
  try simp only [Act.put, zA, zB, zC]
  refine wpAnyH_ready (rs := [11, 12]) (by kernel_rfl) (by simp) ?_
  refine AllReadyH.cons (o := ⟨_, _, _, _, _, _⟩) rfl (fun K hK => ?_) (AllReadyH.cons (o := ⟨_, _, _, _, _, _⟩) rfl (fun K hK => ?_) AllReadyH.nil)
  ·go_simp
   refine hK.out _ _ (hid_more hHeld (World.grownBy_alloc _ _ _)) (fun hH2 => ?_)
   clear hK K hHeld
   have hHeld := hH2
   clear hH2
   try simp only [Act.put, zA, zB, zC]
   refine wpAnyH_ready (rs := [12]) (by kernel_rfl) (by simp) ?_
   refine AllReadyH.cons (o := ⟨_, _, _, _, _, _⟩) rfl (fun K hK => ?_) AllReadyH.nil
   go_simp
   refine hK.out _ _ (hid_more hHeld (World.grownBy_alloc _ _ _)) (fun hH2 => ?_)
   clear hK K hHeld
   have hHeld := hH2
   clear hH2
   try simp only [Act.put, zA, zB, zC]
   refine wpAnyH_ready (rs := [13]) (by kernel_rfl) (by simp) ?_
   refine AllReadyH.cons (o := ⟨_, _, _, _, _, _⟩) rfl (fun K hK => ?_) AllReadyH.nil
   go_simp
   refine hK.out _ _ (hid_drew (hid_more (hid_more GZ (World.grownBy_alloc _ _ _)) (World.grownBy_alloc _ _ _))) (fun hH2 => ?_)
   clear hK K hHeld
   have hHeld := hH2
   clear hH2
   try simp only [Act.put, zA, zB, zC]
   refine wpAnyH_ready (rs := [14]) (by kernel_rfl) (by simp) ?_
   refine AllReadyH.cons (o := ⟨_, _, _, _, _, _⟩) rfl (fun K hK => ?_) AllReadyH.nil
   go_simp
   refine hK.out _ _ (hid_drew (hid_more (hid_more GZ (World.grownBy_alloc _ _ _)) (World.grownBy_alloc _ _ _))) (fun hH2 => ?_)
   clear hK K hHeld
   have hHeld := hH2
   clear hH2
   try simp only [Act.put, zA, zB, zC]
   refine wpAnyH_done (by kernel_rfl) ?_ _
   obtain ⟨k1, k2, k3, _⟩ := two_boxes wr #[.int .i64 x.a, .int .i64 x.b, .int .i64 x.ca, .int .i64 x.cb, .int .i64 x.cp] #[.int .i64 y.a, .int .i64 y.b, .int .i64 y.ca, .int .i64 y.cb, .int .i64 y.cp] 135 135
   have k4 : (((wr.alloc (.cells #[.int .i64 x.a, .int .i64 x.b, .int .i64 x.ca, .int .i64 x.cb, .int .i64 x.cp] 135)).alloc (.cells #[.int .i64 y.a, .int .i64 y.b, .int .i64 y.ca, .int .i64 y.cb, .int .i64 y.cp] 135)).drew).heap[wr.heap.size]? = some (.cells #[.int .i64 x.a, .int .i64 x.b, .int .i64 x.ca, .int .i64 x.cb, .int .i64 x.cp] 135 (0, 0)) := k1
   have k5 : (((wr.alloc (.cells #[.int .i64 x.a, .int .i64 x.b, .int .i64 x.ca, .int .i64 x.cb, .int .i64 x.cp] 135)).alloc (.cells #[.int .i64 y.a, .int .i64 y.b, .int .i64 y.ca, .int .i64 y.cb, .int .i64 y.cp] 135)).drew).heap[wr.heap.size + 1]? = some (.cells #[.int .i64 y.a, .int .i64 y.b, .int .i64 y.ca, .int .i64 y.cb, .int .i64 y.cp] 135 (0, 0)) := k2
   have HC : Hid (CK w ⟨R, L, pR, cR, some ⟨b, off, none⟩, cL⟩ (((wr.alloc (.cells #[.int .i64 x.a, .int .i64 x.b, .int .i64 x.ca, .int .i64 x.cb, .int .i64 x.cp] 135)).alloc (.cells #[.int .i64 y.a, .int .i64 y.b, .int .i64 y.ca, .int .i64 y.cb, .int .i64 y.cp] 135)).drew)) := Lib.hid (HF.out.1.keep (grown_drew k3))
   obtain ⟨d0, d1, d2, d3, d4⟩ := lk_facts k4
   obtain ⟨e0, e1, e2, e3, e4⟩ := lk_facts k5
   clear k1 k2 k3 k4 k5 hHeld
   generalize ((wr.alloc (.cells #[.int .i64 x.a, .int .i64 x.b, .int .i64 x.ca, .int .i64 x.cb, .int .i64 x.cp] 135)).alloc (.cells #[.int .i64 y.a, .int .i64 y.b, .int .i64 y.ca, .int .i64 y.cb, .int .i64 y.cp] 135)).drew = w9 at *
   rcases HCS.out with ⟨HE, h6⟩ | ⟨HE, h6⟩ | ⟨HE, h6, h7⟩ | ⟨HE, h6, h7⟩
   ·have h8 : ¬ y.a < x.a := by omega
    have h9 : (x.a == y.a) = false := by simpa using (show ¬ x.a = y.a by omega)
    go_wp2_with fail
    exact OK32.out _ HC HE
   ·go_wp2_with fail
    go_ret
    exact ⟨by unfold chk; rw [if_neg hc0.out, F1.out, F2.out, F3.out, F4.out, F5.out, ascL_hit HXY.out.1 HXY.out.2 HE.out]; rfl, HC.out.gr⟩
   ·have h8 : ¬ y.a < x.a := by omega
    have h9 : (x.a == y.a) = true := by simpa using h6
    have h10 : ¬ y.b ≤ x.b := by omega
    clear h6
    go_wp2_with fail
    exact OK32.out _ HC HE
   ·have h8 : ¬ y.a < x.a := by omega
    have h9 : (x.a == y.a) = true := by simpa using h6
    clear h6
    go_wp2_with fail
    go_ret
    exact ⟨by unfold chk; rw [if_neg hc0.out, F1.out, F2.out, F3.out, F4.out, F5.out, ascL_hit HXY.out.1 HXY.out.2 HE.out]; rfl, HC.out.gr⟩
  ·go_simp
   refine hK.out _ _ (hid_more hHeld (World.grownBy_alloc _ _ _)) (fun hH2 => ?_)
   clear hK K hHeld
   have hHeld := hH2
   clear hH2
   try simp only [Act.put, zA, zB, zC]
   refine wpAnyH_ready (rs := [11]) (by kernel_rfl) (by simp) ?_
   refine AllReadyH.cons (o := ⟨_, _, _, _, _, _⟩) rfl (fun K hK => ?_) AllReadyH.nil
   go_simp
   refine hK.out _ _ (hid_more hHeld (World.grownBy_alloc _ _ _)) (fun hH2 => ?_)
   clear hK K hHeld
   have hHeld := hH2
   clear hH2
   try simp only [Act.put, zA, zB, zC]
   refine wpAnyH_ready (rs := [13]) (by kernel_rfl) (by simp) ?_
   refine AllReadyH.cons (o := ⟨_, _, _, _, _, _⟩) rfl (fun K hK => ?_) AllReadyH.nil
   go_simp
   refine hK.out _ _ (hid_drew (hid_more (hid_more GZ (World.grownBy_alloc _ _ _)) (World.grownBy_alloc _ _ _))) (fun hH2 => ?_)
   clear hK K hHeld
   have hHeld := hH2
   clear hH2
   try simp only [Act.put, zA, zB, zC]
   refine wpAnyH_ready (rs := [14]) (by kernel_rfl) (by simp) ?_
   refine AllReadyH.cons (o := ⟨_, _, _, _, _, _⟩) rfl (fun K hK => ?_) AllReadyH.nil
   go_simp
   refine hK.out _ _ (hid_drew (hid_more (hid_more GZ (World.grownBy_alloc _ _ _)) (World.grownBy_alloc _ _ _))) (fun hH2 => ?_)
   clear hK K hHeld
   have hHeld := hH2
   clear hH2
   try simp only [Act.put, zA, zB, zC]
   refine wpAnyH_done (by kernel_rfl) ?_ _
   obtain ⟨k1, k2, k3, _⟩ := two_boxes wr #[.int .i64 y.a, .int .i64 y.b, .int .i64 y.ca, .int .i64 y.cb, .int .i64 y.cp] #[.int .i64 x.a, .int .i64 x.b, .int .i64 x.ca, .int .i64 x.cb, .int .i64 x.cp] 135 135
   have k4 : (((wr.alloc (.cells #[.int .i64 y.a, .int .i64 y.b, .int .i64 y.ca, .int .i64 y.cb, .int .i64 y.cp] 135)).alloc (.cells #[.int .i64 x.a, .int .i64 x.b, .int .i64 x.ca, .int .i64 x.cb, .int .i64 x.cp] 135)).drew).heap[wr.heap.size]? = some (.cells #[.int .i64 y.a, .int .i64 y.b, .int .i64 y.ca, .int .i64 y.cb, .int .i64 y.cp] 135 (0, 0)) := k1
   have k5 : (((wr.alloc (.cells #[.int .i64 y.a, .int .i64 y.b, .int .i64 y.ca, .int .i64 y.cb, .int .i64 y.cp] 135)).alloc (.cells #[.int .i64 x.a, .int .i64 x.b, .int .i64 x.ca, .int .i64 x.cb, .int .i64 x.cp] 135)).drew).heap[wr.heap.size + 1]? = some (.cells #[.int .i64 x.a, .int .i64 x.b, .int .i64 x.ca, .int .i64 x.cb, .int .i64 x.cp] 135 (0, 0)) := k2
   have HC : Hid (CK w ⟨R, L, pR, cR, some ⟨b, off, none⟩, cL⟩ (((wr.alloc (.cells #[.int .i64 y.a, .int .i64 y.b, .int .i64 y.ca, .int .i64 y.cb, .int .i64 y.cp] 135)).alloc (.cells #[.int .i64 x.a, .int .i64 x.b, .int .i64 x.ca, .int .i64 x.cb, .int .i64 x.cp] 135)).drew)) := Lib.hid (HF.out.1.keep (grown_drew k3))
   obtain ⟨d0, d1, d2, d3, d4⟩ := lk_facts k4
   obtain ⟨e0, e1, e2, e3, e4⟩ := lk_facts k5
   clear k1 k2 k3 k4 k5 hHeld
   generalize ((wr.alloc (.cells #[.int .i64 y.a, .int .i64 y.b, .int .i64 y.ca, .int .i64 y.cb, .int .i64 y.cp] 135)).alloc (.cells #[.int .i64 x.a, .int .i64 x.b, .int .i64 x.ca, .int .i64 x.cb, .int .i64 x.cp] 135)).drew = w9 at *
   rcases HCS.out with ⟨HE, h6⟩ | ⟨HE, h6⟩ | ⟨HE, h6, h7⟩ | ⟨HE, h6, h7⟩
   ·have h8 : ¬ y.a < x.a := by omega
    have h9 : (x.a == y.a) = false := by simpa using (show ¬ x.a = y.a by omega)
    go_wp2_with fail
    exact OK32.out _ HC HE
   ·go_wp2_with fail
    go_ret
    exact ⟨by unfold chk; rw [if_neg hc0.out, F1.out, F2.out, F3.out, F4.out, F5.out, ascL_hit HXY.out.1 HXY.out.2 HE.out]; rfl, HC.out.gr⟩
   ·have h8 : ¬ y.a < x.a := by omega
    have h9 : (x.a == y.a) = true := by simpa using h6
    have h10 : ¬ y.b ≤ x.b := by omega
    clear h6
    go_wp2_with fail
    exact OK32.out _ HC HE
   ·have h8 : ¬ y.a < x.a := by omega
    have h9 : (x.a == y.a) = true := by simpa using h6
    clear h6
    go_wp2_with fail
    go_ret
    exact ⟨by unfold chk; rw [if_neg hc0.out, F1.out, F2.out, F3.out, F4.out, F5.out, ascL_hit HXY.out.1 HXY.out.2 HE.out]; rfl, HC.out.gr⟩
 have F6 : Hid (ascB ltL L = true) := Lib.hid (ascL_end fun i x y hi hx hy => HN.out i x y (by omega) hx hy)
 clear HN
 have hltz : ¬ (k : Int) < (L.length : Int) := by omega
 go_wp2_with fail
 go_ret
 exact ⟨by unfold chk; rw [if_neg hc0.out, F1.out, F2.out, F3.out, F4.out, F5.out, F6.out]; rfl, C.out.gr⟩
end Go.Proofs.YtpogblengagpaaaGreatDoor

/- topology: the closures of Without; what memory holds while it runs. -/
namespace Go.Proofs.YtpogblengagpaaaGreatDoor
set_option maxRecDepth 100000
open Go.RowKit Bs
theorem RdF.old {w : World} {q : Nat → Prop} {v : Value} {n : Nat} {xs : List Value} (h : RdF w q v n xs) : RdF w (· < w.heap.size) v n xs := by
 obtain ⟨p, c, hv, hc⟩ := h
 refine ⟨p, c, hv, fun hne => ?_⟩
 obtain ⟨b, off, hp, hb, hx⟩ := hc hne
 obtain ⟨x, hx0⟩ : ∃ x, xs[0]? = some x := by
  cases xs with
  | nil => exact absurd rfl hne
  | cons a t => exact ⟨a, rfl⟩
 exact ⟨b, off, hp, World.block_lt_of_cell? w ⟨b, off + 0, none⟩ (hx 0 x hx0), hx⟩
theorem Rd.old {w : World} {q : Nat → Prop} {v : Value} {xs : List Value} (h : Rd w q v xs) : Rd w (· < w.heap.size) v xs := by
 obtain ⟨p, c, hv, hc⟩ := h
 refine ⟨p, c, hv, fun hne => ?_⟩
 obtain ⟨b, off, hp, hb, hx⟩ := hc hne
 obtain ⟨x, hx0⟩ : ∃ x, xs[0]? = some x := by
  cases xs with
  | nil => exact absurd rfl hne
  | cons a t => exact ⟨a, rfl⟩
 exact ⟨b, off, hp, World.block_lt_of_cell? w ⟨b, off + 0, none⟩ (hx 0 x hx0), hx⟩
theorem TgOk.old {w : World} {q : Nat → Prop} {T : Tg} (h : TgOk w q T) : TgOk w (· < w.heap.size) T := ⟨h.r.old, h.l.old, h.cr, h.cl⟩
theorem okT_len {R : List Rt} {L : List Lk} (h : okT R L = true) : R.length ≤ 24 ∧ L.length ≤ 60 := by
 unfold okT chk at h
 by_cases h1 : 24 < R.length ∨ 60 < L.length
 ·rw [if_pos h1] at h; cases h
 ·omega
theorem filter_snoc {α : Type} {f : α → Bool} {l : List α} {k : Nat} {x : α} (h : l[k]? = some x) : (l.take (k + 1)).filter f = (l.take k).filter f ++ (if f x then [x] else []) := by
 rw [List.take_add_one, h, List.filter_append]
 cases hf : f x <;> simp [hf]
theorem info_rt : (Tryz.prog.info? 105).map (fun i => (i.zero, i.size, i.bytes)) = some (some (.agg #[.int .i64 0, .bool false]), 2, 16) := by kernel_rfl
theorem info_lk : (Tryz.prog.info? 135).map (fun i => (i.zero, i.size, i.bytes)) = some (some (.agg #[.int .i64 0, .int .i64 0, .int .i64 0, .int .i64 0, .int .i64 0]), 5, 40) := by kernel_rfl
end Go.Proofs.YtpogblengagpaaaGreatDoor

/- topology: Without. -/
namespace Go.Proofs.YtpogblengagpaaaGreatDoor
set_option maxRecDepth 100000
open Go.RowKit Bs
theorem grown_any {w w1 w2 : World} {r : Option Nat} (h : w.grownBy w1 none) (k : w1.grownBy w2 r) (hr : ∀ b, b < w.heap.size → some b ≠ r) : w.grownBy w2 none :=
 ⟨k.os.trans h.os, k.tape.trans h.tape, k.output.trans h.output, Nat.le_trans h.size k.size, fun b hb _ => (k.block b (Nat.lt_of_lt_of_le hb h.size) (hr b hb)).trans (h.block b hb (by simp))⟩
theorem rdf_of_own2 {w : World} {base size : Nat} {e : TypeId} {v : Value} {n : Nat} {xs : List Value} (h : w.ownsRow base e size v n xs) : RdF w (fun b => base ≤ b ∧ b < w.heap.size) v n xs := by
 obtain ⟨p, c, hv, hc⟩ := rdf_of_own h
 refine ⟨p, c, hv, fun hne => ?_⟩
 obtain ⟨b, off, hp, hb, hx⟩ := hc hne
 obtain ⟨x, hx0⟩ : ∃ x, xs[0]? = some x := by
  cases xs with
  | nil => exact absurd rfl hne
  | cons a t => exact ⟨a, rfl⟩
 exact ⟨b, off, hp, ⟨hb, World.block_lt_of_cell? w ⟨b, off + 0, none⟩ (hx 0 x hx0)⟩, hx⟩
theorem topo_size : (Tryz.prog.info? 68).map (·.size) = some 2 := by kernel_rfl
theorem res_topo {fn : Func} {p : Tmp} (h : fn.results = #[.cell p 68]) (tmps : Array Value) (w : World) (g : Nat) (x y : Value) (hp : tmps.getD p undef = .pointer (some ⟨g, 0, none⟩)) (hg : w.heap[g]? = some (.cells #[x, y] 68 (0, 0))) :
  (results fn tmps).run Tryz.prog w = .ok (.agg #[x, y]) w :=
 results_cell_row h tmps w g _ _ _ _ hp hg Tryz.underlying68 rfl topo_size
theorem own_shape {w : World} {base size n : Nat} {e : TypeId} {v : Value} {xs : List Value} (h : w.ownsRow base e size v n xs) : ∃ p c, v = .slice p n c ∧ n ≤ c ∧ c ≤ 9223372036854775807 := by
 rcases h.2 with ⟨rfl, h0⟩ | ⟨g, cap, cur, rfl, _, _, hn, hm, _⟩
 ·subst h0
  exact ⟨none, 0, rfl, Nat.le_refl _, by omega⟩
 ·unfold maxLen at hm
  exact ⟨_, cap, rfl, hn, by omega⟩
theorem cells2 (w : World) (x y : Value) (t : TypeId) : ∀ j u, [x, y][j]? = some u → (w.alloc (.cells #[x, y] t)).cell? ((⟨w.heap.size, 0, none⟩ : Addr).add j) = some u := by
 intro j u hj
 have hb : (w.alloc (.cells #[x, y] t)).heap[w.heap.size]? = some (.cells #[x, y] t (0, 0)) := heap_alloc_new w _
 have hadd : (⟨w.heap.size, 0, none⟩ : Addr).add j = ⟨w.heap.size, j, none⟩ := by rw [add_plain, Nat.zero_add]
 rw [hadd, cell_of_row _ _ _ _ _ _ hb]
 simpa using hj
theorem cells5 (w : World) (a b c d e : Value) (t : TypeId) : ∀ j u, [a, b, c, d, e][j]? = some u → (w.alloc (.cells #[a, b, c, d, e] t)).cell? ((⟨w.heap.size, 0, none⟩ : Addr).add j) = some u := by
 intro j u hj
 have hb : (w.alloc (.cells #[a, b, c, d, e] t)).heap[w.heap.size]? = some (.cells #[a, b, c, d, e] t (0, 0)) := heap_alloc_new w _
 have hadd : (⟨w.heap.size, 0, none⟩ : Addr).add j = ⟨w.heap.size, j, none⟩ := by rw [add_plain, Nat.zero_add]
 rw [hadd, cell_of_row _ _ _ _ _ _ hb]
 simpa using hj
end Go.Proofs.YtpogblengagpaaaGreatDoor

/- empty -/
namespace Go.Proofs.YtpogblengagpaaaGreatDoor
set_option maxRecDepth 100000
end Go.Proofs.YtpogblengagpaaaGreatDoor

/- identify: claims and plans, the mathematics. -/
namespace Go.Proofs.YtpogblengagpaaaGreatDoor
set_option maxRecDepth 100000
open Go.RowKit Bs
def inV (n a b : Int) : Bool := decide (a ≤ n ∧ n ≤ b)
theorem any_mem {α : Type} {p : α → Bool} {l : List α} (h : l.any p = false) {x : α} (hx : x ∈ l) : p x = false := by
 cases hp : p x
 ·rfl
 ·rw [List.any_eq_true.2 ⟨x, hx, hp⟩] at h; cases h
structure Ed where
 r : Int
 i : Int
def edC (e : Ed) : List Value := [.int .i64 e.r, .int .i64 e.i]
theorem ed_one (x : Ed) : ∀ u ∈ edC x, u.oneCell' = true := by
 intro u hu
 simp [edC] at hu
 rcases hu with rfl | rfl <;> rfl
def wrE (e : Ed) : Bool := !(inV e.r 1 99 && inV e.i 1 256)
def ltE (x y : Ed) : Bool := decide (x.i < y.i)
def repI (r : List Int) : Bool := (List.range r.length).any fun i => (r.take i).contains (r.getD i 0)
def vPl (sub len : Int) (E : List Ed) : Bool :=
 inV sub 0 7 && (vl len || (decide (len = 0) && decide (E.length = 0))) && decide (E.length ≤ 24) && !E.any wrE && ascB ltE E && !repI (E.map Ed.r)
theorem pair_ascE : ∀ E : List Ed, E.Pairwise (fun x y => x.i < y.i) → ascB ltE E = true
 | [], _ => rfl
 | [a], _ => rfl
 | a :: b :: t, h => by
  have h1 := List.pairwise_cons.1 h
  rw [ascB, pair_ascE (b :: t) h1.2, Bool.and_true]
  exact decide_eq_true (h1.1 b (List.mem_cons_self ..))
end Go.Proofs.YtpogblengagpaaaGreatDoor

/- Rows of structs: parts of them, and append. -/
namespace Go.Proofs.YtpogblengagpaaaGreatDoor
set_option maxRecDepth 100000
open Go.RowKit Bs
theorem hold_on {p : Prop} (h : Hid p) : p := h.out
theorem flat_drop {α : Type} (f : α → List Value) (k : Nat) (hf : ∀ x, (f x).length = k) : ∀ (l : List α) (j : Nat), (l.drop j).flatMap f = (l.flatMap f).drop (j * k)
 | [], j => by simp
 | a :: t, 0 => by simp
 | a :: t, j + 1 => by
  rw [List.drop_succ_cons, flat_drop f k hf t j, List.flatMap_cons, Nat.add_mul, Nat.one_mul, Nat.add_comm, ← List.drop_drop, List.drop_append_of_le_length (by rw [hf]; exact Nat.le_refl _), ← hf a, List.drop_length, List.nil_append]
theorem flat_take {α : Type} (f : α → List Value) (k : Nat) (hf : ∀ x, (f x).length = k) : ∀ (l : List α) (j : Nat), (l.take j).flatMap f = (l.flatMap f).take (j * k)
 | [], j => by simp
 | a :: t, 0 => by simp
 | a :: t, j + 1 => by
  rw [List.take_succ_cons, List.flatMap_cons, flat_take f k hf t j, List.flatMap_cons, List.take_append, hf, List.take_of_length_le (l := f a) (by rw [hf, Nat.add_mul]; omega), Nat.add_mul, Nat.one_mul, Nat.add_sub_cancel]
theorem RdF.part {α : Type} {f : α → List Value} {k : Nat} (hf : ∀ x, (f x).length = k) {w : World} {q : Nat → Prop} {p : Option Addr} {c : Nat} {l : List α} (h : RdF w q (.slice p l.length c) l.length (l.flatMap f)) (j : Nat) (hj : j ≤ l.length) (c' : Nat) :
  RdF w q (.slice p j c') (l.take j).length ((l.take j).flatMap f) := by
 obtain ⟨p1, c1, e1, hx⟩ := h
 injection e1 with a1 a2 a3
 subst a1
 have hlen : (l.take j).length = j := by rw [List.length_take]; omega
 rw [hlen]
 refine ⟨p, c', rfl, fun hne => ?_⟩
 rw [flat_take f k hf] at hne ⊢
 obtain ⟨b, off, hp, hq, hc⟩ := hx (by intro e; rw [e] at hne; simp at hne)
 refine ⟨b, off, hp, hq, fun i x hi => hc i x ?_⟩
 rw [List.getElem?_take] at hi
 split at hi
 ·exact hi
 ·cases hi
theorem RdF.rest {α : Type} {f : α → List Value} {k : Nat} (hf : ∀ x, (f x).length = k) {w : World} {q : Nat → Prop} {b off c : Nat} {l : List α} (h : RdF w q (.slice (some ⟨b, off, none⟩) l.length c) l.length (l.flatMap f)) (j : Nat) (c' : Nat) :
  RdF w q (.slice (some ⟨b, off + j * k, none⟩) (l.length - j) c') (l.drop j).length ((l.drop j).flatMap f) := by
 obtain ⟨p1, c1, e1, hx⟩ := h
 injection e1 with a1 a2 a3
 subst a1
 have hlen : (l.drop j).length = l.length - j := by rw [List.length_drop]
 rw [hlen]
 refine ⟨_, c', rfl, fun hne => ?_⟩
 rw [flat_drop f k hf] at hne ⊢
 obtain ⟨b1, off1, hp, hq, hc⟩ := hx (by intro e; rw [e] at hne; simp at hne)
 injection hp with hp
 injection hp with hb ho
 subst hb
 subst ho
 refine ⟨b, off + j * k, rfl, hq, fun i x hi => ?_⟩
 rw [List.getElem?_drop] at hi
 rw [Nat.add_assoc]
 exact hc _ x hi
theorem rdf_news {w : World} {q : Nat → Prop} {ad : Addr} {n c m : Nat} {xs : List Value} (hR : RdF w q (.slice (some ad) n c) m xs) : ∀ j u, xs[j]? = some u → w.cell? (ad.add j) = some u := by
 intro j u hj
 obtain ⟨p1, c1, e1, hx⟩ := hR
 injection e1 with a1 a2 a3
 subst a1
 obtain ⟨b, off, hp, hq, hc⟩ := hx (by intro e; rw [e] at hj; simp at hj)
 injection hp with hp
 subst hp
 rw [add_plain]
 exact hc j u hj
theorem rdf_one {w : World} {b off n : Nat} {xs : List Value} (q : Nat → Prop) (hq : q b) (h : ∀ j u, xs[j]? = some u → w.cell? ((⟨b, off, none⟩ : Addr).add j) = some u) (c : Nat) : RdF w q (.slice (some ⟨b, off, none⟩) n c) n xs :=
 ⟨_, c, rfl, fun _ => ⟨b, off, rfl, hq, fun i x hi => by have := h i x hi; rw [add_plain] at this; exact this⟩⟩
theorem wpList_append_f {α : Type} (f : α → List Value) (size bytes : Nat) (hsz : 0 < size) (hf : ∀ x, (f x).length = size) (hone : ∀ x, ∀ u ∈ f x, u.oneCell' = true) (e t : TypeId) (i : TypeInfo) (z : Value)
  (ht : Tryz.prog.underlying t = some (.slice e)) (hi : Tryz.prog.info? e = some i) (hz : i.zero = some z) (hsize : i.size = size) (hby : i.bytes = bytes) (hzs : z.cells.size = size) (hb40 : bytes ≤ 1000)
  {w : World} {ops : Array Oper} {rest : List Oper} {o : Oper} {a : Act} {Q : Exit → Act → World → Prop} (hgd : o.guard = none) (s x : Operand)
  (ho : o.op = .call { callee := .builtin .append, args := #[s, x], argTypes := #[t, t] }) (base : Nat) (v : Value) (l : List α) (n : Nat) (hn : n = l.length) (hs : a.eval s = v) (hown : w.ownsRow base e size v n (l.flatMap f))
  (p : Option Addr) (k c : Nat) (r : List α) (hx : a.eval x = .slice p k c) (hk : k = r.length) (hn0 : p = none → c = 0) (q : Nat → Prop) (hR : RdF w q (.slice p k c) r.length (r.flatMap f)) (hkc : k ≤ c) (h63 : n + r.length ≤ 100000) (hbase : base ≤ w.heap.size)
  (h : ∀ v' w', w'.ownsRow base e size v' (l ++ r).length ((l ++ r).flatMap f) → w.grownBy w' v.ownBlock → wpList Tryz.prog ops Q rest (a.put o.dst v') w') : wpList Tryz.prog ops Q (o :: rest) a w := by
 subst hn
 cases p with
 | none =>
  obtain rfl := hn0 rfl
  have hr : r.length = 0 := by omega
  obtain rfl := List.eq_nil_of_length_eq_zero hr
  obtain rfl : k = 0 := hk
  refine wpList_append_own_none hgd s x t ho base e i size ht hi v l.length (l.flatMap f) hs hown hx ?_
  refine h v w ?_ (grown_refl _ _)
  rw [List.append_nil]; exact hown
 | some ad =>
  have hb2 : (l.length + k) * bytes ≤ 140737488355328 := Nat.le_trans (Nat.mul_le_mul (show l.length + k ≤ 100000 by omega) hb40) (by decide)
  refine wpList_append_own w hgd s x t ho base e i z size bytes ht hi hz hsize hby hzs hsz v l.length (l.flatMap f) hs hown ad k c (r.flatMap f) hx (by rw [flat_len f size hf, hk]) (rdf_news hR) ?_ (by unfold maxLen; omega) hb2 hbase ?_
  ·intro u hu
   obtain ⟨y, _, hy⟩ := List.mem_flatMap.1 hu
   exact hone y u hy
  ·intro v' w' h1 h2 _
   refine h v' w' ?_ h2
   rw [List.length_append, List.flatMap_append, ← hk]; exact h1
theorem own_apartF {w w1 : World} {base base2 size size2 : Nat} {e e2 : TypeId} {v v2 : Value} {n m : Nat} {xs ys : List Value} (h : w.ownsRow base e size v n xs) (hv : w.ownsRow base2 e2 size2 v2 m ys) (hg : ∀ g, v.ownBlock = some g → g < base2) (k : w.grownBy w1 v2.ownBlock) : w1.ownsRow base e size v n xs := by
 refine h.kept k ?_
 cases hb : v.ownBlock with
 | none => exact .inl rfl
 | some g =>
  refine .inr fun e => ?_
  have := (hv.lt g e.symm).1
  have := hg g hb
  omega
theorem old_grow {w w1 : World} {base2 size2 : Nat} {e2 : TypeId} {v2 : Value} {m : Nat} {ys : List Value} {W : World} (g : W.grownBy w none) (hv : w.ownsRow base2 e2 size2 v2 m ys) (hb : W.heap.size ≤ base2) (k : w.grownBy w1 v2.ownBlock) : W.grownBy w1 none :=
 grown_any g k (fun b hlt e => by have := (hv.lt b e.symm).1; omega)
theorem lk_one (x : Lk) : ∀ u ∈ lkC x, u.oneCell' = true := by
 intro u hu
 simp [lkC] at hu
 rcases hu with rfl | rfl | rfl | rfl | rfl <;> rfl
end Go.Proofs.YtpogblengagpaaaGreatDoor

/- identify: arrays by value, count. -/
namespace Go.Proofs.YtpogblengagpaaaGreatDoor
set_option maxRecDepth 100000
open Go.RowKit Bs
theorem ed_cells {w : World} {q : Nat → Prop} {p : Option Addr} {n c : Nat} {l : List Ed} (h : RdF w q (.slice p n c) l.length (l.flatMap edC)) (hn : 0 < l.length) :
  n = l.length ∧ ∃ b off, p = some ⟨b, off, none⟩ ∧ q b ∧ ∀ i x, l[i]? = some x → w.cell? ⟨b, off + i * 2, none⟩ = some (.int .i64 x.r) ∧ w.cell? ⟨b, off + i * 2 + 1, none⟩ = some (.int .i64 x.i) := by
 obtain ⟨h0, b, off, hp, hq, hc⟩ := RdF.cells (f := edC) (k := 2) (fun _ => rfl) (by decide) h hn
 exact ⟨h0, b, off, hp, hq, fun i x hi => ⟨hc i x hi 0 _ rfl, hc i x hi 1 _ rfl⟩⟩
end Go.Proofs.YtpogblengagpaaaGreatDoor

/- identify: the leaves, of the program and of the reference. -/
namespace Go.Proofs.YtpogblengagpaaaGreatDoor
set_option maxRecDepth 100000
open Go.RowKit Bs
theorem ivi_lit (n : Int) (b : Bool) (h : inV n 1 256 = b) (w : World) :
  Calls Tryz.prog 125 #[.int .i64 n] w fun e w' => e = .returned (.bool b) ∧ w = w' := by
 subst h
 unfold inV
 go_enter Tryz.func125, Tryz.ntmps125
 by_cases h1 : (1 : Int) ≤ n
 ·by_cases h2 : n ≤ (256 : Int)
  ·rw [decide_eq_true (show 1 ≤ n ∧ n ≤ 256 from ⟨h1, h2⟩)]
   go_wp2_with fail
   go_ret
   exact ⟨rfl, rfl⟩
  ·rw [decide_eq_false (show ¬ (1 ≤ n ∧ n ≤ 256) from fun h => h2 h.2)]
   go_wp2_with fail
   go_ret
   exact ⟨rfl, rfl⟩
 ·rw [decide_eq_false (show ¬ (1 ≤ n ∧ n ≤ 256) from fun h => h1 h.1)]
  go_wp2_with fail
  go_ret
  exact ⟨rfl, rfl⟩
theorem rin10_lit (n lo hi : Int) (b : Bool) (h : inV n lo hi = b) (w : World) :
  Calls Tryz.prog 86 #[.int .i64 n, .int .i64 lo, .int .i64 hi] w fun e w' => e = .returned (.bool b) ∧ w = w' := by
 subst h
 unfold inV
 go_enter Tryz.func86, Tryz.ntmps86
 by_cases h1 : lo ≤ n
 ·by_cases h2 : n ≤ hi
  ·rw [decide_eq_true (show lo ≤ n ∧ n ≤ hi from ⟨h1, h2⟩)]
   go_wp2_with fail
   go_ret
   exact ⟨rfl, rfl⟩
  ·rw [decide_eq_false (show ¬ (lo ≤ n ∧ n ≤ hi) from fun h => h2 h.2)]
   go_wp2_with fail
   go_ret
   exact ⟨rfl, rfl⟩
 ·rw [decide_eq_false (show ¬ (lo ≤ n ∧ n ≤ hi) from fun h => h1 h.1)]
  go_wp2_with fail
  go_ret
  exact ⟨rfl, rfl⟩
theorem vlp_lit (n : Int) (b : Bool) (h : vl n = b) (w : World) :
  Calls Tryz.prog 111 #[.int .i64 n] w fun e w' => e = .returned (.bool b) ∧ w = w' := by
 rw [← h]; exact vlp_any n w
theorem vlr10_lit (n : Int) (b : Bool) (h : vl n = b) (w : World) :
  Calls Tryz.prog 72 #[.int .i64 n] w fun e w' => e = .returned (.bool b) ∧ w = w' := by
 rw [← h]; exact vlr_any n w
end Go.Proofs.YtpogblengagpaaaGreatDoor

/- Parts of the proof, packed: TaSk, TaChk, MaMap, MaM. -/
import Derived.Test.YtpogblengagpaaaDoorSi5
import Derived.Test.YtpogblengagpaaaDoorSi2
import Derived.Test.YtpogblengagpaaaDoorSi1
import Derived.Maps.OwnSet
import Derived.Maps.OwnOps
import Derived.Lib.SlKeysI
/- table: ContainsFunc, Contains, ascending at rows and at numbers. -/
namespace Go.Proofs.YtpogblengagpaaaDoor
set_option maxRecDepth 100000
open Go.RowKit Bs
theorem tdis1_any (x : Int) (w : World) : Calls Tryd.prog 76 #[.int .i64 x] w fun e w' => e = .returned (.int .i64 x) ∧ w = w' := by
 go_enter Tryd.func76, Tryd.ntmps76
 go_wp2_with fail
 go_ret
 exact ⟨rfl, rfl⟩
theorem trid_any (x : Rw) (w : World) : Calls Tryd.prog 59 #[.agg #[.int .i64 x.id, .slice x.p x.nx.length x.c]] w fun e w' => e = .returned (.int .i64 x.id) ∧ w.grownBy w' none := by
 obtain ⟨k1, k2⟩ := tone_box w #[.int .i64 x.id, .slice x.p x.nx.length x.c] 70
 have HB := Lib.hid (And.intro k1 k2)
 clear k1 k2
 go_enter Tryd.func59, Tryd.ntmps59
 go_upto_region 1 with fail
 generalize w.alloc _ = w1 at *
 have c0 : w1.cell? ⟨w.heap.size, 0, none⟩ = some (.int .i64 x.id) := cell_of_row _ _ _ _ _ _ HB.out.1
 go_wp2_with fail
 go_ret
 exact ⟨rfl, HB.out.2⟩
theorem keepTW {wr w' : World} {b i j : Nat} {x y : Rw} (h : wr.cell? ⟨b, i, none⟩ = some (.int .i64 x.id) ∧ wr.cell? ⟨b, i + 1, none⟩ = some (.slice x.p x.nx.length x.c) ∧ wr.cell? ⟨b, j, none⟩ = some (.int .i64 y.id) ∧ wr.cell? ⟨b, j + 1, none⟩ = some (.slice y.p y.nx.length y.c)) (hg : Hid (wr.grownBy w' none)) : w'.cell? ⟨b, i, none⟩ = some (.int .i64 x.id) ∧ w'.cell? ⟨b, i + 1, none⟩ = some (.slice x.p x.nx.length x.c) ∧ w'.cell? ⟨b, j, none⟩ = some (.int .i64 y.id) ∧ w'.cell? ⟨b, j + 1, none⟩ = some (.slice y.p y.nx.length y.c) ∧ Hid (wr.grownBy w' none) := by
 obtain ⟨h0, h1, h2, h3⟩ := h
 exact ⟨hg.out.cell h0 (by simp), hg.out.cell h1 (by simp), hg.out.cell h2 (by simp), hg.out.cell h3 (by simp), hg⟩
set_option maxHeartbeats 1600000 in
theorem tidxI_any (g : Nat) (lb : Array Value) (P : Int → Bool) (eg : EnterF g) (R : List Int) (p : Option Addr) (c : Nat) (q : Nat → Prop) (w : World) (hR : Rd w q (.slice p R.length c) (R.map tv)) (hm : R.length ≤ 9223372036854775807)
  (hP : ∀ (r : Int) (w' : World), w.grownBy w' none → Calls Tryd.prog g (#[.int .i64 r] ++ lb) w' fun e w2 => e = .returned (.bool (P r)) ∧ w'.grownBy w2 none) :
  Calls Tryd.prog 84 #[.slice p R.length c, .func (.func g) #[] lb] w fun e w' => ∃ i : Int, e = .returned (.int .i64 i) ∧ decide (0 ≤ i) = R.any P ∧ w.grownBy w' none := by
 have HR := Lib.hid hR
 have HP := Lib.hid hP
 clear hR hP
 go_enter Tryd.func84, Tryd.ntmps84
 go_wp2_with fail
 go_loopw [8] (fun a wr => ∃ k : Nat, k ≤ R.length ∧ a = .int .i64 (k : Int) ∧ Hid (w.grownBy wr none) ∧ Hid ((R.take k).any P = false)) (fun a _ => R.length - (RowKit.intOf a).toNat)
 case atStart => exact ⟨0, Nat.zero_le _, rfl, Lib.hid (grown_refl _ _), Lib.hid rfl⟩
 case round =>
  obtain ⟨k, hk, rfl, G, HN⟩ := hrel
  by_cases hlt : k < R.length
  ·obtain ⟨x, hx⟩ : ∃ x, R[k]? = some x := ⟨_, List.getElem?_eq_getElem hlt⟩
   obtain ⟨-, b, off, rfl, hq, hc⟩ := tvT_at (HR.out.keep G.out) hx
   have a0 := hc k x hx
   have HX := Lib.hid hx
   clear hc hx
   have hcall := HP.out x wr G.out
   cases hp : P x
   ·rw [hp] at hcall
    have HY := Lib.hid hp
    clear hp
    go_wp2_with (go_at_fn g; refine hcall.mono ?_; rintro e w' ⟨rfl, hg⟩; have HG := Lib.hid (grown_trans G.out hg); clear hg)
    exact ⟨⟨k + 1, by omega, congrArg _ (by omega), HG, Lib.hid (any_take HN.out HX.out HY.out)⟩, by simp only [RowKit.intOf]; omega⟩
   ·rw [hp] at hcall
    have HY := Lib.hid hp
    clear hp
    go_wp2_with (go_at_fn g; refine hcall.mono ?_; rintro e w' ⟨rfl, hg⟩; have HG := Lib.hid (grown_trans G.out hg); clear hg)
    go_ret
    refine ⟨_, rfl, ?_, HG.out⟩
    rw [any_at HX.out HY.out, decide_eq_true_eq]; omega
  ·obtain rfl : k = R.length := by omega
   go_wp2_with fail
   go_ret
   refine ⟨_, rfl, ?_, G.out⟩
   rw [any_end HN.out (Nat.le_refl _)]; decide
set_option maxHeartbeats 1600000 in
theorem tcontI_any (g : Nat) (lb : Array Value) (P : Int → Bool) (eg : EnterF g) (R : List Int) (p : Option Addr) (c : Nat) (q : Nat → Prop) (w : World) (hR : Rd w q (.slice p R.length c) (R.map tv)) (hm : R.length ≤ 9223372036854775807)
  (hP : ∀ (r : Int) (w' : World), w.grownBy w' none → Calls Tryd.prog g (#[.int .i64 r] ++ lb) w' fun e w2 => e = .returned (.bool (P r)) ∧ w'.grownBy w2 none) :
  Calls Tryd.prog 73 #[.slice p R.length c, .func (.func g) #[] lb] w fun e w' => e = .returned (.bool (R.any P)) ∧ w.grownBy w' none := by
 have HR := Lib.hid hR
 have HP := Lib.hid hP
 clear hR hP
 go_enter Tryd.func73, Tryd.ntmps73
 go_wp2_with (go_at_call 84; refine (tidxI_any g lb P eg R p c q w HR.out hm HP.out).mono ?_; rintro e w' ⟨i, rfl, hi, hg⟩; have HI := Lib.hid (And.intro hi hg); clear hi hg)
 go_ret
 rw [← HI.out.1]
 exact ⟨rfl, HI.out.2⟩
set_option maxHeartbeats 1600000 in
theorem tidxW_any (g : Nat) (lb : Array Value) (P : Rw → Bool) (eg : EnterF g) (R : List Rw) (p : Option Addr) (c : Nat) (q : Nat → Prop) (w : World) (hR : RdF w q (.slice p R.length c) R.length (R.flatMap rwC)) (hm : R.length ≤ 9223372036854775807)
  (hP : ∀ (r : Rw) (w' : World), r ∈ R → w.grownBy w' none → Calls Tryd.prog g (#[.agg #[.int .i64 r.id, .slice r.p r.nx.length r.c]] ++ lb) w' fun e w2 => e = .returned (.bool (P r)) ∧ w'.grownBy w2 none) :
  Calls Tryd.prog 72 #[.slice p R.length c, .func (.func g) #[] lb] w fun e w' => ∃ i : Int, e = .returned (.int .i64 i) ∧ decide (0 ≤ i) = R.any P ∧ w.grownBy w' none := by
 have HR := Lib.hid hR
 have HP := Lib.hid hP
 clear hR hP
 go_enter Tryd.func72, Tryd.ntmps72
 go_wp2_with fail
 go_loopw [8] (fun a wr => ∃ k : Nat, k ≤ R.length ∧ a = .int .i64 (k : Int) ∧ Hid (w.grownBy wr none) ∧ Hid ((R.take k).any P = false)) (fun a _ => R.length - (RowKit.intOf a).toNat)
 case atStart => exact ⟨0, Nat.zero_le _, rfl, Lib.hid (grown_refl _ _), Lib.hid rfl⟩
 case round =>
  obtain ⟨k, hk, rfl, G, HN⟩ := hrel
  by_cases hlt : k < R.length
  ·obtain ⟨x, hx⟩ : ∃ x, R[k]? = some x := ⟨_, List.getElem?_eq_getElem hlt⟩
   obtain ⟨-, b, off, rfl, hq, hc⟩ := rw_cells (HR.out.keep G.out) (by omega)
   obtain ⟨a0, a1⟩ := hc k x hx
   have HX := Lib.hid hx
   clear hc hx
   have hcall := HP.out x wr (List.mem_of_getElem? HX.out) G.out
   cases hp : P x
   ·rw [hp] at hcall
    have HY := Lib.hid hp
    clear hp
    go_wp2_with (go_at_fn g; refine hcall.mono ?_; rintro e w' ⟨rfl, hg⟩; have HG := Lib.hid (grown_trans G.out hg); clear hg)
    exact ⟨⟨k + 1, by omega, congrArg _ (by omega), HG, Lib.hid (any_take HN.out HX.out HY.out)⟩, by simp only [RowKit.intOf]; omega⟩
   ·rw [hp] at hcall
    have HY := Lib.hid hp
    clear hp
    go_wp2_with (go_at_fn g; refine hcall.mono ?_; rintro e w' ⟨rfl, hg⟩; have HG := Lib.hid (grown_trans G.out hg); clear hg)
    go_ret
    refine ⟨_, rfl, ?_, HG.out⟩
    rw [any_at HX.out HY.out, decide_eq_true_eq]; omega
  ·obtain rfl : k = R.length := by omega
   go_wp2_with fail
   go_ret
   refine ⟨_, rfl, ?_, G.out⟩
   rw [any_end HN.out (Nat.le_refl _)]; decide
set_option maxHeartbeats 1600000 in
theorem tcontW_any (g : Nat) (lb : Array Value) (P : Rw → Bool) (eg : EnterF g) (R : List Rw) (p : Option Addr) (c : Nat) (q : Nat → Prop) (w : World) (hR : RdF w q (.slice p R.length c) R.length (R.flatMap rwC)) (hm : R.length ≤ 9223372036854775807)
  (hP : ∀ (r : Rw) (w' : World), r ∈ R → w.grownBy w' none → Calls Tryd.prog g (#[.agg #[.int .i64 r.id, .slice r.p r.nx.length r.c]] ++ lb) w' fun e w2 => e = .returned (.bool (P r)) ∧ w'.grownBy w2 none) :
  Calls Tryd.prog 55 #[.slice p R.length c, .func (.func g) #[] lb] w fun e w' => e = .returned (.bool (R.any P)) ∧ w.grownBy w' none := by
 have HR := Lib.hid hR
 have HP := Lib.hid hP
 clear hR hP
 go_enter Tryd.func55, Tryd.ntmps55
 go_wp2_with (go_at_call 72; refine (tidxW_any g lb P eg R p c q w HR.out hm HP.out).mono ?_; rintro e w' ⟨i, rfl, hi, hg⟩; have HI := Lib.hid (And.intro hi hg); clear hi hg)
 go_ret
 rw [← HI.out.1]
 exact ⟨rfl, HI.out.2⟩
theorem ascJ_end {R : List Int} (h : ∀ i x y, i + 1 < R.length → R[i]? = some x → R[i + 1]? = some y → ltI x y = true) : ascB ltI R = true :=
 (ascB_iff _ _).2 fun i x y hx hy => h i x y ((List.getElem?_eq_some_iff.1 hy).1) hx hy
theorem ascJ_hit {R : List Int} {i : Nat} {x y : Int} (hx : R[i]? = some x) (hy : R[i + 1]? = some y) (h : ltI x y = false) : ascB ltI R = false := by
 rw [Bool.eq_false_iff]
 intro h2
 have := (ascB_iff _ _).1 h2 i x y hx hy
 rw [h] at this; cases this
set_option maxHeartbeats 3200000 in
theorem tascI_any (R : List Int) (p : Option Addr) (c : Nat) (q : Nat → Prop) (w : World) (hR : Rd w q (.slice p R.length c) (R.map tv)) (hm : R.length ≤ 9223372036854775807) :
  Calls Tryd.prog 75 #[.slice p R.length c, .func (.func 76) #[] #[]] w fun e w' => e = .returned (.bool (ascB ltI R)) ∧ w.grownBy w' none := by
 have eg : EnterF 76 := enters_of Tryd.func76 (by kernel_rfl) rfl
 have HR := Lib.hid hR
 clear hR
 go_enter Tryd.func75, Tryd.ntmps75
 go_wp2_with fail
 go_loopw [5] (fun a wr => ∃ k : Nat, 1 ≤ k ∧ (k ≤ R.length ∨ k = 1) ∧ a = .int .i64 (k : Int) ∧ Hid (w.grownBy wr none) ∧ Hid (∀ i x y, i + 1 < k → R[i]? = some x → R[i + 1]? = some y → ltI x y = true)) (fun a _ => R.length - (RowKit.intOf a).toNat)
 case atStart => exact ⟨1, by omega, Or.inr rfl, rfl, Lib.hid (grown_refl _ _), Lib.hid (fun i x y h => by omega)⟩
 case round =>
  obtain ⟨k, hk1, hk, rfl, G, HN⟩ := hrel
  by_cases hlt : k < R.length
  ·obtain ⟨j, rfl⟩ : ∃ j, k = j + 1 := ⟨k - 1, by omega⟩
   obtain ⟨x, hx⟩ : ∃ x, R[j]? = some x := ⟨_, List.getElem?_eq_getElem (by omega)⟩
   obtain ⟨y, hy⟩ : ∃ y, R[j + 1]? = some y := ⟨_, List.getElem?_eq_getElem hlt⟩
   obtain ⟨-, b, off, rfl, hq, hc⟩ := tvT_at (HR.out.keep G.out) hx
   have a0 := hc j x hx
   have b0 := hc (j + 1) y hy
   have HXY := Lib.hid (And.intro hx hy)
   have ew1 : ((j : Int) + 1 - 1) = (j : Int) := by omega
   have ew2 : IntKind.i64.wrap ((j : Int) + 1 - 1) = (j : Int) := by rw [ew1, IntWalk.i64_in _ (by omega)]
   have ew3 : IntKind.i64.wrap (j : Int) = (j : Int) := IntWalk.i64_in _ (by omega)
   have j0 : (0 : Int) ≤ (j : Int) := by omega
   have j1 : (0 : Int) ≤ (j : Int) + 1 := by omega
   have j2 : (j : Int) < (R.length : Int) := by omega
   have j3 : (j : Int) + 1 < (R.length : Int) := by omega
   have j4 : ((j : Int) + 1).toNat = j + 1 := by omega
   clear hc hx hy
   have hcast : ((j + 1 : Nat) : Int) = (j : Int) + 1 := by omega
   rw [hcast]
   have HF := Lib.hid (And.intro a0 b0)
   have GZ : Hid (wr.grownBy wr none) := Lib.hid (grown_refl _ _)
   go_upto_region 4 with fail
   cases hlt2 : ltI x y
   ·have hge : y ≤ x := (by have := of_decide_eq_false hlt2; omega)
    have HL := Lib.hid hlt2
    clear hlt2
    go_region_held3 (fun w' => w'.cell? ⟨b, off + j, none⟩ = some (.int .i64 x) ∧ w'.cell? ⟨b, off + (j + 1), none⟩ = some (.int .i64 y) ∧ Hid (wr.grownBy w' none))
     (first | with_reducible exact ⟨(hid_drew GZ).out.cell HF.out.1 (by simp), (hid_drew GZ).out.cell HF.out.2 (by simp), hid_drew GZ⟩ | (go_split_ands; with_reducible refine ⟨?_, ?_, ?_⟩ <;> with_reducible assumption))
     ((go_at_call 76; (first | with_reducible refine (tdis1_any x _).mono ?_ | with_reducible refine (tdis1_any y _).mono ?_); rintro e w' ⟨rfl, rfl⟩))
    all_goals
     go_split_ands
     go_wp2_with fail
     go_ret
     rw [ascJ_hit HXY.out.1 HXY.out.2 HL.out]
     exact ⟨rfl, grown_trans G.out (Hid.out (by assumption))⟩
   ·have hge : ¬ y ≤ x := fun h => by have := of_decide_eq_true hlt2; omega
    have HL := Lib.hid hlt2
    clear hlt2
    go_region_held3 (fun w' => w'.cell? ⟨b, off + j, none⟩ = some (.int .i64 x) ∧ w'.cell? ⟨b, off + (j + 1), none⟩ = some (.int .i64 y) ∧ Hid (wr.grownBy w' none))
     (first | with_reducible exact ⟨(hid_drew GZ).out.cell HF.out.1 (by simp), (hid_drew GZ).out.cell HF.out.2 (by simp), hid_drew GZ⟩ | (go_split_ands; with_reducible refine ⟨?_, ?_, ?_⟩ <;> with_reducible assumption))
     ((go_at_call 76; (first | with_reducible refine (tdis1_any x _).mono ?_ | with_reducible refine (tdis1_any y _).mono ?_); rintro e w' ⟨rfl, rfl⟩))
    all_goals
     go_split_ands
     have HGW := Lib.hid (grown_trans G.out (Hid.out (by assumption)))
     go_wp2_with fail
     refine ⟨⟨j + 1 + 1, by omega, Or.inl (by omega), congrArg _ (by omega), HGW, Lib.hid fun i x2 y2 hi hx2 hy2 => ?_⟩, by simp only [RowKit.intOf]; omega⟩
     by_cases hij : i = j
     ·subst hij
      have e1 := HXY.out.1.symm.trans hx2
      have e2 := HXY.out.2.symm.trans hy2
      injection e1 with e1
      injection e2 with e2
      subst e1
      subst e2
      exact HL.out
     ·exact HN.out i x2 y2 (by omega) hx2 hy2
  ·have h1 : ¬ (k : Int) < (R.length : Int) := by omega
   go_wp2_with fail
   go_ret
   rw [ascJ_end fun i x y hi hx hy => HN.out i x y (by omega) hx hy]
   exact ⟨rfl, G.out⟩
theorem ascW_end {R : List Rw} (h : ∀ i x y, i + 1 < R.length → R[i]? = some x → R[i + 1]? = some y → ltW x y = true) : ascB ltW R = true :=
 (ascB_iff _ _).2 fun i x y hx hy => h i x y ((List.getElem?_eq_some_iff.1 hy).1) hx hy
theorem ascW_hit {R : List Rw} {i : Nat} {x y : Rw} (hx : R[i]? = some x) (hy : R[i + 1]? = some y) (h : ltW x y = false) : ascB ltW R = false := by
 rw [Bool.eq_false_iff]
 intro h2
 have := (ascB_iff _ _).1 h2 i x y hx hy
 rw [h] at this; cases this
set_option maxHeartbeats 3200000 in
theorem tascW_any (R : List Rw) (p : Option Addr) (c : Nat) (q : Nat → Prop) (w : World) (hR : RdF w q (.slice p R.length c) R.length (R.flatMap rwC)) (hm : R.length ≤ 9223372036854775807) :
  Calls Tryd.prog 58 #[.slice p R.length c, .func (.func 59) #[] #[]] w fun e w' => e = .returned (.bool (ascB ltW R)) ∧ w.grownBy w' none := by
 have eg : EnterF 59 := enters_of Tryd.func59 (by kernel_rfl) rfl
 have HR := Lib.hid hR
 clear hR
 go_enter Tryd.func58, Tryd.ntmps58
 go_wp2_with fail
 go_loopw [5] (fun a wr => ∃ k : Nat, 1 ≤ k ∧ (k ≤ R.length ∨ k = 1) ∧ a = .int .i64 (k : Int) ∧ Hid (w.grownBy wr none) ∧ Hid (∀ i x y, i + 1 < k → R[i]? = some x → R[i + 1]? = some y → ltW x y = true)) (fun a _ => R.length - (RowKit.intOf a).toNat)
 case atStart => exact ⟨1, by omega, Or.inr rfl, rfl, Lib.hid (grown_refl _ _), Lib.hid (fun i x y h => by omega)⟩
 case round =>
  obtain ⟨k, hk1, hk, rfl, G, HN⟩ := hrel
  by_cases hlt : k < R.length
  ·obtain ⟨j, rfl⟩ : ∃ j, k = j + 1 := ⟨k - 1, by omega⟩
   obtain ⟨x, hx⟩ : ∃ x, R[j]? = some x := ⟨_, List.getElem?_eq_getElem (by omega)⟩
   obtain ⟨y, hy⟩ : ∃ y, R[j + 1]? = some y := ⟨_, List.getElem?_eq_getElem hlt⟩
   obtain ⟨-, b, off, rfl, hq, hc⟩ := rw_cells (HR.out.keep G.out) (by omega)
   obtain ⟨a0, a1⟩ := hc j x hx
   obtain ⟨b0, b1⟩ := hc (j + 1) y hy
   have HXY := Lib.hid (And.intro hx hy)
   have ew1 : ((j : Int) + 1 - 1) = (j : Int) := by omega
   have ew2 : IntKind.i64.wrap ((j : Int) + 1 - 1) = (j : Int) := by rw [ew1, IntWalk.i64_in _ (by omega)]
   have ew3 : IntKind.i64.wrap (j : Int) = (j : Int) := IntWalk.i64_in _ (by omega)
   have j0 : (0 : Int) ≤ (j : Int) := by omega
   have j1 : (0 : Int) ≤ (j : Int) + 1 := by omega
   have j2 : (j : Int) < (R.length : Int) := by omega
   have j3 : (j : Int) + 1 < (R.length : Int) := by omega
   have j4 : ((j : Int) + 1).toNat = j + 1 := by omega
   clear hc hx hy
   have hcast : ((j + 1 : Nat) : Int) = (j : Int) + 1 := by omega
   rw [hcast]
   have HF := Lib.hid (And.intro a0 (And.intro a1 (And.intro b0 b1)))
   have GZ : Hid (wr.grownBy wr none) := Lib.hid (grown_refl _ _)
   go_upto_region 4 with fail
   cases hlt2 : ltW x y
   ·have hge : y.id ≤ x.id := (by have := of_decide_eq_false hlt2; omega)
    have HL := Lib.hid hlt2
    clear hlt2
    go_region_held3 (fun w' => w'.cell? ⟨b, off + j * 2, none⟩ = some (.int .i64 x.id) ∧ w'.cell? ⟨b, off + j * 2 + 1, none⟩ = some (.slice x.p x.nx.length x.c) ∧ w'.cell? ⟨b, off + (j + 1) * 2, none⟩ = some (.int .i64 y.id) ∧ w'.cell? ⟨b, off + (j + 1) * 2 + 1, none⟩ = some (.slice y.p y.nx.length y.c) ∧ Hid (wr.grownBy w' none))
     (first | with_reducible exact keepTW HF.out (hid_drew GZ) | (with_reducible exact keepTW HF.out (hid_drew (hid_more GZ hg))) | (go_split_ands; with_reducible refine keepTW HF.out ?_; with_reducible assumption) | (go_split_ands; with_reducible refine keepTW HF.out (hid_more ?_ hg); with_reducible assumption) | (go_split_ands; with_reducible refine keepTW HF.out (hid_more (hid_more ?_ hg) hg2); with_reducible assumption))
     ((go_at_call 59; (first | with_reducible refine (trid_any x _).mono ?_ | with_reducible refine (trid_any y _).mono ?_); rintro e w' ⟨rfl, hg⟩))
    all_goals
     go_split_ands
     go_wp2_with fail
     go_ret
     rw [ascW_hit HXY.out.1 HXY.out.2 HL.out]
     exact ⟨rfl, grown_trans G.out (Hid.out (by assumption))⟩
   ·have hge : ¬ y.id ≤ x.id := fun h => by have := of_decide_eq_true hlt2; omega
    have HL := Lib.hid hlt2
    clear hlt2
    go_region_held3 (fun w' => w'.cell? ⟨b, off + j * 2, none⟩ = some (.int .i64 x.id) ∧ w'.cell? ⟨b, off + j * 2 + 1, none⟩ = some (.slice x.p x.nx.length x.c) ∧ w'.cell? ⟨b, off + (j + 1) * 2, none⟩ = some (.int .i64 y.id) ∧ w'.cell? ⟨b, off + (j + 1) * 2 + 1, none⟩ = some (.slice y.p y.nx.length y.c) ∧ Hid (wr.grownBy w' none))
     (first | with_reducible exact keepTW HF.out (hid_drew GZ) | (with_reducible exact keepTW HF.out (hid_drew (hid_more GZ hg))) | (go_split_ands; with_reducible refine keepTW HF.out ?_; with_reducible assumption) | (go_split_ands; with_reducible refine keepTW HF.out (hid_more ?_ hg); with_reducible assumption) | (go_split_ands; with_reducible refine keepTW HF.out (hid_more (hid_more ?_ hg) hg2); with_reducible assumption))
     ((go_at_call 59; (first | with_reducible refine (trid_any x _).mono ?_ | with_reducible refine (trid_any y _).mono ?_); rintro e w' ⟨rfl, hg⟩))
    all_goals
     go_split_ands
     have HGW := Lib.hid (grown_trans G.out (Hid.out (by assumption)))
     go_wp2_with fail
     refine ⟨⟨j + 1 + 1, by omega, Or.inl (by omega), congrArg _ (by omega), HGW, Lib.hid fun i x2 y2 hi hx2 hy2 => ?_⟩, by simp only [RowKit.intOf]; omega⟩
     by_cases hij : i = j
     ·subst hij
      have e1 := HXY.out.1.symm.trans hx2
      have e2 := HXY.out.2.symm.trans hy2
      injection e1 with e1
      injection e2 with e2
      subst e1
      subst e2
      exact HL.out
     ·exact HN.out i x2 y2 (by omega) hx2 hy2
  ·have h1 : ¬ (k : Int) < (R.length : Int) := by omega
   go_wp2_with fail
   go_ret
   rw [ascW_end fun i x y hi hx hy => HN.out i x y (by omega) hx hy]
   exact ⟨rfl, G.out⟩
theorem hasI_at {X : List Int} {r x : Int} {k : Nat} (hx : X[k]? = some x) (h : x = r) : hasI X r = true := List.any_eq_true.2 ⟨x, List.mem_of_getElem? hx, decide_eq_true h⟩
set_option maxHeartbeats 1600000 in
theorem tidx_any (X : List Int) (r : Int) (p : Option Addr) (c : Nat) (q : Nat → Prop) (w : World) (hR : Rd w q (.slice p X.length c) (X.map tv)) (hm : X.length ≤ 9223372036854775807) :
  Calls Tryd.prog 77 #[.slice p X.length c, .int .i64 r] w fun e w' => ∃ i : Int, e = .returned (.int .i64 i) ∧ decide (0 ≤ i) = hasI X r ∧ w = w' := by
 have HR := Lib.hid hR
 clear hR
 go_enter Tryd.func77, Tryd.ntmps77
 go_wp2_with fail
 go_loopw [8] (fun a wr => ∃ k : Nat, k ≤ X.length ∧ a = .int .i64 (k : Int) ∧ wr = w ∧ Hid ((X.take k).any (fun y => decide (y = r)) = false)) (fun a _ => X.length - (RowKit.intOf a).toNat)
 case atStart => exact ⟨0, Nat.zero_le _, rfl, rfl, Lib.hid rfl⟩
 case round =>
  obtain ⟨k, hk, rfl, rfl, HN⟩ := hrel
  by_cases hlt : k < X.length
  ·obtain ⟨x, hx⟩ : ∃ x, X[k]? = some x := ⟨_, List.getElem?_eq_getElem hlt⟩
   obtain ⟨-, b, off, rfl, hq, hc⟩ := tvT_at HR.out hx
   have a0 := hc k x hx
   have HX := Lib.hid hx
   clear hc hx
   by_cases hr : x = r
   ·have hr' : (r == x) = true := by simpa using hr.symm
    have HH := Lib.hid (hasI_at HX.out hr)
    clear hr
    go_wp2_with fail
    go_ret
    refine ⟨_, rfl, ?_, rfl⟩
    rw [HH.out, decide_eq_true_eq]; omega
   ·have hr' : (r == x) = false := by simpa using fun h => hr h.symm
    have HN2 : Hid ((X.take (k + 1)).any (fun y => decide (y = r)) = false) := Lib.hid (any_take HN.out HX.out (decide_eq_false hr))
    clear hr
    go_wp2_with fail
    exact ⟨⟨k + 1, by omega, congrArg _ (by omega), (by first | rfl | trivial), HN2⟩, by simp only [RowKit.intOf]; omega⟩
  ·obtain rfl : k = X.length := by omega
   have hnl : ¬ (X.length : Int) < (X.length : Int) := by omega
   have HE : Hid (hasI X r = false) := Lib.hid (any_end HN.out (Nat.le_refl _))
   go_wp2_with fail
   go_ret
   refine ⟨_, rfl, ?_, rfl⟩
   rw [HE.out]; decide
theorem tcont_any (X : List Int) (r : Int) (p : Option Addr) (c : Nat) (q : Nat → Prop) (w : World) (hR : Rd w q (.slice p X.length c) (X.map tv)) (hm : X.length ≤ 9223372036854775807) :
  Calls Tryd.prog 62 #[.slice p X.length c, .int .i64 r] w fun e w' => e = .returned (.bool (hasI X r)) ∧ w = w' := by
 have HR := Lib.hid hR
 clear hR
 go_enter Tryd.func62, Tryd.ntmps62
 go_wp2_with fail
 refine (tidx_any X r p c q w HR.out hm).mono ?_
 rintro e w' ⟨i, rfl, hi, rfl⟩
 have HI := Lib.hid hi
 clear hi
 go_wp2_with fail
 go_ret
 rw [← HI.out]
 exact ⟨rfl, rfl⟩
end Go.Proofs.YtpogblengagpaaaDoor

/- table: Check. -/
namespace Go.Proofs.YtpogblengagpaaaDoor
set_option maxRecDepth 100000
open Go.RowKit Bs
theorem row4T {w : World} {b : Nat} {x0 x1 x2 x3 : Value} {t : TypeId} (h : w.heap[b]? = some (.cells #[x0, x1, x2, x3] t (0, 0))) :
  w.cell? ⟨b, 0, none⟩ = some x0 ∧ w.cell? ⟨b, 1, none⟩ = some x1 ∧ w.cell? ⟨b, 2, none⟩ = some x2 ∧ w.cell? ⟨b, 3, none⟩ = some x3 :=
 ⟨cell_of_row _ _ _ _ _ _ h, cell_of_row _ _ _ _ _ _ h, cell_of_row _ _ _ _ _ _ h, cell_of_row _ _ _ _ _ _ h⟩
theorem tbwithin_any (n m : Int) (b : Bool) (h : inV n 1 m = b) (w : World) : Calls Tryd.prog 70 #[.int .i64 n, .int .i64 m] w fun e w' => e = .returned (.bool b) ∧ w = w' := by
 subst h
 unfold inV
 go_enter Tryd.func70, Tryd.ntmps70
 by_cases h1 : (1 : Int) ≤ n
 ·by_cases h2 : n ≤ m
  ·rw [decide_eq_true (show 1 ≤ n ∧ n ≤ m from ⟨h1, h2⟩)]
   go_wp2_with fail
   go_ret
   exact ⟨rfl, rfl⟩
  ·rw [decide_eq_false (show ¬ (1 ≤ n ∧ n ≤ m) from fun h => h2 h.2)]
   go_wp2_with fail
   go_ret
   exact ⟨rfl, rfl⟩
 ·rw [decide_eq_false (show ¬ (1 ≤ n ∧ n ≤ m) from fun h => h1 h.1)]
  go_wp2_with fail
  go_ret
  exact ⟨rfl, rfl⟩
theorem tvlen_any (n : Int) (b : Bool) (h : vl n = b) (w : World) : Calls Tryd.prog 71 #[.int .i64 n] w fun e w' => e = .returned (.bool b) ∧ w.grownBy w' none := by
 have HP : Hid (plOk 1 n = b) := Lib.hid (by unfold plOk; rw [h]; simp [inV])
 go_enter Tryd.func71, Tryd.ntmps71
 go_wp2_with fail
 refine (iplc_any 1 n w).mono ?_
 rintro e w1 ⟨rfl, hg⟩
 rw [HP.out]
 have G := Lib.hid hg
 clear hg
 go_wp2_with fail
 go_ret
 exact ⟨rfl, G.out⟩
theorem twr1_any (z : Int) (w : World) : Calls Tryd.prog 74 #[.int .i64 z] w fun e w' => e = .returned (.bool (!inV z 1 99)) ∧ w.grownBy w' none := by
 obtain ⟨b, hb⟩ : ∃ b, inV z 1 99 = b := ⟨_, rfl⟩
 have HB := Lib.hid hb
 rw [hb]
 clear hb
 go_enter Tryd.func74, Tryd.ntmps74
 go_wp2_with fail
 refine (tbwithin_any z 99 b HB.out w).mono ?_
 rintro e w1 ⟨rfl, rfl⟩
 go_wp2_with fail
 go_ret
 exact ⟨rfl, grown_refl _ _⟩
theorem twr_any (x : Rw) (q : Nat → Prop) (w : World) (hx : RwOk w q x) : Calls Tryd.prog 56 #[.agg #[.int .i64 x.id, .slice x.p x.nx.length x.c]] w fun e w' => e = .returned (.bool (wrW x)) ∧ w.grownBy w' none := by
 have eg : EnterF 74 := enters_of Tryd.func74 (by kernel_rfl) rfl
 have EG := Lib.hid eg
 obtain ⟨k1, k2⟩ := tone_box w #[.int .i64 x.id, .slice x.p x.nx.length x.c] 70
 have HB := Lib.hid (And.intro k1 (And.intro k2 (hx.keep k2)))
 obtain ⟨b, hb⟩ : ∃ b, inV x.id 1 256 = b := ⟨_, rfl⟩
 have HI := Lib.hid hb
 clear k1 k2 hx eg hb
 go_enter Tryd.func56, Tryd.ntmps56
 go_upto_region 1 with fail
 generalize w.alloc _ = w1 at *
 have c0 : w1.cell? ⟨w.heap.size, 0, none⟩ = some (.int .i64 x.id) := cell_of_row _ _ _ _ _ _ HB.out.1
 have c1 : w1.cell? ⟨w.heap.size, 1, none⟩ = some (.slice x.p x.nx.length x.c) := cell_of_row _ _ _ _ _ _ HB.out.1
 go_wp2_with fail
 refine (tbwithin_any x.id 256 b HI.out w1).mono ?_
 rintro e w' ⟨rfl, rfl⟩
 cases b
 case false =>
  have HO : Hid (wrW x = true) := Lib.hid (by unfold wrW; rw [HI.out]; rfl)
  go_wp2_with fail
  go_ret
  rw [HO.out]
  exact ⟨rfl, HB.out.2.1⟩
 have HO : Hid (wrW x = x.nx.any fun z => !inV z 1 99) := Lib.hid (by unfold wrW; rw [HI.out]; rfl)
 have hm : x.nx.length ≤ 9223372036854775807 := Nat.le_trans HB.out.2.2.hc.1 HB.out.2.2.hc.2
 go_wp2_with fail
 refine (tcontI_any 74 #[] (fun z => !inV z 1 99) EG.out x.nx x.p x.c q w1 HB.out.2.2.rd hm (fun r w' _ => twr1_any r w')).mono ?_
 rintro e w2 ⟨rfl, hg⟩
 have G := Lib.hid (grown_trans HB.out.2.1 hg)
 clear hg
 go_wp2_with fail
 go_ret
 rw [HO.out]
 exact ⟨rfl, G.out⟩
theorem tlg_any (x : Rw) (w : World) : Calls Tryd.prog 57 #[.agg #[.int .i64 x.id, .slice x.p x.nx.length x.c]] w fun e w' => e = .returned (.bool (lgW x)) ∧ w.grownBy w' none := by
 obtain ⟨k1, k2⟩ := tone_box w #[.int .i64 x.id, .slice x.p x.nx.length x.c] 70
 have HB := Lib.hid (And.intro k1 k2)
 have HO : Hid (decide ((24 : Int) < (x.nx.length : Int)) = lgW x) := Lib.hid (by unfold lgW; rw [decide_eq_decide]; omega)
 clear k1 k2
 go_enter Tryd.func57, Tryd.ntmps57
 go_upto_region 1 with fail
 generalize w.alloc _ = w1 at *
 have c1 : w1.cell? ⟨w.heap.size, 1, none⟩ = some (.slice x.p x.nx.length x.c) := cell_of_row _ _ _ _ _ _ HB.out.1
 go_wp2_with fail
 go_ret
 rw [← HO.out]
 exact ⟨rfl, HB.out.2⟩
theorem tds_any (x : Rw) (q : Nat → Prop) (w : World) (hx : RwOk w q x) : Calls Tryd.prog 60 #[.agg #[.int .i64 x.id, .slice x.p x.nx.length x.c]] w fun e w' => e = .returned (.bool (dsW x)) ∧ w.grownBy w' none := by
 obtain ⟨k1, k2⟩ := tone_box w #[.int .i64 x.id, .slice x.p x.nx.length x.c] 70
 have HB := Lib.hid (And.intro k1 (And.intro k2 (hx.keep k2)))
 clear k1 k2 hx
 go_enter Tryd.func60, Tryd.ntmps60
 go_upto_region 1 with fail
 generalize w.alloc _ = w1 at *
 have c1 : w1.cell? ⟨w.heap.size, 1, none⟩ = some (.slice x.p x.nx.length x.c) := cell_of_row _ _ _ _ _ _ HB.out.1
 have hm : x.nx.length ≤ 9223372036854775807 := Nat.le_trans HB.out.2.2.hc.1 HB.out.2.2.hc.2
 go_wp2_with fail
 refine (tascI_any x.nx x.p x.c q w1 HB.out.2.2.rd hm).mono ?_
 rintro e w2 ⟨rfl, hg⟩
 have G := Lib.hid (grown_trans HB.out.2.1 hg)
 clear hg
 go_wp2_with fail
 go_ret
 exact ⟨rfl, G.out⟩
theorem tck1_any (g : Nat) (r s n : Int) (v3 : Value) (x : Rw) (q : Nat → Prop) (w : World) (hb : w.heap[g]? = some (.cells #[.int .i64 r, .int .i64 s, .int .i64 n, v3] 27 (0, 0))) (hx : RwOk w q x) :
  Calls Tryd.prog 61 #[.agg #[.int .i64 x.id, .slice x.p x.nx.length x.c], .pointer (some ⟨g, 0, none⟩)] w fun e w' => e = .returned (.bool (cfW r x)) ∧ w.grownBy w' none := by
 obtain ⟨k1, k2⟩ := tone_box w #[.int .i64 x.id, .slice x.p x.nx.length x.c] 70
 have HB := Lib.hid (And.intro k1 (And.intro k2 (And.intro (hx.keep k2) (kept_row hb k2 (by simp)))))
 clear k1 k2 hx hb
 go_enter Tryd.func61, Tryd.ntmps61
 go_upto_region 1 with fail
 generalize w.alloc _ = w1 at *
 have c1 : w1.cell? ⟨w.heap.size, 1, none⟩ = some (.slice x.p x.nx.length x.c) := cell_of_row _ _ _ _ _ _ HB.out.1
 have d0 := (row4T HB.out.2.2.2).1
 have hm : x.nx.length ≤ 9223372036854775807 := Nat.le_trans HB.out.2.2.1.hc.1 HB.out.2.2.1.hc.2
 by_cases h1 : 1 < x.nx.length
 ·have h1' : (1 : Int) < (x.nx.length : Int) := by omega
  have HO : Hid (cfW r x = hasI x.nx r) := Lib.hid (by unfold cfW; rw [decide_eq_true h1]; rfl)
  go_wp2_with fail
  refine (tcont_any x.nx r x.p x.c q w1 HB.out.2.2.1.rd hm).mono ?_
  rintro e w2 ⟨rfl, rfl⟩
  go_wp2_with fail
  go_ret
  rw [HO.out]
  exact ⟨rfl, HB.out.2.1⟩
 ·have h1' : ¬ (1 : Int) < (x.nx.length : Int) := by omega
  have HO : Hid (cfW r x = false) := Lib.hid (by unfold cfW; rw [decide_eq_false h1]; rfl)
  go_wp2_with fail
  go_ret
  rw [HO.out]
  exact ⟨rfl, HB.out.2.1⟩
set_option maxHeartbeats 1600000 in
theorem thd_any (r s n : Int) (p : Option Addr) (c : Nat) (L : List Rw) (w : World) : Calls Tryd.prog 54 #[.agg #[.int .i64 r, .int .i64 s, .int .i64 n, .slice p L.length c]] w fun e w' => e = .returned (.bool (hdT r s n L)) ∧ w.grownBy w' none := by
 obtain ⟨k1, k2⟩ := tone_box w #[.int .i64 r, .int .i64 s, .int .i64 n, .slice p L.length c] 27
 have HB := Lib.hid (And.intro k1 k2)
 clear k1 k2
 go_enter Tryd.func54, Tryd.ntmps54
 go_upto_region 1 with fail
 generalize w.alloc _ = w1 at *
 obtain ⟨d0, d1, d2, d3⟩ := row4T HB.out.1
 obtain ⟨b1, hb1⟩ : ∃ b, inV r 1 99 = b := ⟨_, rfl⟩
 obtain ⟨b2, hb2⟩ : ∃ b, vl n = b := ⟨_, rfl⟩
 have H1 := Lib.hid hb1
 have H2 := Lib.hid hb2
 obtain ⟨b3, hb3⟩ : ∃ b, inV s 0 7 = b := ⟨_, rfl⟩
 have H3 := Lib.hid hb3
 go_cut [3] from 5 to 12 (fun v wx => v = .bool (!b3) ∧ w1 = wx)
 case first =>
  clear H3
  by_cases s0 : s < 0
  ·obtain rfl : b3 = false := by rw [← hb3]; exact decide_eq_false (by omega)
   clear hb3
   go_wp2_with fail
   go_meet
   exact ⟨rfl, rfl⟩
  ·by_cases s7 : 7 < s
   ·obtain rfl : b3 = false := by rw [← hb3]; exact decide_eq_false (by omega)
    clear hb3
    go_wp2_with fail
    go_meet
    exact ⟨rfl, rfl⟩
   ·obtain rfl : b3 = true := by rw [← hb3]; exact decide_eq_true (by omega)
    clear hb3
    go_wp2_with fail
    go_meet
    exact ⟨rfl, rfl⟩
 case rest =>
 obtain ⟨rfl, rfl⟩ := hcut
 obtain ⟨b4, hb4⟩ : ∃ b, (decide (n = 0) && decide (L.length = 0)) = b := ⟨_, rfl⟩
 have H4 := Lib.hid hb4
 have HO : Hid (hdT r s n L = !(b1 && b3 && (b2 || b4))) := Lib.hid (by unfold hdT; rw [hb1, hb2, hb3, hb4])
 clear hb1 hb2 hb3
 go_upto_region 2 with fail
 go_cut [4] from 13 to 21 (fun v wx => v = .bool b4 ∧ w1 = wx)
 case first =>
  clear H4 HO
  by_cases n0 : n = 0
  ·have n0' : (n == 0) = true := by simpa using n0
   by_cases l0 : L.length = 0
   ·have l0' : ((L.length : Int) == 0) = true := beq_iff_eq.2 (by omega)
    obtain rfl : b4 = true := by rw [← hb4, decide_eq_true n0, decide_eq_true l0]; rfl
    clear hb4 n0 l0
    go_wp2_with fail
    go_meet
    exact ⟨rfl, rfl⟩
   ·have l0' : ((L.length : Int) == 0) = false := beq_eq_false_iff_ne.2 (by omega)
    obtain rfl : b4 = false := by rw [← hb4, decide_eq_false l0]; simp
    clear hb4 n0 l0
    go_wp2_with fail
    go_meet
    exact ⟨rfl, rfl⟩
  ·have n0' : (n == 0) = false := by simpa using n0
   obtain rfl : b4 = false := by rw [← hb4, decide_eq_false n0]; rfl
   clear hb4 n0
   go_wp2_with fail
   go_meet
   exact ⟨rfl, rfl⟩
 case rest =>
 obtain ⟨rfl, rfl⟩ := hcut
 clear hb4
 go_wp2_with fail
 refine (tbwithin_any r 99 b1 H1.out w1).mono ?_
 rintro e w2 ⟨rfl, rfl⟩
 cases b1
 case false =>
  go_wp2_with fail
  go_ret
  rw [HO.out]
  exact ⟨rfl, HB.out.2⟩
 cases b3
 case false =>
  go_wp2_with fail
  go_ret
  rw [HO.out]
  exact ⟨rfl, HB.out.2⟩
 cases b4
 case true =>
  go_wp2_with fail
  go_ret
  rw [HO.out]
  exact ⟨by cases b2 <;> rfl, HB.out.2⟩
 go_wp2_with fail
 refine (tvlen_any n b2 H2.out w1).mono ?_
 rintro e w3 ⟨rfl, hg⟩
 have G := Lib.hid (grown_trans HB.out.2 hg)
 clear hg
 go_wp2_with fail
 go_ret
 rw [HO.out]
 exact ⟨by cases b2 <;> rfl, G.out⟩
structure TC (W : World) (r s n : Int) (p : Option Addr) (c : Nat) (L : List Rw) (w : World) : Prop where
 bx : w.heap[W.heap.size]? = some (.cells #[.int .i64 r, .int .i64 s, .int .i64 n, .slice p L.length c] 27 (0, 0))
 rd : ∃ q, RdW w q p c L
 gr : W.grownBy w none
theorem TC.keep {W w w1 : World} {r s n : Int} {p : Option Addr} {c : Nat} {L : List Rw} (h : TC W r s n p c L w) (g : w.grownBy w1 none) : TC W r s n p c L w1 :=
 ⟨kept_row h.bx g (by simp), by obtain ⟨q, hq⟩ := h.rd; exact ⟨q, hq.keep g⟩, grown_trans h.gr g⟩
set_option maxHeartbeats 3200000 in
theorem tcheckT_any (r s n : Int) (p : Option Addr) (c : Nat) (L : List Rw) (q : Nat → Prop) (w : World) (hR : RdW w q p c L) (hm : L.length ≤ 9223372036854775807) :
  Calls Tryd.prog 41 #[.agg #[.int .i64 r, .int .i64 s, .int .i64 n, .slice p L.length c]] w fun e w' => e = .returned (.int .i64 (ckT r s n L)) ∧ w.grownBy w' none := by
 have e1 : EnterF 56 := enters_of Tryd.func56 (by kernel_rfl) rfl
 have e2 : EnterF 57 := enters_of Tryd.func57 (by kernel_rfl) rfl
 have e3 : EnterF 60 := enters_of Tryd.func60 (by kernel_rfl) rfl
 have e4 : EnterF 61 := enters_of Tryd.func61 (by kernel_rfl) rfl
 have EG := Lib.hid (And.intro e1 (And.intro e2 (And.intro e3 e4)))
 obtain ⟨k1, k2⟩ := tone_box w #[.int .i64 r, .int .i64 s, .int .i64 n, .slice p L.length c] 27
 have H0 : Hid (TC w r s n p c L _) := Lib.hid ⟨k1, ⟨q, hR.keep k2⟩, k2⟩
 have HC : Hid (ckT r s n L = if hdT r s n L = true then 2 else if L.any wrW = true then 2 else if 256 < L.length then 3 else if L.any lgW = true then 3 else if ascB ltW L = false then 25 else if L.any dsW = true then 25 else if L.any (cfW r) = true then 8 else 0) := Lib.hid rfl
 clear k1 k2 hR e1 e2 e3 e4
 go_enter Tryd.func41, Tryd.ntmps41
 go_upto_region 1 with fail
 generalize w.alloc _ = w1 at *
 obtain ⟨q1, hq1⟩ := H0.out.rd
 obtain ⟨d0, d1, d2, d3⟩ := row4T H0.out.bx
 go_wp2_with fail
 refine (thd_any r s n p c L w1).mono ?_
 rintro e w2 ⟨rfl, hg⟩
 have H1 := Lib.hid (H0.out.keep hg)
 clear hg d0 d1 d2 d3 hq1
 cases f1 : hdT r s n L
 case true =>
  have F := Lib.hid f1
  clear f1
  go_wp2_with fail
  go_ret
  rw [HC.out, if_pos F.out]
  exact ⟨rfl, H1.out.gr⟩
 have F1 := Lib.hid f1
 clear f1 H0
 obtain ⟨q2, hq2⟩ := H1.out.rd
 obtain ⟨d0, d1, d2, d3⟩ := row4T H1.out.bx
 go_wp2_with fail
 refine (tcontW_any 56 #[] wrW EG.out.1 L p c q2 w2 hq2.rd hm (fun x w' hx g => twr_any x _ w' ((hq2.ok x hx).keep g))).mono ?_
 rintro e w3 ⟨rfl, hg⟩
 have H2 := Lib.hid (H1.out.keep hg)
 clear hg d0 d1 d2 d3 hq2
 cases f2 : L.any wrW
 case true =>
  have F := Lib.hid f2
  clear f2
  go_wp2_with fail
  go_ret
  rw [HC.out, if_neg (by rw [F1.out]; decide), if_pos F.out]
  exact ⟨rfl, H2.out.gr⟩
 have F2 := Lib.hid f2
 clear f2 H1
 by_cases h256 : 256 < L.length
 case pos =>
  have h256' : (256 : Int) < (L.length : Int) := by omega
  obtain ⟨d0, d1, d2, d3⟩ := row4T H2.out.bx
  go_wp2_with fail
  go_ret
  rw [HC.out, if_neg (by rw [F1.out]; decide), if_neg (by rw [F2.out]; decide), if_pos h256]
  exact ⟨rfl, H2.out.gr⟩
 have h256' : ¬ (256 : Int) < (L.length : Int) := by omega
 obtain ⟨q3, hq3⟩ := H2.out.rd
 obtain ⟨d0, d1, d2, d3⟩ := row4T H2.out.bx
 go_wp2_with fail
 refine (tcontW_any 57 #[] lgW EG.out.2.1 L p c q3 w3 hq3.rd hm (fun x w' _ _ => tlg_any x w')).mono ?_
 rintro e w4 ⟨rfl, hg⟩
 have H3 := Lib.hid (H2.out.keep hg)
 clear hg d0 d1 d2 d3 hq3
 cases f3 : L.any lgW
 case true =>
  have F := Lib.hid f3
  clear f3
  go_wp2_with fail
  go_ret
  rw [HC.out, if_neg (by rw [F1.out]; decide), if_neg (by rw [F2.out]; decide), if_neg h256, if_pos F.out]
  exact ⟨rfl, H3.out.gr⟩
 have F3 := Lib.hid f3
 clear f3 H2
 obtain ⟨q4, hq4⟩ := H3.out.rd
 obtain ⟨d0, d1, d2, d3⟩ := row4T H3.out.bx
 go_wp2_with fail
 refine (tascW_any L p c q4 w4 hq4.rd hm).mono ?_
 rintro e w5 ⟨rfl, hg⟩
 have H4 := Lib.hid (H3.out.keep hg)
 clear hg d0 d1 d2 d3 hq4
 cases f4 : ascB ltW L
 case false =>
  have F := Lib.hid f4
  clear f4
  go_wp2_with fail
  go_ret
  rw [HC.out, if_neg (by rw [F1.out]; decide), if_neg (by rw [F2.out]; decide), if_neg h256, if_neg (by rw [F3.out]; decide), if_pos F.out]
  exact ⟨rfl, H4.out.gr⟩
 have F4 := Lib.hid f4
 clear f4 H3
 obtain ⟨q5, hq5⟩ := H4.out.rd
 obtain ⟨d0, d1, d2, d3⟩ := row4T H4.out.bx
 go_wp2_with fail
 refine (tcontW_any 60 #[] dsW EG.out.2.2.1 L p c q5 w5 hq5.rd hm (fun x w' hx g => tds_any x _ w' ((hq5.ok x hx).keep g))).mono ?_
 rintro e w6 ⟨rfl, hg⟩
 have H5 := Lib.hid (H4.out.keep hg)
 clear hg d0 d1 d2 d3 hq5
 cases f5 : L.any dsW
 case true =>
  have F := Lib.hid f5
  clear f5
  go_wp2_with fail
  go_ret
  rw [HC.out, if_neg (by rw [F1.out]; decide), if_neg (by rw [F2.out]; decide), if_neg h256, if_neg (by rw [F3.out]; decide), if_neg (by rw [F4.out]; decide), if_pos F.out]
  exact ⟨rfl, H5.out.gr⟩
 have F5 := Lib.hid f5
 clear f5 H4
 obtain ⟨q6, hq6⟩ := H5.out.rd
 obtain ⟨d0, d1, d2, d3⟩ := row4T H5.out.bx
 go_wp2_with fail
 refine (tcontW_any 61 #[.pointer (some ⟨w.heap.size, 0, none⟩)] (cfW r) EG.out.2.2.2 L p c q6 w6 hq6.rd hm (fun x w' hx g => tck1_any w.heap.size r s n _ x _ w' (kept_row H5.out.bx g (by simp)) ((hq6.ok x hx).keep g))).mono ?_
 rintro e w7 ⟨rfl, hg⟩
 have H6 := Lib.hid (H5.out.keep hg)
 clear hg d0 d1 d2 d3 hq6
 cases f6 : L.any (cfW r)
 case true =>
  have F := Lib.hid f6
  clear f6
  go_wp2_with fail
  go_ret
  rw [HC.out, if_neg (by rw [F1.out]; decide), if_neg (by rw [F2.out]; decide), if_neg h256, if_neg (by rw [F3.out]; decide), if_neg (by rw [F4.out]; decide), if_neg (by rw [F5.out]; decide), if_pos F.out]
  exact ⟨rfl, H6.out.gr⟩
 have F6 := Lib.hid f6
 clear f6 H5
 go_wp2_with fail
 go_ret
 rw [HC.out, if_neg (by rw [F1.out]; decide), if_neg (by rw [F2.out]; decide), if_neg h256, if_neg (by rw [F3.out]; decide), if_neg (by rw [F4.out]; decide), if_neg (by rw [F5.out]; decide), if_neg (by rw [F6.out]; decide)]
 exact ⟨rfl, H6.out.gr⟩
end Go.Proofs.YtpogblengagpaaaDoor

/- Maps of bit strings. -/
namespace Go.Proofs.YtpogblengagpaaaDoor
set_option maxRecDepth 100000
open Go.RowKit Go.Maps Bs
def kM (x : Int) : Lit := .int .i64 x
def vM (d : Nat) : Lit := .int .u64 (d : Int)
theorem kM_key (x : Int) : WideAt.IsKeyLit (kM x) := by unfold kM WideAt.IsKeyLit; trivial
theorem kM_ne {x y : Int} (h : x ≠ y) : kM x ≠ kM y := fun e => h (by unfold kM at e; injection e)
structure MU (D : DataW Unit) (f : Int → Option Nat) : Prop where
 td : Tidy D
 hs : ∀ x, Maps.has D (kM x) = (f x).isSome
 at1_ : ∀ x, D.atKey (kM x) (.lit (vM 0)) = .lit (vM ((f x).getD 0))
def putU (f : Int → Option Nat) (x : Int) (d : Nat) : Int → Option Nat := fun u => if u = x then some d else f u
theorem putU_same (f : Int → Option Nat) (x : Int) (d : Nat) : putU f x d x = some d := by unfold putU; rw [if_pos rfl]
theorem putU_other (f : Int → Option Nat) (x : Int) (d : Nat) {y : Int} (h : y ≠ x) : putU f x d y = f y := by unfold putU; rw [if_neg h]
theorem MU.nil : MU (.map []) (fun _ => none) := ⟨tidy_empty, fun _ => rfl, fun _ => rfl⟩
theorem MU.put {D : DataW Unit} {f : Int → Option Nat} (h : MU D f) (x : Int) (d : Nat) : MU (D.put (kM x) (.lit (vM d))) (putU f x d) := by
 refine ⟨h.td.put (kM_key x) _, fun y => ?_, fun y => ?_⟩
 ·by_cases e : y = x
  ·subst e
   rw [has_put_same h.td.isMap (kM_key y), putU_same]
   rfl
  ·rw [has_put_other (kM_ne e), h.hs, putU_other f x d e]
 ·by_cases e : y = x
  ·subst e
   rw [putU_same]
   exact atKey_put_same h.td.isMap (kM_key y) _ _
  ·rw [atKey_put_other (kM_ne e), h.at1_, putU_other f x d e]
theorem lawM : Keyed Tryd.prog 3 := int_keyed Tryd.underlying3
theorem zeroU (w : World) : (zeroValue 28).run Tryd.prog w = .ok (.int .u64 0) w := by kernel_rfl
theorem wfM {x : Int} (h : I64 x) : (Lit.int .i64 x).wf = true := by
 unfold I64 at h
 simp [Lit.wf, IntKind.min, IntKind.max, IntKind.bits, IntKind.signed]
 omega
theorem wfU {d : Nat} (h : U64 d) : (Lit.int .u64 (d : Int)).wf = true := by
 have h := U64.lt h
 simp [Lit.wf, IntKind.min, IntKind.max, IntKind.bits, IntKind.signed]
 omega
def OMu (w : World) (b n : Nat) (f : Int → Option Nat) : Prop := ∃ D : DataW Unit, w.ownsMap Tryd.prog 3 (plainElem Tryd.prog 28) b n D ∧ MU D f
theorem OMu.kept {w w' : World} {b n : Nat} {f : Int → Option Nat} {r : Option Nat} (h : OMu w b n f) (g : w.grownBy w' r) (hr : some b ≠ r) : OMu w' b n f := by
 obtain ⟨D, h1, h2⟩ := h
 exact ⟨D, h1.kept g hr, h2⟩
theorem OMu.lt {w : World} {b n : Nat} {f : Int → Option Nat} (h : OMu w b n f) : b < w.heap.size := by
 obtain ⟨D, h1, h2⟩ := h
 exact h1.lt
theorem OMu.mono {w : World} {b n m : Nat} {f : Int → Option Nat} (h : OMu w b n f) (hn : n ≤ m) : OMu w b m f := by
 obtain ⟨D, h1, h2⟩ := h
 exact ⟨D, h1.mono hn, h2⟩
theorem OMu.made (w : World) : OMu (w.alloc (.map #[] 0)) w.heap.size 0 (fun _ => none) := ⟨_, World.ownsMap_made w _ _ _, MU.nil⟩
theorem OMu.put {w : World} {b n : Nat} {f : Int → Option Nat} (h : OMu w b n f) (hn : n ≤ 1000000) {x : Int} {d : Nat} (hx : I64 x) (hd : U64 d) :
  ∃ w', (Instr.mapUpdate 95 (.map (some b)) (.int .i64 x) (.int .u64 (d : Int))).run Tryd.prog w = .ok () w' ∧ OMu w' b (n + 1) (putU f x d) ∧ w.grownBy w' (some b) := by
 obtain ⟨D, h1, h2⟩ := h
 obtain ⟨w', r1, r2, r3⟩ := h1.update (t := 95) lawM Tryd.underlying95 (by unfold maxLen; omega) (keyOf_int_mk Tryd.underlying3 (wfM hx)) (plainElem_int Tryd.underlying28 (wfU hd))
 exact ⟨w', r1, ⟨_, r2, h2.put x d⟩, r3⟩
theorem vM_inj {a : Nat} {c : Int} (h : (DataW.lit (vM a) : DataW Unit) = .lit (.int .u64 c)) : (a : Int) = c := by
 unfold vM at h
 injection h with h
 injection h
theorem vM_zero : (DataW.lit (vM 0) : DataW Unit) = .lit (.int .u64 0) := rfl
theorem OMu.look {w : World} {b n : Nat} {f : Int → Option Nat} (h : OMu w b n f) {x : Int} (hx : I64 x) :
  (Instr.lookup 95 (.map (some b)) (.int .i64 x) false).run Tryd.prog w = .ok (.int .u64 (((f x).getD 0 : Nat) : Int)) w ∧ (Instr.lookup 95 (.map (some b)) (.int .i64 x) true).run Tryd.prog w = .ok (.tuple #[.int .u64 (((f x).getD 0 : Nat) : Int), .bool (f x).isSome]) w := by
 obtain ⟨D, h1, h2⟩ := h
 have hk := keyOf_int_mk Tryd.underlying3 (wfM hx)
 have ha := h2.at1_ x
 constructor
 ·obtain ⟨c, hrun, hat, -⟩ := h1.lookup_int (t := 95) lawM Tryd.underlying95 Tryd.underlying28 (zeroU _) hk
  rw [vM_zero, show kM x = .int .i64 x from rfl, hat] at ha
  rw [hrun, vM_inj ha.symm]
 ·obtain ⟨v, ps, hrun, hv⟩ := h1.look_ok (t := 95) lawM Tryd.underlying95 (zeroU _) (plainElem_int Tryd.underlying28 (q := .u64) (a := 0) (by decide)) hk
  obtain ⟨c, rfl, hc, -⟩ := plainElem_int_inv Tryd.underlying28 hv
  have hc1 := congrArg Prod.fst hc
  simp only at hc1
  rw [vM_zero, show kM x = .int .i64 x from rfl, hc1] at ha
  rw [hrun, ← vM_inj ha.symm, ← h2.hs x]
  rfl
theorem OMu.keys {w : World} {b n : Nat} {f : Int → Option Nat} {D : DataW Unit} (h1 : w.ownsMap Tryd.prog 3 (plainElem Tryd.prog 28) b n D) (h2 : MU D f) {ss : List Int} (hp : ss.Perm (intKeys D)) : ss.Nodup ∧ ∀ x, x ∈ ss ↔ (f x).isSome = true := by
 obtain ⟨es, hD, hpw, _⟩ := h1.entries lawM
 obtain ⟨es', hD', hko⟩ := h1.keysOf
 obtain rfl : es = es' := by rw [hD] at hD'; simpa using hD'
 subst hD
 have hk : ∀ p ∈ es, ∃ x, p.1 = .int .i64 x := fun p hp => by
  obtain ⟨v, hv⟩ := hko p hp
  obtain ⟨x, _, hx, _⟩ := Maps.keyOf_i64 Tryd.underlying3 hv
  exact ⟨x, hx⟩
 have hnd : (intKeys (.map es)).Nodup := by
  show (es.map fun p => Go.intOf p.1).Nodup
  refine List.pairwise_map.2 (hpw.imp_of_mem fun {p q} hp' hq' hne e => hne ?_)
  obtain ⟨a, ha⟩ := hk p hp'
  obtain ⟨b, hb⟩ := hk q hq'
  rw [ha, hb] at e ⊢
  exact congrArg _ e
 refine ⟨(hp.nodup_iff).2 hnd, fun x => ?_⟩
 rw [hp.mem_iff, ← h2.hs x, has_eq, List.any_eq_true]
 show x ∈ es.map (fun p => Go.intOf p.1) ↔ _
 rw [List.mem_map]
 constructor
 ·rintro ⟨p, hp', rfl⟩
  obtain ⟨a, ha⟩ := hk p hp'
  exact ⟨p, hp', by rw [ha]; simp [Lit.sameKey, Go.intOf, kM]⟩
 ·rintro ⟨p, hp', hs⟩
  obtain ⟨a, ha⟩ := hk p hp'
  rw [ha] at hs
  exact ⟨p, hp', by rw [ha]; simpa [Lit.sameKey, Go.intOf, kM] using hs⟩
end Go.Proofs.YtpogblengagpaaaDoor

/- masks: the mathematics. -/
namespace Go.Proofs.YtpogblengagpaaaDoor
set_option maxRecDepth 100000
open Go.RowKit Go.Maps Bs
theorem any_memT {α : Type} {p : α → Bool} {l : List α} (h : l.any p = false) {x : α} (hx : x ∈ l) : p x = false := by
 have := List.any_eq_false.1 h x hx
 simpa using this
def nxI (X : List Int) (k : Nat) : Int := if X.length = 0 then 0 else X.getD (k % X.length) 0
def colS (n set : Int) (k : Nat) (f : Int → Option Nat) (x : Rw) : Int → Option Nat :=
 if plS x.id n = set ∧ nxI x.nx k ≠ 0 then putU f (nxI x.nx k) ((f (nxI x.nx k)).getD 0 ||| b2 (plB x.id n).toNat) else f
def colL (n set : Int) (k : Nat) (L : List Rw) : Int → Option Nat := L.foldl (colS n set k) (fun _ => none)
def coF (r s n : Int) (L : List Rw) (pl set : Int) : Int → Option Nat := if (0 ≤ pl ∧ pl < 8) ∧ ckT r s n L = 0 then colL n set pl.toNat L else fun _ => none
theorem colL_take {n set : Int} {k i : Nat} {L : List Rw} {x : Rw} (hx : L[i]? = some x) : colL n set k (L.take (i + 1)) = colS n set k (colL n set k (L.take i)) x := by
 unfold colL
 rw [List.take_add_one, hx, List.foldl_append]; rfl
theorem plB_lt64 (id len : Int) : (plB id len).toNat < 64 := by
 unfold plB
 split
 ·rename_i h
  obtain ⟨hl, h1, h2⟩ := pl_fields h
  rcases hl with rfl | rfl | rfl | rfl <;> omega
 ·decide
structure ColOk (f : Int → Option Nat) : Prop where
 u : ∀ x d, f x = some d → U64 d ∧ 1 ≤ x ∧ x ≤ 99
theorem ColOk.nil : ColOk (fun _ => none) := ⟨fun x d h => by cases h⟩
theorem ColOk.getD {f : Int → Option Nat} (h : ColOk f) (x : Int) : U64 ((f x).getD 0) := by
 cases hf : f x with
 | none => exact u64_mk (by decide)
 | some d => exact (h.u x d hf).1
theorem ColOk.put {f : Int → Option Nat} (h : ColOk f) {x : Int} {d : Nat} (hd : U64 d) (hx : 1 ≤ x ∧ x ≤ 99) : ColOk (putU f x d) := by
 refine ⟨fun y e he => ?_⟩
 by_cases hy : y = x
 ·subst hy
  rw [putU_same] at he
  obtain rfl := Option.some.inj he
  exact ⟨hd, hx⟩
 ·rw [putU_other f x d hy] at he
  exact h.u y e he
theorem ColOk.step {f : Int → Option Nat} (h : ColOk f) {n set : Int} {k : Nat} {x : Rw} (hx : nxI x.nx k ≠ 0 → 1 ≤ nxI x.nx k ∧ nxI x.nx k ≤ 99) : ColOk (colS n set k f x) := by
 unfold colS
 split
 ·rename_i hc
  exact h.put (Nat.or_lt_two_pow (n := 64) (h.getD _) (b2_u64 (plB_lt64 _ _))) (hx hc.2)
 ·exact h
theorem nxI_at {X : List Int} {k : Nat} (h : X.length ≠ 0) : X[k % X.length]? = some (nxI X k) := by
 have hlt : k % X.length < X.length := Nat.mod_lt _ (by omega)
 unfold nxI
 rw [if_neg h, List.getD_eq_getElem?_getD, List.getElem?_eq_getElem hlt]; rfl
theorem nxI_mem {X : List Int} {k : Nat} (h : nxI X k ≠ 0) : nxI X k ∈ X := by
 by_cases h0 : X.length = 0
 ·exact absurd (by unfold nxI; rw [if_pos h0]) h
 ·exact List.mem_of_getElem? (nxI_at h0)
theorem nx_in {x : Rw} {k : Nat} (h : wrW x = false) (h0 : nxI x.nx k ≠ 0) : 1 ≤ nxI x.nx k ∧ nxI x.nx k ≤ 99 := by
 unfold wrW at h
 rw [Bool.or_eq_false_iff] at h
 have h2 := List.any_eq_false.1 h.2 _ (nxI_mem h0)
 unfold inV at h2
 simp only [Bool.not_eq_true, Bool.not_eq_false', decide_eq_true_eq] at h2
 exact h2
theorem colL_ok {n set : Int} {k : Nat} {L : List Rw} (h : L.any wrW = false) : ∀ i, ColOk (colL n set k (L.take i))
 | 0 => by rw [List.take_zero]; exact ColOk.nil
 | i + 1 => by
  cases hx : L[i]? with
  | none =>
   have e : L.take (i + 1) = L.take i := by rw [List.take_add_one, hx]; simp
   rw [e]; exact colL_ok h i
  | some x =>
   rw [colL_take hx]
   exact (colL_ok h i).step (fun h0 => nx_in (any_memT h (List.mem_of_getElem? hx)) h0)
theorem coF_ok (r s n : Int) (L : List Rw) (pl set : Int) : ColOk (coF r s n L pl set) := by
 unfold coF
 split
 ·rename_i h
  have := colL_ok (n := n) (set := set) (k := pl.toNat) (ck_ok h.2).2.1 L.length
  rwa [List.take_length] at this
 ·exact ColOk.nil
theorem colL_bit {n set : Int} {k : Nat} : ∀ (L : List Rw) (u : Int) (j : Nat), (((colL n set k L) u).getD 0).testBit j = true ↔ ∃ x ∈ L, plS x.id n = set ∧ nxI x.nx k = u ∧ u ≠ 0 ∧ (plB x.id n).toNat = j := by
 suffices h : ∀ (L : List Rw) (f : Int → Option Nat) (u : Int) (j : Nat), (((L.foldl (colS n set k) f) u).getD 0).testBit j = true ↔ (((f u).getD 0).testBit j = true ∨ ∃ x ∈ L, plS x.id n = set ∧ nxI x.nx k = u ∧ u ≠ 0 ∧ (plB x.id n).toNat = j) by
  intro L u j
  refine (h L (fun _ => none) u j).trans ?_
  simp
 intro L
 induction L with
 | nil => intro f u j; simp
 | cons x t ih =>
  intro f u j
  rw [List.foldl_cons, ih]
  have hstep : ((colS n set k f x u).getD 0).testBit j = true ↔ (((f u).getD 0).testBit j = true ∨ (plS x.id n = set ∧ nxI x.nx k = u ∧ u ≠ 0 ∧ (plB x.id n).toNat = j)) := by
   unfold colS
   split
   ·rename_i hc
    by_cases hu : u = nxI x.nx k
    ·subst hu
     rw [putU_same, Option.getD_some, Nat.testBit_or]
     unfold b2
     rw [Nat.testBit_two_pow]
     simp only [Bool.or_eq_true, decide_eq_true_eq]
     constructor
     ·rintro (h | h)
      ·exact Or.inl h
      ·exact Or.inr ⟨hc.1, by first | rfl | trivial, hc.2, h⟩
     ·rintro (h | h)
      ·exact Or.inl h
      ·exact Or.inr h.2.2.2
    ·rw [putU_other _ _ _ hu]
     constructor
     ·exact Or.inl
     ·rintro (h | h)
      ·exact h
      ·exact absurd h.2.1.symm hu
   ·rename_i hc
    constructor
    ·exact Or.inl
    ·rintro (h | h)
     ·exact h
     ·exact absurd ⟨h.1, by rw [h.2.1]; exact h.2.2.1⟩ hc
  rw [hstep]
  constructor
  ·rintro ((h | h) | ⟨y, hy, h⟩)
   ·exact Or.inl h
   ·exact Or.inr ⟨x, List.mem_cons_self .., h⟩
   ·exact Or.inr ⟨y, List.mem_cons_of_mem _ hy, h⟩
  ·rintro (h | ⟨y, hy, h⟩)
   ·exact Or.inl (Or.inl h)
   ·rcases List.mem_cons.1 hy with rfl | hy
    ·exact Or.inl (Or.inr h)
    ·exact Or.inr ⟨y, hy, h⟩
end Go.Proofs.YtpogblengagpaaaDoor

/- Parts of the proof, packed: ToFuns, ToSeek, ToRow, ToJoin, ToCheck, ToNear, ToHop. -/
import Derived.Test.YtahafijpcmphaaaGreatQt1
import Derived.Shelf.Abstract
import Derived.Deep.CutRange
import Derived.Deep.RegionHeld3
import Derived.Deep.QuietTactic
import Derived.BigQuiet
import Derived.IntWalk
import Derived.Lib.SmallJoins
/- topology: lists that are searched by functions; what is ascending. -/
namespace Go.Proofs.YtahafijpcmphaaaGreat
set_option maxRecDepth 100000
open Go.RowKit Bs
def orV : List Int → Int
 | [] => 0
 | x :: r => if x = 0 then orV r else x
theorem orV_take {r : List Int} {k : Nat} {y : Int} (h : orV (r.take k) = 0) (hy : r[k]? = some y) : orV (r.take (k + 1)) = y := by
 induction r generalizing k with
 | nil => simp at hy
 | cons x r ih =>
  cases k with
  | zero =>
   obtain rfl : x = y := by simpa using hy
   show (if x = 0 then orV (r.take 0) else x) = x
   split
   ·rename_i e; rw [e]; rfl
   ·rfl
  | succ k =>
   rw [List.take_succ_cons, orV] at h
   rw [List.take_succ_cons, orV]
   by_cases e : x = 0
   ·rw [if_pos e] at h ⊢
    exact ih h (by simpa using hy)
   ·rw [if_neg e] at h
    exact absurd h e
theorem orV_pre {r : List Int} {k : Nat} (h : orV (r.take k) ≠ 0) : orV r = orV (r.take k) := by
 induction r generalizing k with
 | nil => simp
 | cons x r ih =>
  cases k with
  | zero => exact absurd rfl h
  | succ k =>
   rw [List.take_succ_cons, orV] at h ⊢
   rw [orV]
   by_cases e : x = 0
   ·rw [if_pos e] at h ⊢
    rw [if_pos e]
    exact ih h
   ·rw [if_neg e]
    rw [if_neg e]
theorem rdi_at {w : World} {q : Nat → Prop} {p : Option Addr} {n c : Nat} {r : List Int} (h : Rd w q (.slice p n c) (r.map (fun z => Value.int .i64 z))) (hn : 0 < r.length) :
  n = r.length ∧ ∃ b off, p = some ⟨b, off, none⟩ ∧ q b ∧ ∀ i x, r[i]? = some x → w.cell? ⟨b, off + i, none⟩ = some (.int .i64 x) := by
 obtain ⟨p1, c1, e1, hx⟩ := h
 injection e1 with a1 a2 a3
 subst a1
 obtain ⟨b, off, hp, hq, hc⟩ := hx (by intro e; have := congrArg List.length e; simp only [List.length_map, List.length_nil] at this; omega)
 refine ⟨by rw [a2, List.length_map], b, off, hp, hq, fun i x hi => hc i _ ?_⟩
 rw [List.getElem?_map, hi]; rfl
set_option maxHeartbeats 1600000 in
theorem tor_any (r : List Int) (p : Option Addr) (c : Nat) (q : Nat → Prop) (w : World) (hR : Rd w q (.slice p r.length c) (r.map (fun z => Value.int .i64 z))) (hm : r.length ≤ 9223372036854775807) :
  Calls Tryz.prog 165 #[.slice p r.length c] w fun e w' => e = .returned (.int .i64 (orV r)) ∧ w' = w := by
 have HR := Lib.hid hR
 clear hR
 go_enter Tryz.func165, Tryz.ntmps165
 go_wp2_with fail
 go_loopw [8] (fun a wr => ∃ k : Nat, k ≤ r.length ∧ a = .int .i64 (k : Int) ∧ wr = w ∧ Hid (orV (r.take k) = 0)) (fun a _ => r.length - (RowKit.intOf a).toNat)
 case atStart => exact ⟨0, Nat.zero_le _, rfl, rfl, Lib.hid rfl⟩
 case round =>
  obtain ⟨k, hk, rfl, rfl, H0⟩ := hrel
  by_cases hlt : k < r.length
  ·obtain ⟨-, b, off, rfl, hq, hc⟩ := rdi_at HR.out (by omega)
   obtain ⟨y, hy⟩ : ∃ y, r[k]? = some y := ⟨_, List.getElem?_eq_getElem hlt⟩
   have c0 := hc k y hy
   have HY := Lib.hid hy
   clear hc hy
   by_cases e : y = 0
   ·have HE := Lib.hid e
    subst e
    go_wp2_with fail
    exact ⟨⟨k + 1, by omega, congrArg _ (by omega), trivial, Lib.hid (orV_take H0.out HY.out)⟩, by simp only [RowKit.intOf]; omega⟩
   ·have e' : (y != 0) = true := by simpa using e
    go_wp2_with fail
    go_ret
    refine ⟨?_, rfl⟩
    have h1 := orV_take H0.out HY.out
    have h2 := orV_pre (r := r) (k := k + 1) (by rw [h1]; exact e)
    rw [h2, h1]; rfl
  ·obtain rfl : k = r.length := by omega
   go_wp2_with fail
   go_ret
   have := H0.out
   rw [List.take_length] at this
   rw [this]
   exact ⟨rfl, rfl⟩
def cmpL (l m : Lk) : Int := orV [cmpV l.a m.a, cmpV l.b m.b]
theorem cmpL_ge {l m : Lk} : (0 ≤ cmpL l m) ↔ ltL l m = false := by
 unfold cmpL ltL orV orV orV cmpV
 rw [decide_eq_false_iff_not]
 repeat' split
 all_goals omega
theorem keep4 {w5 w' : World} {b g : Nat} {l m : Lk} (h : w5.heap[b]? = some (.cells #[.int .i64 l.a, .int .i64 l.b, .int .i64 l.ca, .int .i64 l.cb, .int .i64 l.cp] 94 (0, 0)) ∧ w5.heap[g]? = some (.cells #[.int .i64 m.a, .int .i64 m.b, .int .i64 m.ca, .int .i64 m.cb, .int .i64 m.cp] 94 (0, 0))) (hg : Hid (w5.grownBy w' none)) :
  w'.cell? ⟨b, 0, none⟩ = some (.int .i64 l.a) ∧ w'.cell? ⟨b, 1, none⟩ = some (.int .i64 l.b) ∧ w'.cell? ⟨g, 0, none⟩ = some (.int .i64 m.a) ∧ w'.cell? ⟨g, 1, none⟩ = some (.int .i64 m.b) ∧ Hid (w5.grownBy w' none) := by
 obtain ⟨a0, a1, -, -, -⟩ := lk_facts (kept_row h.1 hg.out (by simp))
 obtain ⟨b0, b1, -, -, -⟩ := lk_facts (kept_row h.2 hg.out (by simp))
 exact ⟨a0, a1, b0, b1, hg⟩
theorem rd_pair (w : World) (x y : Int) (q : Nat → Prop) (hq : q w.heap.size) : Rd (w.alloc (.cells #[.int .i64 x, .int .i64 y] 3)) q (.slice (some ⟨w.heap.size, 0, none⟩) 2 2) ([x, y].map (fun z => Value.int .i64 z)) := by
 have hb : (w.alloc (.cells #[.int .i64 x, .int .i64 y] 3)).heap[w.heap.size]? = some (.cells #[.int .i64 x, .int .i64 y] 3 (0, 0)) := heap_alloc_new w _
 refine ⟨_, 2, rfl, fun _ => ⟨_, _, rfl, hq, fun i u hi => ?_⟩⟩
 rw [Nat.zero_add, cell_of_row _ _ _ _ _ _ hb]
 simpa using hi
set_option maxHeartbeats 3200000 in
theorem tcmpl_any (l m : Lk) (w : World) :
  Calls Tryz.prog 144 #[.agg #[.int .i64 l.a, .int .i64 l.b, .int .i64 l.ca, .int .i64 l.cb, .int .i64 l.cp], .agg #[.int .i64 m.a, .int .i64 m.b, .int .i64 m.ca, .int .i64 m.cb, .int .i64 m.cp]] w fun e w' => e = .returned (.int .i64 (cmpL l m)) ∧ w.grownBy w' none := by
 obtain ⟨k1, k2, k3, k4⟩ := two_boxes w #[.int .i64 l.a, .int .i64 l.b, .int .i64 l.ca, .int .i64 l.cb, .int .i64 l.cp] #[.int .i64 m.a, .int .i64 m.b, .int .i64 m.ca, .int .i64 m.cb, .int .i64 m.cp] 94 94
 have HB := Lib.hid (And.intro k1 k2)
 have K := Lib.hid k3
 clear k1 k2 k3 k4
 go_enter Tryz.func144, Tryz.ntmps144
 go_upto_region 1 with fail
 generalize (w.alloc _).alloc _ = wa at *
 have GZ : Hid (wa.grownBy wa none) := Lib.hid (grown_refl _ _)
 obtain ⟨a0, a1, b0, b1, -⟩ := keep4 HB.out GZ
 go_region_held3 (fun w' => w'.cell? ⟨w.heap.size, 0, none⟩ = some (.int .i64 l.a) ∧ w'.cell? ⟨w.heap.size, 1, none⟩ = some (.int .i64 l.b) ∧ w'.cell? ⟨w.heap.size + 1, 0, none⟩ = some (.int .i64 m.a) ∧ w'.cell? ⟨w.heap.size + 1, 1, none⟩ = some (.int .i64 m.b) ∧ Hid (wa.grownBy w' none))
  (first | with_reducible exact keep4 HB.out (hid_drew GZ) | with_reducible exact keep4 HB.out (hid_drew (hid_more GZ (World.grownBy_alloc _ _ _))) | (go_split_ands; with_reducible refine keep4 HB.out ?_; with_reducible assumption) | (go_split_ands; with_reducible refine keep4 HB.out (hid_more ?_ (World.grownBy_alloc _ _ _)); with_reducible assumption))
  (first
   | (go_at_call 155; refine (tcmp_any _ _ _).mono ?_; rintro e w' ⟨rfl, rfl⟩)
   | (go_at_call 165; refine (tor_any [cmpV l.a m.a, cmpV l.b m.b] _ _ (fun _ => True) _ ?_ (by simp)).mono ?_; exact (rd_pair _ _ _ _ trivial).keep (grown_drew (grown_refl _ _)); rintro e w' ⟨rfl, rfl⟩))
 all_goals
  go_split_ands
  go_wp2_with fail
  go_ret
  exact ⟨rfl, grown_trans K.out (Hid.out (by assumption))⟩
end Go.Proofs.YtahafijpcmphaaaGreat

/- topology: IndexFunc, ContainsFunc and ascending at routers and at links. -/
namespace Go.Proofs.YtahafijpcmphaaaGreat
set_option maxRecDepth 100000
open Go.RowKit Bs
abbrev EnterF (g : Nat) : Prop := ∀ (args : Array Value) (w : World), (callFunc g args).run Tryz.prog w = .ok (.enter g args) w

set_option maxHeartbeats 1600000 in
theorem tidxR_any (g : Nat) (lb : Array Value) (P : Rt → Bool) (eg : EnterF g) (R : List Rt) (p : Option Addr) (c : Nat) (q : Nat → Prop) (w : World) (hR : RdR w q (.slice p R.length c) R) (hm : R.length ≤ 9223372036854775807)
  (hP : ∀ (r : Rt) (w' : World), w.grownBy w' none → Calls Tryz.prog g (#[.agg #[.int .i64 r.id, .bool r.cap]] ++ lb) w' fun e w2 => e = .returned (.bool (P r)) ∧ w'.grownBy w2 none) :
  Calls Tryz.prog 162 #[.slice p R.length c, .func (.func g) #[] lb] w fun e w' => ∃ i : Int, e = .returned (.int .i64 i) ∧ decide (0 ≤ i) = R.any P ∧ w.grownBy w' none := by
 have HR := Lib.hid hR
 have HP := Lib.hid hP
 clear hR hP
 go_enter Tryz.func162, Tryz.ntmps162
 go_wp2_with fail
 go_loopw [8] (fun a wr => ∃ k : Nat, k ≤ R.length ∧ a = .int .i64 (k : Int) ∧ Hid (w.grownBy wr none) ∧ Hid ((R.take k).any P = false)) (fun a _ => R.length - (RowKit.intOf a).toNat)
 case atStart => exact ⟨0, Nat.zero_le _, rfl, Lib.hid (grown_refl _ _), Lib.hid rfl⟩
 case round =>
  obtain ⟨k, hk, rfl, G, HN⟩ := hrel
  by_cases hlt : k < R.length
  ·obtain ⟨-, b, off, rfl, hq, hc⟩ := rdr_cells (HR.out.keep G.out) (by omega)
   obtain ⟨x, hx⟩ : ∃ x, R[k]? = some x := ⟨_, List.getElem?_eq_getElem hlt⟩
   obtain ⟨a0, a1⟩ := hc k x hx
   have HX := Lib.hid hx
   clear hc hx
   have hcall := HP.out x wr G.out
   cases hp : P x
   ·rw [hp] at hcall
    have HY := Lib.hid hp
    clear hp
    go_wp2_with (go_at_fn g; refine hcall.mono ?_; rintro e w' ⟨rfl, hg⟩; have HG := Lib.hid (grown_trans G.out hg); clear hg)
    exact ⟨⟨k + 1, by omega, congrArg _ (by omega), HG, Lib.hid (any_take HN.out HX.out HY.out)⟩, by simp only [RowKit.intOf]; omega⟩
   ·rw [hp] at hcall
    have HY := Lib.hid hp
    clear hp
    go_wp2_with (go_at_fn g; refine hcall.mono ?_; rintro e w' ⟨rfl, hg⟩; have HG := Lib.hid (grown_trans G.out hg); clear hg)
    go_ret
    refine ⟨_, rfl, ?_, HG.out⟩
    rw [any_at HX.out HY.out, decide_eq_true_eq]; omega
  ·obtain rfl : k = R.length := by omega
   go_wp2_with fail
   go_ret
   refine ⟨_, rfl, ?_, G.out⟩
   rw [any_end HN.out (Nat.le_refl _)]; decide
set_option maxHeartbeats 1600000 in
theorem tcontR_any (g : Nat) (lb : Array Value) (P : Rt → Bool) (eg : EnterF g) (R : List Rt) (p : Option Addr) (c : Nat) (q : Nat → Prop) (w : World) (hR : RdR w q (.slice p R.length c) R) (hm : R.length ≤ 9223372036854775807)
  (hP : ∀ (r : Rt) (w' : World), w.grownBy w' none → Calls Tryz.prog g (#[.agg #[.int .i64 r.id, .bool r.cap]] ++ lb) w' fun e w2 => e = .returned (.bool (P r)) ∧ w'.grownBy w2 none) :
  Calls Tryz.prog 136 #[.slice p R.length c, .func (.func g) #[] lb] w fun e w' => e = .returned (.bool (R.any P)) ∧ w.grownBy w' none := by
 have HR := Lib.hid hR
 have HP := Lib.hid hP
 clear hR hP
 go_enter Tryz.func136, Tryz.ntmps136
 go_wp2_with (go_at_call 162; refine (tidxR_any g lb P eg R p c q w HR.out hm HP.out).mono ?_; rintro e w' ⟨i, rfl, hi, hg⟩; have HI := Lib.hid (And.intro hi hg); clear hi hg)
 go_ret
 rw [← HI.out.1]
 exact ⟨rfl, HI.out.2⟩
theorem ascR_end {R : List Rt} (h : ∀ i x y, i + 1 < R.length → R[i]? = some x → R[i + 1]? = some y → ltR x y = true) : ascB ltR R = true :=
 (ascB_iff _ _).2 fun i x y hx hy => h i x y ((List.getElem?_eq_some_iff.1 hy).1) hx hy
theorem ascR_hit {R : List Rt} {i : Nat} {x y : Rt} (hx : R[i]? = some x) (hy : R[i + 1]? = some y) (h : ltR x y = false) : ascB ltR R = false := by
 rw [Bool.eq_false_iff]
 intro h2
 have := (ascB_iff _ _).1 h2 i x y hx hy
 rw [h] at this; cases this
theorem ltR_of_ge {x y : Rt} (h : 0 ≤ cmpV x.id y.id) : ltR x y = false := by
 exact (by have := cmpV_ge.1 h; unfold ltR; rw [decide_eq_false_iff_not]; omega)
theorem ltR_of_lt {x y : Rt} (h : ¬ 0 ≤ cmpV x.id y.id) : ltR x y = true := by
 exact (by have : ¬ y.id ≤ x.id := fun e => h (cmpV_ge.2 e); unfold ltR; rw [decide_eq_true_eq]; omega)
theorem keepAR {wr w' : World} {b i j : Nat} {x y : Rt} (h : wr.cell? ⟨b, i, none⟩ = some (.int .i64 x.id) ∧ wr.cell? ⟨b, i + 1, none⟩ = some (.bool x.cap) ∧ wr.cell? ⟨b, j, none⟩ = some (.int .i64 y.id) ∧ wr.cell? ⟨b, j + 1, none⟩ = some (.bool y.cap)) (hg : Hid (wr.grownBy w' none)) : w'.cell? ⟨b, i, none⟩ = some (.int .i64 x.id) ∧ w'.cell? ⟨b, i + 1, none⟩ = some (.bool x.cap) ∧ w'.cell? ⟨b, j, none⟩ = some (.int .i64 y.id) ∧ w'.cell? ⟨b, j + 1, none⟩ = some (.bool y.cap) ∧ Hid (wr.grownBy w' none) := by
 obtain ⟨h0, h1, h2, h3⟩ := h
 exact ⟨hg.out.cell h0 (by simp), hg.out.cell h1 (by simp), hg.out.cell h2 (by simp), hg.out.cell h3 (by simp), hg⟩
set_option maxHeartbeats 3200000 in
theorem tascR_any (R : List Rt) (p : Option Addr) (c : Nat) (q : Nat → Prop) (w : World) (hR : RdR w q (.slice p R.length c) R) (hm : R.length ≤ 9223372036854775807) :
  Calls Tryz.prog 138 #[.slice p R.length c, .func (.func 124) #[] #[]] w fun e w' => e = .returned (.bool (ascB ltR R)) ∧ w.grownBy w' none := by
 have eg : EnterF 124 := enters_of Tryz.func124 (by kernel_rfl) rfl
 have HR := Lib.hid hR
 clear hR
 go_enter Tryz.func138, Tryz.ntmps138
 go_wp2_with fail
 go_loopw [5] (fun a wr => ∃ k : Nat, 1 ≤ k ∧ (k ≤ R.length ∨ k = 1) ∧ a = .int .i64 (k : Int) ∧ Hid (w.grownBy wr none) ∧ Hid (∀ i x y, i + 1 < k → R[i]? = some x → R[i + 1]? = some y → ltR x y = true)) (fun a _ => R.length - (RowKit.intOf a).toNat)
 case atStart => exact ⟨1, by omega, Or.inr rfl, rfl, Lib.hid (grown_refl _ _), Lib.hid (fun i x y h => by omega)⟩
 case round =>
  obtain ⟨k, hk1, hk, rfl, G, HN⟩ := hrel
  by_cases hlt : k < R.length
  ·obtain ⟨j, rfl⟩ : ∃ j, k = j + 1 := ⟨k - 1, by omega⟩
   obtain ⟨-, b, off, rfl, hq, hc⟩ := rdr_cells (HR.out.keep G.out) (by omega)
   obtain ⟨x, hx⟩ : ∃ x, R[j]? = some x := ⟨_, List.getElem?_eq_getElem (by omega)⟩
   obtain ⟨y, hy⟩ : ∃ y, R[j + 1]? = some y := ⟨_, List.getElem?_eq_getElem hlt⟩
   obtain ⟨a0, a1⟩ := hc j x hx
   obtain ⟨b0, b1⟩ := hc (j + 1) y hy
   have HXY := Lib.hid (And.intro hx hy)
   have ew1 : ((j : Int) + 1 - 1) = (j : Int) := by omega
   have ew2 : IntKind.i64.wrap ((j : Int) + 1 - 1) = (j : Int) := by rw [ew1, IntWalk.i64_in _ (by omega)]
   have ew3 : IntKind.i64.wrap (j : Int) = (j : Int) := IntWalk.i64_in _ (by omega)
   have j0 : (0 : Int) ≤ (j : Int) := by omega
   have j1 : (0 : Int) ≤ (j : Int) + 1 := by omega
   have j2 : (j : Int) < (R.length : Int) := by omega
   have j3 : (j : Int) + 1 < (R.length : Int) := by omega
   have j4 : ((j : Int) + 1).toNat = j + 1 := by omega
   clear hc hx hy
   have hcast : ((j + 1 : Nat) : Int) = (j : Int) + 1 := by omega
   rw [hcast]
   have HF := Lib.hid (show wr.cell? ⟨b, off + j * 2, none⟩ = some (.int .i64 x.id) ∧ wr.cell? ⟨b, off + j * 2 + 1, none⟩ = some (.bool x.cap) ∧ wr.cell? ⟨b, off + (j + 1) * 2, none⟩ = some (.int .i64 y.id) ∧ wr.cell? ⟨b, off + (j + 1) * 2 + 1, none⟩ = some (.bool y.cap) from ⟨a0, a1, b0, b1⟩)
   have GZ : Hid (wr.grownBy wr none) := Lib.hid (grown_refl _ _)
   go_upto_region 4 with fail
   cases hlt2 : ltR x y
   ·have hge : 0 ≤ cmpV x.id y.id := by
     by_cases h : 0 ≤ cmpV x.id y.id
     ·exact h
     ·rw [ltR_of_lt h] at hlt2; cases hlt2
    have HL := Lib.hid hlt2
    clear hlt2
    go_region_held3 (fun w' => w'.cell? ⟨b, off + j * 2, none⟩ = some (.int .i64 x.id) ∧ w'.cell? ⟨b, off + j * 2 + 1, none⟩ = some (.bool x.cap) ∧ w'.cell? ⟨b, off + (j + 1) * 2, none⟩ = some (.int .i64 y.id) ∧ w'.cell? ⟨b, off + (j + 1) * 2 + 1, none⟩ = some (.bool y.cap) ∧ Hid (wr.grownBy w' none))
     (first | with_reducible exact keepAR HF.out (hid_drew GZ) | (with_reducible exact keepAR HF.out (hid_drew (hid_more GZ hg))) | (go_split_ands; with_reducible refine keepAR HF.out ?_; with_reducible assumption) | (go_split_ands; with_reducible refine keepAR HF.out (hid_more ?_ hg); with_reducible assumption))
     ((go_at_call 124; refine (tcmpid_any x y _).mono ?_; rintro e w' ⟨rfl, hg⟩))
    all_goals
     go_split_ands
     go_wp2_with fail
     go_ret
     rw [ascR_hit HXY.out.1 HXY.out.2 HL.out]
     exact ⟨rfl, grown_trans G.out (Hid.out (by assumption))⟩
   ·have hge : ¬ 0 ≤ cmpV x.id y.id := by
     intro h
     rw [ltR_of_ge h] at hlt2; cases hlt2
    have HL := Lib.hid hlt2
    clear hlt2
    go_region_held3 (fun w' => w'.cell? ⟨b, off + j * 2, none⟩ = some (.int .i64 x.id) ∧ w'.cell? ⟨b, off + j * 2 + 1, none⟩ = some (.bool x.cap) ∧ w'.cell? ⟨b, off + (j + 1) * 2, none⟩ = some (.int .i64 y.id) ∧ w'.cell? ⟨b, off + (j + 1) * 2 + 1, none⟩ = some (.bool y.cap) ∧ Hid (wr.grownBy w' none))
     (first | with_reducible exact keepAR HF.out (hid_drew GZ) | (with_reducible exact keepAR HF.out (hid_drew (hid_more GZ hg))) | (go_split_ands; with_reducible refine keepAR HF.out ?_; with_reducible assumption) | (go_split_ands; with_reducible refine keepAR HF.out (hid_more ?_ hg); with_reducible assumption))
     ((go_at_call 124; refine (tcmpid_any x y _).mono ?_; rintro e w' ⟨rfl, hg⟩))
    all_goals
     go_split_ands
     have HGW := Lib.hid (grown_trans G.out (Hid.out (by assumption)))
     go_wp2_with fail
     refine ⟨⟨j + 1 + 1, by omega, Or.inl (by omega), congrArg _ (by omega), HGW, Lib.hid fun i x2 y2 hi hx2 hy2 => ?_⟩, by simp only [RowKit.intOf]; omega⟩
     by_cases hij : i = j
     ·subst hij
      have e1 := HXY.out.1.symm.trans hx2
      have e2 := HXY.out.2.symm.trans hy2
      injection e1 with e1
      injection e2 with e2
      subst e1
      subst e2
      exact HL.out
     ·exact HN.out i x2 y2 (by omega) hx2 hy2
  ·have h1 : ¬ (k : Int) < (R.length : Int) := by omega
   go_wp2_with fail
   go_ret
   rw [ascR_end fun i x y hi hx hy => HN.out i x y (by omega) hx hy]
   exact ⟨rfl, G.out⟩

set_option maxHeartbeats 1600000 in
theorem tidxL_any (g : Nat) (lb : Array Value) (P : Lk → Bool) (eg : EnterF g) (R : List Lk) (p : Option Addr) (c : Nat) (q : Nat → Prop) (w : World) (hR : RdL5 w q (.slice p R.length c) R) (hm : R.length ≤ 9223372036854775807)
  (hP : ∀ (r : Lk) (w' : World), w.grownBy w' none → Calls Tryz.prog g (#[.agg #[.int .i64 r.a, .int .i64 r.b, .int .i64 r.ca, .int .i64 r.cb, .int .i64 r.cp]] ++ lb) w' fun e w2 => e = .returned (.bool (P r)) ∧ w'.grownBy w2 none) :
  Calls Tryz.prog 164 #[.slice p R.length c, .func (.func g) #[] lb] w fun e w' => ∃ i : Int, e = .returned (.int .i64 i) ∧ decide (0 ≤ i) = R.any P ∧ w.grownBy w' none := by
 have HR := Lib.hid hR
 have HP := Lib.hid hP
 clear hR hP
 go_enter Tryz.func164, Tryz.ntmps164
 go_wp2_with fail
 go_loopw [8] (fun a wr => ∃ k : Nat, k ≤ R.length ∧ a = .int .i64 (k : Int) ∧ Hid (w.grownBy wr none) ∧ Hid ((R.take k).any P = false)) (fun a _ => R.length - (RowKit.intOf a).toNat)
 case atStart => exact ⟨0, Nat.zero_le _, rfl, Lib.hid (grown_refl _ _), Lib.hid rfl⟩
 case round =>
  obtain ⟨k, hk, rfl, G, HN⟩ := hrel
  by_cases hlt : k < R.length
  ·obtain ⟨-, b, off, rfl, hq, hc⟩ := rdl_cells (HR.out.keep G.out) (by omega)
   obtain ⟨x, hx⟩ : ∃ x, R[k]? = some x := ⟨_, List.getElem?_eq_getElem hlt⟩
   obtain ⟨a0, a1, a2, a3, a4⟩ := hc k x hx
   have HX := Lib.hid hx
   clear hc hx
   have hcall := HP.out x wr G.out
   cases hp : P x
   ·rw [hp] at hcall
    have HY := Lib.hid hp
    clear hp
    go_wp2_with (go_at_fn g; refine hcall.mono ?_; rintro e w' ⟨rfl, hg⟩; have HG := Lib.hid (grown_trans G.out hg); clear hg)
    exact ⟨⟨k + 1, by omega, congrArg _ (by omega), HG, Lib.hid (any_take HN.out HX.out HY.out)⟩, by simp only [RowKit.intOf]; omega⟩
   ·rw [hp] at hcall
    have HY := Lib.hid hp
    clear hp
    go_wp2_with (go_at_fn g; refine hcall.mono ?_; rintro e w' ⟨rfl, hg⟩; have HG := Lib.hid (grown_trans G.out hg); clear hg)
    go_ret
    refine ⟨_, rfl, ?_, HG.out⟩
    rw [any_at HX.out HY.out, decide_eq_true_eq]; omega
  ·obtain rfl : k = R.length := by omega
   go_wp2_with fail
   go_ret
   refine ⟨_, rfl, ?_, G.out⟩
   rw [any_end HN.out (Nat.le_refl _)]; decide
set_option maxHeartbeats 1600000 in
theorem tcontL_any (g : Nat) (lb : Array Value) (P : Lk → Bool) (eg : EnterF g) (R : List Lk) (p : Option Addr) (c : Nat) (q : Nat → Prop) (w : World) (hR : RdL5 w q (.slice p R.length c) R) (hm : R.length ≤ 9223372036854775807)
  (hP : ∀ (r : Lk) (w' : World), w.grownBy w' none → Calls Tryz.prog g (#[.agg #[.int .i64 r.a, .int .i64 r.b, .int .i64 r.ca, .int .i64 r.cb, .int .i64 r.cp]] ++ lb) w' fun e w2 => e = .returned (.bool (P r)) ∧ w'.grownBy w2 none) :
  Calls Tryz.prog 139 #[.slice p R.length c, .func (.func g) #[] lb] w fun e w' => e = .returned (.bool (R.any P)) ∧ w.grownBy w' none := by
 have HR := Lib.hid hR
 have HP := Lib.hid hP
 clear hR hP
 go_enter Tryz.func139, Tryz.ntmps139
 go_wp2_with (go_at_call 164; refine (tidxL_any g lb P eg R p c q w HR.out hm HP.out).mono ?_; rintro e w' ⟨i, rfl, hi, hg⟩; have HI := Lib.hid (And.intro hi hg); clear hi hg)
 go_ret
 rw [← HI.out.1]
 exact ⟨rfl, HI.out.2⟩
theorem ascL_end {R : List Lk} (h : ∀ i x y, i + 1 < R.length → R[i]? = some x → R[i + 1]? = some y → ltL x y = true) : ascB ltL R = true :=
 (ascB_iff _ _).2 fun i x y hx hy => h i x y ((List.getElem?_eq_some_iff.1 hy).1) hx hy
theorem ascL_hit {R : List Lk} {i : Nat} {x y : Lk} (hx : R[i]? = some x) (hy : R[i + 1]? = some y) (h : ltL x y = false) : ascB ltL R = false := by
 rw [Bool.eq_false_iff]
 intro h2
 have := (ascB_iff _ _).1 h2 i x y hx hy
 rw [h] at this; cases this
theorem ltL_of_ge {x y : Lk} (h : 0 ≤ cmpL x y) : ltL x y = false := by
 exact cmpL_ge.1 h
theorem ltL_of_lt {x y : Lk} (h : ¬ 0 ≤ cmpL x y) : ltL x y = true := by
 exact (by have : ¬ ltL x y = false := fun e => h (cmpL_ge.2 e); simpa using this)
theorem keepAL {wr w' : World} {b i j : Nat} {x y : Lk} (h : wr.cell? ⟨b, i, none⟩ = some (.int .i64 x.a) ∧ wr.cell? ⟨b, i + 1, none⟩ = some (.int .i64 x.b) ∧ wr.cell? ⟨b, i + 2, none⟩ = some (.int .i64 x.ca) ∧ wr.cell? ⟨b, i + 3, none⟩ = some (.int .i64 x.cb) ∧ wr.cell? ⟨b, i + 4, none⟩ = some (.int .i64 x.cp) ∧ wr.cell? ⟨b, j, none⟩ = some (.int .i64 y.a) ∧ wr.cell? ⟨b, j + 1, none⟩ = some (.int .i64 y.b) ∧ wr.cell? ⟨b, j + 2, none⟩ = some (.int .i64 y.ca) ∧ wr.cell? ⟨b, j + 3, none⟩ = some (.int .i64 y.cb) ∧ wr.cell? ⟨b, j + 4, none⟩ = some (.int .i64 y.cp)) (hg : Hid (wr.grownBy w' none)) : w'.cell? ⟨b, i, none⟩ = some (.int .i64 x.a) ∧ w'.cell? ⟨b, i + 1, none⟩ = some (.int .i64 x.b) ∧ w'.cell? ⟨b, i + 2, none⟩ = some (.int .i64 x.ca) ∧ w'.cell? ⟨b, i + 3, none⟩ = some (.int .i64 x.cb) ∧ w'.cell? ⟨b, i + 4, none⟩ = some (.int .i64 x.cp) ∧ w'.cell? ⟨b, j, none⟩ = some (.int .i64 y.a) ∧ w'.cell? ⟨b, j + 1, none⟩ = some (.int .i64 y.b) ∧ w'.cell? ⟨b, j + 2, none⟩ = some (.int .i64 y.ca) ∧ w'.cell? ⟨b, j + 3, none⟩ = some (.int .i64 y.cb) ∧ w'.cell? ⟨b, j + 4, none⟩ = some (.int .i64 y.cp) ∧ Hid (wr.grownBy w' none) := by
 obtain ⟨h0, h1, h2, h3, h4, h5, h6, h7, h8, h9⟩ := h
 exact ⟨hg.out.cell h0 (by simp), hg.out.cell h1 (by simp), hg.out.cell h2 (by simp), hg.out.cell h3 (by simp), hg.out.cell h4 (by simp), hg.out.cell h5 (by simp), hg.out.cell h6 (by simp), hg.out.cell h7 (by simp), hg.out.cell h8 (by simp), hg.out.cell h9 (by simp), hg⟩
set_option maxHeartbeats 3200000 in
theorem tascL_any (R : List Lk) (p : Option Addr) (c : Nat) (q : Nat → Prop) (w : World) (hR : RdL5 w q (.slice p R.length c) R) (hm : R.length ≤ 9223372036854775807) :
  Calls Tryz.prog 143 #[.slice p R.length c, .func (.func 144) #[] #[]] w fun e w' => e = .returned (.bool (ascB ltL R)) ∧ w.grownBy w' none := by
 have eg : EnterF 144 := enters_of Tryz.func144 (by kernel_rfl) rfl
 have HR := Lib.hid hR
 clear hR
 go_enter Tryz.func143, Tryz.ntmps143
 go_wp2_with fail
 go_loopw [5] (fun a wr => ∃ k : Nat, 1 ≤ k ∧ (k ≤ R.length ∨ k = 1) ∧ a = .int .i64 (k : Int) ∧ Hid (w.grownBy wr none) ∧ Hid (∀ i x y, i + 1 < k → R[i]? = some x → R[i + 1]? = some y → ltL x y = true)) (fun a _ => R.length - (RowKit.intOf a).toNat)
 case atStart => exact ⟨1, by omega, Or.inr rfl, rfl, Lib.hid (grown_refl _ _), Lib.hid (fun i x y h => by omega)⟩
 case round =>
  obtain ⟨k, hk1, hk, rfl, G, HN⟩ := hrel
  by_cases hlt : k < R.length
  ·obtain ⟨j, rfl⟩ : ∃ j, k = j + 1 := ⟨k - 1, by omega⟩
   obtain ⟨-, b, off, rfl, hq, hc⟩ := rdl_cells (HR.out.keep G.out) (by omega)
   obtain ⟨x, hx⟩ : ∃ x, R[j]? = some x := ⟨_, List.getElem?_eq_getElem (by omega)⟩
   obtain ⟨y, hy⟩ : ∃ y, R[j + 1]? = some y := ⟨_, List.getElem?_eq_getElem hlt⟩
   obtain ⟨a0, a1, a2, a3, a4⟩ := hc j x hx
   obtain ⟨b0, b1, b2, b3, b4⟩ := hc (j + 1) y hy
   have HXY := Lib.hid (And.intro hx hy)
   have ew1 : ((j : Int) + 1 - 1) = (j : Int) := by omega
   have ew2 : IntKind.i64.wrap ((j : Int) + 1 - 1) = (j : Int) := by rw [ew1, IntWalk.i64_in _ (by omega)]
   have ew3 : IntKind.i64.wrap (j : Int) = (j : Int) := IntWalk.i64_in _ (by omega)
   have j0 : (0 : Int) ≤ (j : Int) := by omega
   have j1 : (0 : Int) ≤ (j : Int) + 1 := by omega
   have j2 : (j : Int) < (R.length : Int) := by omega
   have j3 : (j : Int) + 1 < (R.length : Int) := by omega
   have j4 : ((j : Int) + 1).toNat = j + 1 := by omega
   clear hc hx hy
   have hcast : ((j + 1 : Nat) : Int) = (j : Int) + 1 := by omega
   rw [hcast]
   have HF := Lib.hid (show wr.cell? ⟨b, off + j * 5, none⟩ = some (.int .i64 x.a) ∧ wr.cell? ⟨b, off + j * 5 + 1, none⟩ = some (.int .i64 x.b) ∧ wr.cell? ⟨b, off + j * 5 + 2, none⟩ = some (.int .i64 x.ca) ∧ wr.cell? ⟨b, off + j * 5 + 3, none⟩ = some (.int .i64 x.cb) ∧ wr.cell? ⟨b, off + j * 5 + 4, none⟩ = some (.int .i64 x.cp) ∧ wr.cell? ⟨b, off + (j + 1) * 5, none⟩ = some (.int .i64 y.a) ∧ wr.cell? ⟨b, off + (j + 1) * 5 + 1, none⟩ = some (.int .i64 y.b) ∧ wr.cell? ⟨b, off + (j + 1) * 5 + 2, none⟩ = some (.int .i64 y.ca) ∧ wr.cell? ⟨b, off + (j + 1) * 5 + 3, none⟩ = some (.int .i64 y.cb) ∧ wr.cell? ⟨b, off + (j + 1) * 5 + 4, none⟩ = some (.int .i64 y.cp) from ⟨a0, a1, a2, a3, a4, b0, b1, b2, b3, b4⟩)
   have GZ : Hid (wr.grownBy wr none) := Lib.hid (grown_refl _ _)
   go_upto_region 4 with fail
   cases hlt2 : ltL x y
   ·have hge : 0 ≤ cmpL x y := by
     by_cases h : 0 ≤ cmpL x y
     ·exact h
     ·rw [ltL_of_lt h] at hlt2; cases hlt2
    have HL := Lib.hid hlt2
    clear hlt2
    go_region_held3 (fun w' => w'.cell? ⟨b, off + j * 5, none⟩ = some (.int .i64 x.a) ∧ w'.cell? ⟨b, off + j * 5 + 1, none⟩ = some (.int .i64 x.b) ∧ w'.cell? ⟨b, off + j * 5 + 2, none⟩ = some (.int .i64 x.ca) ∧ w'.cell? ⟨b, off + j * 5 + 3, none⟩ = some (.int .i64 x.cb) ∧ w'.cell? ⟨b, off + j * 5 + 4, none⟩ = some (.int .i64 x.cp) ∧ w'.cell? ⟨b, off + (j + 1) * 5, none⟩ = some (.int .i64 y.a) ∧ w'.cell? ⟨b, off + (j + 1) * 5 + 1, none⟩ = some (.int .i64 y.b) ∧ w'.cell? ⟨b, off + (j + 1) * 5 + 2, none⟩ = some (.int .i64 y.ca) ∧ w'.cell? ⟨b, off + (j + 1) * 5 + 3, none⟩ = some (.int .i64 y.cb) ∧ w'.cell? ⟨b, off + (j + 1) * 5 + 4, none⟩ = some (.int .i64 y.cp) ∧ Hid (wr.grownBy w' none))
     (first | with_reducible exact keepAL HF.out (hid_drew GZ) | (with_reducible exact keepAL HF.out (hid_drew (hid_more GZ hg))) | (go_split_ands; with_reducible refine keepAL HF.out ?_; with_reducible assumption) | (go_split_ands; with_reducible refine keepAL HF.out (hid_more ?_ hg); with_reducible assumption))
     ((go_at_call 144; refine (tcmpl_any x y _).mono ?_; rintro e w' ⟨rfl, hg⟩))
    all_goals
     go_split_ands
     go_wp2_with fail
     go_ret
     rw [ascL_hit HXY.out.1 HXY.out.2 HL.out]
     exact ⟨rfl, grown_trans G.out (Hid.out (by assumption))⟩
   ·have hge : ¬ 0 ≤ cmpL x y := by
     intro h
     rw [ltL_of_ge h] at hlt2; cases hlt2
    have HL := Lib.hid hlt2
    clear hlt2
    go_region_held3 (fun w' => w'.cell? ⟨b, off + j * 5, none⟩ = some (.int .i64 x.a) ∧ w'.cell? ⟨b, off + j * 5 + 1, none⟩ = some (.int .i64 x.b) ∧ w'.cell? ⟨b, off + j * 5 + 2, none⟩ = some (.int .i64 x.ca) ∧ w'.cell? ⟨b, off + j * 5 + 3, none⟩ = some (.int .i64 x.cb) ∧ w'.cell? ⟨b, off + j * 5 + 4, none⟩ = some (.int .i64 x.cp) ∧ w'.cell? ⟨b, off + (j + 1) * 5, none⟩ = some (.int .i64 y.a) ∧ w'.cell? ⟨b, off + (j + 1) * 5 + 1, none⟩ = some (.int .i64 y.b) ∧ w'.cell? ⟨b, off + (j + 1) * 5 + 2, none⟩ = some (.int .i64 y.ca) ∧ w'.cell? ⟨b, off + (j + 1) * 5 + 3, none⟩ = some (.int .i64 y.cb) ∧ w'.cell? ⟨b, off + (j + 1) * 5 + 4, none⟩ = some (.int .i64 y.cp) ∧ Hid (wr.grownBy w' none))
     (first | with_reducible exact keepAL HF.out (hid_drew GZ) | (with_reducible exact keepAL HF.out (hid_drew (hid_more GZ hg))) | (go_split_ands; with_reducible refine keepAL HF.out ?_; with_reducible assumption) | (go_split_ands; with_reducible refine keepAL HF.out (hid_more ?_ hg); with_reducible assumption))
     ((go_at_call 144; refine (tcmpl_any x y _).mono ?_; rintro e w' ⟨rfl, hg⟩))
    all_goals
     go_split_ands
     have HGW := Lib.hid (grown_trans G.out (Hid.out (by assumption)))
     go_wp2_with fail
     refine ⟨⟨j + 1 + 1, by omega, Or.inl (by omega), congrArg _ (by omega), HGW, Lib.hid fun i x2 y2 hi hx2 hy2 => ?_⟩, by simp only [RowKit.intOf]; omega⟩
     by_cases hij : i = j
     ·subst hij
      have e1 := HXY.out.1.symm.trans hx2
      have e2 := HXY.out.2.symm.trans hy2
      injection e1 with e1
      injection e2 with e2
      subst e1
      subst e2
      exact HL.out
     ·exact HN.out i x2 y2 (by omega) hx2 hy2
  ·have h1 : ¬ (k : Int) < (R.length : Int) := by omega
   go_wp2_with fail
   go_ret
   rw [ascL_end fun i x y hi hx hy => HN.out i x y (by omega) hx hy]
   exact ⟨rfl, G.out⟩
end Go.Proofs.YtahafijpcmphaaaGreat

/- Blocks that a call fills; the array of the routers that are known. -/
namespace Go.Proofs.YtahafijpcmphaaaGreat
set_option maxRecDepth 100000
open Go.RowKit Bs
def TRow (w : World) (g : Nat) (t : TypeId) (xs : List Value) : Prop := w.heap[g]? = some (.cells xs.toArray t (0, 0))
theorem TRow.set {w : World} {g : Nat} {t : TypeId} {xs : List Value} (h : TRow w g t xs) (j : Nat) (v : Value) : TRow (w.setCell ⟨g, j, none⟩ v) g t (xs.set j v) := by
 have := heap_setCell_same w g j _ _ v h
 rw [List.setIfInBounds_toArray] at this
 exact this
theorem TRow.cell {w : World} {g : Nat} {t : TypeId} {xs : List Value} (h : TRow w g t xs) {j : Nat} {x : Value} (hj : xs[j]? = some x) : w.cell? ⟨g, j, none⟩ = some x := by
 rw [cell_of_row _ _ _ _ _ _ h]
 simpa using hj
theorem TRow.frozen {w : World} {g : Nat} {t : TypeId} {xs : List Value} (h : TRow w g t xs) (j : Nat) : w.frozen? ⟨g, j, none⟩ = false := frozen_of_row _ _ _ _ _ h
theorem TRow.kept {w w' : World} {g : Nat} {t : TypeId} {xs : List Value} {r : Option Nat} (h : TRow w g t xs) (k : w.grownBy w' r) (hr : some g ≠ r) : TRow w' g t xs := kept_row h k hr
theorem TRow.lt {w : World} {g : Nat} {t : TypeId} {xs : List Value} (h : TRow w g t xs) : g < w.heap.size := by
 unfold TRow at h
 rcases Nat.lt_or_ge g w.heap.size with h1 | h1
 ·exact h1
 ·rw [Array.getElem?_eq_none h1] at h; cases h
def kn (l : List Rt) : List Value := (List.range 100).map fun i : Nat => .bool (hasR l (i : Int))
theorem kn_at {l : List Rt} {i : Nat} (hi : i < 100) : (kn l)[i]? = some (.bool (hasR l (i : Int))) := by
 unfold kn
 rw [List.getElem?_map, List.getElem?_eq_getElem (by simpa using hi), List.getElem_range]; rfl
theorem hasR_snoc (l : List Rt) (r : Rt) (x : Int) : hasR (l ++ [r]) x = (hasR l x || decide (r.id = x)) := by
 unfold hasR
 rw [List.any_append]
 simp
theorem kn_snoc {l : List Rt} {r : Rt} {n : Nat} (h : r.id = (n : Int)) (hn : n < 100) : (kn l).set n (.bool true) = kn (l ++ [r]) := by
 apply List.ext_getElem?
 intro i
 rw [List.getElem?_set]
 have hl : (kn l).length = 100 := by unfold kn; simp
 by_cases hi : i < 100
 ·rw [kn_at hi, kn_at hi, hasR_snoc, h]
  by_cases e : n = i
  ·subst e
   rw [if_pos rfl, if_pos (by omega), decide_eq_true rfl, Bool.or_true]
  ·rw [if_neg e]
   have : decide ((n : Int) = (i : Int)) = false := decide_eq_false (by omega)
   rw [this, Bool.or_false]
 ·have e1 : (kn (l ++ [r]))[i]? = none := List.getElem?_eq_none (by unfold kn; simp; omega)
  have e2 : (kn l)[i]? = none := List.getElem?_eq_none (by omega)
  rw [e1, e2, if_neg (by omega)]
theorem hasR_range {R : List Rt} {x : Int} (hid : R.any wrId = false) (h : hasR R x = true) : 1 ≤ x ∧ x ≤ 99 := by
 obtain ⟨r, hr, e⟩ := List.any_eq_true.1 h
 rw [decide_eq_true_eq] at e
 subst e
 have := List.any_eq_false.1 hid r hr
 unfold wrId at this
 simpa using this
theorem wr_at {R : List Rt} {k : Nat} {x : Rt} (hid : R.any wrId = false) (hx : R[k]? = some x) : ∃ n : Nat, x.id = (n : Int) ∧ 1 ≤ n ∧ n < 100 := by
 have := List.any_eq_false.1 hid x (List.mem_of_getElem? hx)
 have h2 : 1 ≤ x.id ∧ x.id ≤ 99 := by unfold wrId at this; simpa using this
 exact ⟨x.id.toNat, by omega, by omega, by omega⟩
end Go.Proofs.YtahafijpcmphaaaGreat

/- topology: joinsUnknown. -/
namespace Go.Proofs.YtahafijpcmphaaaGreat
set_option maxRecDepth 100000
open Go.RowKit Bs
structure JK (w : World) (vR vL : Value) (l : List Rt) (wr : World) : Prop where
 row : TRow wr (w.heap.size + 1) 102 (kn l)
 box : wr.heap[w.heap.size]? = some (.cells #[vR, vL] 45 (0, 0))
 gr : w.grownBy wr none
theorem JK.start (w : World) (vR vL : Value) : JK w vR vL [] ((w.alloc (.cells #[vR, vL] 45)).alloc (.cells Tryz.zeroCells102 102)) := by
 obtain ⟨k1, k2, k3, _⟩ := two_boxes w #[vR, vL] Tryz.zeroCells102 45 102
 exact ⟨k2, k1, k3⟩
theorem JK.keep {w wr w' : World} {vR vL : Value} {l : List Rt} (h : JK w vR vL l wr) (g : wr.grownBy w' none) : JK w vR vL l w' :=
 ⟨h.row.kept g (by simp), kept_row h.box g (by simp), grown_trans h.gr g⟩
theorem JK.put {w wr : World} {vR vL : Value} {l : List Rt} (h : JK w vR vL l wr) {r : Rt} {n : Nat} (hr : r.id = (n : Int)) (hn : n < 100) : JK w vR vL (l ++ [r]) (wr.setCell ⟨w.heap.size + 1, n, none⟩ (.bool true)) := by
 have k := grown_setCell wr ⟨w.heap.size + 1, n, none⟩ (.bool true)
 refine ⟨?_, kept_row h.box k (fun e => by have : w.heap.size = w.heap.size + 1 := Option.some.inj e; omega), grown_new h.gr k (by show _ ≤ w.heap.size + 1; omega)⟩
 rw [← kn_snoc hr hn]
 exact h.row.set n _
set_option maxHeartbeats 3200000 in
theorem tjoins_any (T : Tg) (w : World) (hT : TgOk w (fun _ => True) T) (hid : T.R.any wrId = false) :
  Calls Tryz.prog 141 #[.agg #[.slice T.pR T.R.length T.cR, .slice T.pL T.L.length T.cL]] w fun e w' => e = .returned (.bool (T.L.any (unk T.R))) ∧ w.grownBy w' none := by
 obtain ⟨R, L, pR, cR, pL, cL⟩ := T
 simp only at hid ⊢
 have hJ := JK.start w (.slice pR R.length cR) (.slice pL L.length cL)
 have HT := Lib.hid hT
 have HI := Lib.hid hid
 have hmR := Nat.le_trans hT.cr.1 hT.cr.2
 have hmL := Nat.le_trans hT.cl.1 hT.cl.2
 clear hT hid
 have JS := Lib.hid hJ
 clear hJ
 go_enter Tryz.func141, Tryz.ntmps141
 go_upto_region 2 with fail
 generalize (w.alloc _).alloc _ = wa at *
 obtain ⟨c0, c1⟩ := row_cells JS.out.box
 go_wp2_with fail
 go_loopw [11] (fun a wr => ∃ k : Nat, k ≤ R.length ∧ a = .int .i64 (k : Int) ∧ Hid (JK w (.slice pR R.length cR) (.slice pL L.length cL) (R.take k) wr)) (fun a _ => R.length - (RowKit.intOf a).toNat)
 case atStart => exact ⟨0, Nat.zero_le _, rfl, JS⟩
 case round =>
  obtain ⟨k, hk, rfl, J⟩ := hrel
  clear JS c0 c1
  by_cases hlt : k < R.length
  ·have HTr := HT.out.keep J.out.gr
   obtain ⟨-, b, off, rfl, -, hc⟩ := rdr_cells (R := R) HTr.r (by omega)
   obtain ⟨x, hx⟩ : ∃ x, R[k]? = some x := ⟨_, List.getElem?_eq_getElem hlt⟩
   obtain ⟨n, hn, hn1, hn2⟩ := wr_at HI.out hx
   obtain ⟨a0, a1⟩ := hc k x hx
   rw [hn] at a0
   have HX := Lib.hid (And.intro hx hn)
   have gal := World.grownBy_alloc wr (.cells #[.int .i64 (n : Int), .bool x.cap] 92) none
   have J2 := Lib.hid (J.out.keep gal)
   have hc2 := J2.out.row.cell (kn_at (l := R.take k) hn2)
   have hf2 := J2.out.row.frozen n
   have n0 : (0 : Int) ≤ (n : Int) := by omega
   have n1 : (n : Int) < 100 := by omega
   clear hc hx hn gal HTr
   go_wp2_with fail
   refine ⟨⟨k + 1, by omega, congrArg _ (by omega), Lib.hid ?_⟩, by simp only [RowKit.intOf]; omega⟩
   have h9 := J2.out.put HX.out.2 hn2
   rw [show R.take k ++ [x] = R.take (k + 1) by rw [List.take_add_one, HX.out.1]; rfl] at h9
   exact h9
  ·obtain rfl : k = R.length := by omega
   obtain ⟨wo, rfl⟩ : ∃ wo : World, wo = wr := ⟨_, rfl⟩
   have hJ := J.out
   rw [List.take_length] at hJ
   have J1 := Lib.hid hJ
   obtain ⟨c0, c1⟩ := row_cells J1.out.box
   have HTr := Lib.hid (HT.out.keep J1.out.gr)
   clear J hJ HT
   go_wp2_with fail
   go_loopw [22] (fun a wr => ∃ k : Nat, k ≤ L.length ∧ a = .int .i64 (k : Int) ∧ Hid (wo.grownBy wr none) ∧ Hid ((L.take k).any (unk R) = false)) (fun a _ => L.length - (RowKit.intOf a).toNat)
   case atStart => exact ⟨0, Nat.zero_le _, rfl, Lib.hid (grown_refl _ _), Lib.hid rfl⟩
   case round =>
    obtain ⟨k, hk, rfl, G, HN⟩ := hrel
    clear c0 c1
    by_cases hlt : k < L.length
    ·obtain ⟨-, b, off, rfl, -, hc⟩ := rdl_cells (L := L) (HTr.out.keep G.out).l (by omega)
     obtain ⟨x, hx⟩ : ∃ x, L[k]? = some x := ⟨_, List.getElem?_eq_getElem hlt⟩
     obtain ⟨a0, a1, a2, a3, a4⟩ := hc k x hx
     have gal := World.grownBy_alloc wr (.cells #[.int .i64 x.a, .int .i64 x.b, .int .i64 x.ca, .int .i64 x.cb, .int .i64 x.cp] 94) none
     obtain ⟨d0, d1, d2, d3, d4⟩ := lk_facts (heap_alloc_new wr (.cells #[.int .i64 x.a, .int .i64 x.b, .int .i64 x.ca, .int .i64 x.cb, .int .i64 x.cp] 94))
     have J2 := Lib.hid (J1.out.keep (grown_trans G.out gal))
     have G2 := Lib.hid (grown_trans G.out gal)
     have HX := Lib.hid hx
     clear hc hx gal
     go_upto_region 10 with fail
     generalize wr.alloc _ = wy at *
     have fin : Hid (unk R x = true) → ∀ w', Hid (wy.grownBy w' none) → Hid (L.any (unk R) = true ∧ w.grownBy w' none) := fun h1 w' h2 => Lib.hid ⟨any_at HX.out h1.out, grown_trans J2.out.gr h2.out⟩
     have GY : Hid (wy.grownBy wy none) := Lib.hid (grown_refl _ _)
     by_cases hA : 1 ≤ x.a ∧ x.a ≤ 99
     ·have eA : decide (1 ≤ x.a ∧ x.a ≤ 99) = true := decide_eq_true hA
      by_cases hB : 1 ≤ x.b ∧ x.b ≤ 99
      ·have eB : decide (1 ≤ x.b ∧ x.b ≤ 99) = true := decide_eq_true hB
       obtain ⟨A, hA2⟩ := Int.eq_ofNat_of_zero_le (show 0 ≤ x.a by omega)
       obtain ⟨B, hB2⟩ := Int.eq_ofNat_of_zero_le (show 0 ≤ x.b by omega)
       have kA := J2.out.row.cell (kn_at (l := R) (i := A) (by omega))
       have kB := J2.out.row.cell (kn_at (l := R) (i := B) (by omega))
       have iA0 : (0 : Int) ≤ (A : Int) := by omega
       have iA1 : (A : Int) < 100 := by omega
       have iB0 : (0 : Int) ≤ (B : Int) := by omega
       have iB1 : (B : Int) < 100 := by omega
       have HU : Hid (unk R x = (!hasR R (A : Int) || !hasR R (B : Int))) := Lib.hid (by unfold unk; rw [hA2, hB2])
       change decide (1 ≤ x.a ∧ x.a ≤ 99) = true at eA
       rw [hA2] at d0 eA
       rw [hB2] at d1 eB
       clear hA2 hB2 hA hB
       cases hha : hasR R (A : Int)
       ·rw [hha] at kA HU
        have HF := fin (Lib.hid (by rw [HU.out]; try rfl))
        clear fin HU
        go_wp2_with (go_at_call 163; refine (twithin_any _ _ _ _).mono ?_; rintro e w' ⟨rfl, rfl⟩; try simp only [eA, eB])
        go_ret
        have h9 := (HF _ GY).out
        rw [h9.1]
        exact ⟨rfl, h9.2⟩
       ·cases hhb : hasR R (B : Int)
        ·rw [hhb] at kB HU
         rw [hha] at kA
         have HF := fin (Lib.hid (by rw [HU.out, hha]; try rfl))
         clear fin HU
         go_wp2_with (go_at_call 163; refine (twithin_any _ _ _ _).mono ?_; rintro e w' ⟨rfl, rfl⟩; try simp only [eA, eB])
         go_ret
         have h9 := (HF _ GY).out
         rw [h9.1]
         exact ⟨rfl, h9.2⟩
        ·rw [hhb] at kB HU
         rw [hha] at kA HU
         clear fin
         go_wp2_with (go_at_call 163; refine (twithin_any _ _ _ _).mono ?_; rintro e w' ⟨rfl, rfl⟩; try simp only [eA, eB])
         exact ⟨⟨k + 1, by omega, congrArg _ (by omega), G2, Lib.hid (any_take HN.out HX.out HU.out)⟩, by simp only [RowKit.intOf]; omega⟩
      ·have eB : decide (1 ≤ x.b ∧ x.b ≤ 99) = false := decide_eq_false hB
       have HF := fin (Lib.hid (by
        unfold unk
        cases h : hasR R x.b
        ·simp
        ·exact absurd (hasR_range HI.out h) hB))
       clear fin
       go_wp2_with (go_at_call 163; refine (twithin_any _ _ _ _).mono ?_; rintro e w' ⟨rfl, rfl⟩; try simp only [eA, eB])
       go_ret
       have h9 := (HF _ GY).out
       rw [h9.1]
       exact ⟨rfl, h9.2⟩
     ·have eA : decide (1 ≤ x.a ∧ x.a ≤ 99) = false := decide_eq_false hA
      have HF := fin (Lib.hid (by
       unfold unk
       cases h : hasR R x.a
       ·simp
       ·exact absurd (hasR_range HI.out h) hA))
      clear fin
      go_wp2_with (go_at_call 163; refine (twithin_any _ _ _ _).mono ?_; rintro e w' ⟨rfl, rfl⟩; try simp only [eA])
      go_ret
      have h9 := (HF _ GY).out
      rw [h9.1]
      exact ⟨rfl, h9.2⟩
    ·obtain rfl : k = L.length := by omega
     go_wp2_with fail
     go_ret
     rw [any_end HN.out (Nat.le_refl _)]
     exact ⟨rfl, grown_trans J1.out.gr G.out⟩
end Go.Proofs.YtahafijpcmphaaaGreat

/- topology: Check, valid. -/
namespace Go.Proofs.YtahafijpcmphaaaGreat
set_option maxRecDepth 100000
open Go.RowKit Bs
structure CK (w : World) (T : Tg) (wr : World) : Prop where
 box : wr.heap[w.heap.size]? = some (.cells #[.slice T.pR T.R.length T.cR, .slice T.pL T.L.length T.cL] 45 (0, 0))
 gr : w.grownBy wr none
 ok : TgOk wr (fun _ => True) T
theorem CK.keep {w wr w' : World} {T : Tg} (h : CK w T wr) (g : wr.grownBy w' none) : CK w T w' := ⟨kept_row h.box g (by simp), grown_trans h.gr g, h.ok.keep g⟩
theorem CK.start {w : World} {q : Nat → Prop} {T : Tg} (h : TgOk w q T) : CK w T (w.alloc (.cells #[.slice T.pR T.R.length T.cR, .slice T.pL T.L.length T.cL] 45)) :=
 have k := World.grownBy_alloc w (.cells #[.slice T.pR T.R.length T.cR, .slice T.pL T.L.length T.cL] 45) none
 ⟨heap_alloc_new w _, k, (h.mono fun _ _ => trivial).keep k⟩
theorem twrend_any (l : Lk) (w : World) :
  Calls Tryz.prog 142 #[.agg #[.int .i64 l.a, .int .i64 l.b, .int .i64 l.ca, .int .i64 l.cb, .int .i64 l.cp]] w fun e w' => e = .returned (.bool (wrEnd l)) ∧ w.grownBy w' none := by
 obtain ⟨k1, k2⟩ := tone_box w #[.int .i64 l.a, .int .i64 l.b, .int .i64 l.ca, .int .i64 l.cb, .int .i64 l.cp] 94
 obtain ⟨c0, c1, c2, c3, c4⟩ := lk_facts k1
 have K := Lib.hid k2
 clear k1 k2
 go_enter Tryz.func142, Tryz.ntmps142
 go_wp2_with fail
 go_ret
 exact ⟨by unfold wrEnd; simp, K.out⟩
set_option maxHeartbeats 3200000 in
theorem tcheck_any (T : Tg) (q : Nat → Prop) (w : World) (hT : TgOk w q T) :
  Calls Tryz.prog 112 #[.agg #[.slice T.pR T.R.length T.cR, .slice T.pL T.L.length T.cL]] w fun e w' => e = .returned (.int .i64 (chk T.R T.L)) ∧ w.grownBy w' none := by
 have C0 := Lib.hid (CK.start hT)
 have hmR := Nat.le_trans hT.cr.1 hT.cr.2
 have hmL := Nat.le_trans hT.cl.1 hT.cl.2
 have e1 : EnterF 137 := enters_of Tryz.func137 (by kernel_rfl) rfl
 have e2 : EnterF 140 := enters_of Tryz.func140 (by kernel_rfl) rfl
 have e3 : EnterF 142 := enters_of Tryz.func142 (by kernel_rfl) rfl
 have E1 := Lib.hid e1
 have E2 := Lib.hid e2
 have E3 := Lib.hid e3
 clear hT e1 e2 e3
 obtain ⟨R, L, pR, cR, pL, cL⟩ := T
 simp only at hmR hmL C0 ⊢
 go_enter Tryz.func112, Tryz.ntmps112
 go_upto_region 1 with fail
 generalize w.alloc _ = wa at *
 obtain ⟨c0, c1⟩ := row_cells C0.out.box
 by_cases h1 : R.length ≤ 24
 case neg =>
  have h1' : (24 : Int) < (R.length : Int) := by omega
  go_wp2_with fail
  go_ret
  exact ⟨by unfold chk; rw [if_pos (by omega)]; rfl, C0.out.gr⟩
 by_cases h2 : L.length ≤ 60
 case neg =>
  have h1' : ¬ (24 : Int) < (R.length : Int) := by omega
  have h2' : (60 : Int) < (L.length : Int) := by omega
  go_wp2_with fail
  go_ret
  exact ⟨by unfold chk; rw [if_pos (by omega)]; rfl, C0.out.gr⟩
 have hc0 : Hid (¬ (24 < R.length ∨ 60 < L.length)) := Lib.hid (by omega)
 go_wp2_with fail
 refine (tcontR_any 137 #[] wrId E1.out R pR cR _ wa C0.out.ok.r hmR (fun r w' _ => twrid_any r w')).mono ?_
 rintro e w1 ⟨rfl, hg⟩
 have C1 := Lib.hid (C0.out.keep hg)
 clear hg C0 c0 c1
 obtain ⟨c0, c1⟩ := row_cells C1.out.box
 cases f1 : R.any wrId
 case true =>
  have F1 := Lib.hid f1
  clear f1
  go_wp2_with fail
  go_ret
  exact ⟨by unfold chk; rw [if_neg hc0.out, F1.out]; rfl, C1.out.gr⟩
 have F1 := Lib.hid f1
 clear f1
 go_wp2_with fail
 refine (tascR_any R pR cR _ w1 C1.out.ok.r hmR).mono ?_
 rintro e w2 ⟨rfl, hg⟩
 have C2 := Lib.hid (C1.out.keep hg)
 clear hg C1 c0 c1
 obtain ⟨c0, c1⟩ := row_cells C2.out.box
 cases f2 : ascB ltR R
 case false =>
  have F2 := Lib.hid f2
  clear f2
  go_wp2_with fail
  go_ret
  exact ⟨by unfold chk; rw [if_neg hc0.out, F1.out, F2.out]; rfl, C2.out.gr⟩
 have F2 := Lib.hid f2
 clear f2
 go_wp2_with fail
 refine (tcontL_any 140 #[] wrNum E2.out L pL cL _ w2 C2.out.ok.l hmL (fun r w' _ => twrnum_any r w')).mono ?_
 rintro e w3 ⟨rfl, hg⟩
 have C3 := Lib.hid (C2.out.keep hg)
 clear hg C2 c0 c1
 obtain ⟨c0, c1⟩ := row_cells C3.out.box
 cases f3 : L.any wrNum
 case true =>
  have F3 := Lib.hid f3
  clear f3
  go_wp2_with fail
  go_ret
  exact ⟨by unfold chk; rw [if_neg hc0.out, F1.out, F2.out, F3.out]; rfl, C3.out.gr⟩
 have F3 := Lib.hid f3
 clear f3
 go_wp2_with fail
 refine (tjoins_any ⟨R, L, pR, cR, pL, cL⟩ w3 C3.out.ok F1.out).mono ?_
 rintro e w4 ⟨rfl, hg⟩
 have C4 := Lib.hid (C3.out.keep hg)
 clear hg C3 c0 c1
 obtain ⟨c0, c1⟩ := row_cells C4.out.box
 simp only
 cases f4 : L.any (unk R)
 case true =>
  have F4 := Lib.hid f4
  clear f4
  go_wp2_with fail
  go_ret
  exact ⟨by unfold chk; rw [if_neg hc0.out, F1.out, F2.out, F3.out, F4.out]; rfl, C4.out.gr⟩
 have F4 := Lib.hid f4
 clear f4
 go_wp2_with fail
 refine (tcontL_any 142 #[] wrEnd E3.out L pL cL _ w4 C4.out.ok.l hmL (fun r w' _ => twrend_any r w')).mono ?_
 rintro e w5 ⟨rfl, hg⟩
 have C5 := Lib.hid (C4.out.keep hg)
 clear hg C4 c0 c1
 obtain ⟨c0, c1⟩ := row_cells C5.out.box
 cases f5 : L.any wrEnd
 case true =>
  have F5 := Lib.hid f5
  clear f5
  go_wp2_with fail
  go_ret
  exact ⟨by unfold chk; rw [if_neg hc0.out, F1.out, F2.out, F3.out, F4.out, F5.out]; rfl, C5.out.gr⟩
 have F5 := Lib.hid f5
 clear f5
 go_wp2_with fail
 refine (tascL_any L pL cL _ w5 C5.out.ok.l hmL).mono ?_
 rintro e w6 ⟨rfl, hg⟩
 have C6 := Lib.hid (C5.out.keep hg)
 clear hg C5 c0 c1
 cases f6 : ascB ltL L
 case false =>
  have F6 := Lib.hid f6
  clear f6
  go_wp2_with fail
  go_ret
  exact ⟨by unfold chk; rw [if_neg hc0.out, F1.out, F2.out, F3.out, F4.out, F5.out, F6.out]; rfl, C6.out.gr⟩
 have F6 := Lib.hid f6
 clear f6
 go_wp2_with fail
 go_ret
 exact ⟨by unfold chk; rw [if_neg hc0.out, F1.out, F2.out, F3.out, F4.out, F5.out, F6.out]; rfl, C6.out.gr⟩
def okT (R : List Rt) (L : List Lk) : Bool := chk R L == 0
set_option maxHeartbeats 3200000 in
theorem tvalid_any (T : Tg) (q : Nat → Prop) (w : World) (hT : TgOk w q T) :
  Calls Tryz.prog 105 #[.agg #[.slice T.pR T.R.length T.cR, .slice T.pL T.L.length T.cL]] w fun e w' => e = .returned (.bool (okT T.R T.L)) ∧ w.grownBy w' none := by
 have C0 := Lib.hid (CK.start hT)
 clear hT
 go_enter Tryz.func105, Tryz.ntmps105
 go_upto_region 1 with fail
 generalize w.alloc _ = wa at *
 obtain ⟨c0, c1⟩ := row_cells C0.out.box
 go_wp2_with (go_at_call 112; refine (tcheck_any T _ wa C0.out.ok).mono ?_; rintro e w1 ⟨rfl, hg⟩; have HG := Lib.hid hg; clear hg)
 go_ret
 exact ⟨rfl, grown_trans C0.out.gr HG.out⟩
end Go.Proofs.YtahafijpcmphaaaGreat

/- topology: neighbours. -/
namespace Go.Proofs.YtahafijpcmphaaaGreat
set_option maxRecDepth 100000
open Go.RowKit Bs
def tv (z : Int) : Value := .int .i64 z
def nb1 (x : Int) (l : Lk) : List Int := (if l.b = x then [l.a] else []) ++ (if l.a = x then [l.b] else [])
def nbL (L : List Lk) (x : Int) : List Int := L.flatMap (nb1 x)
structure NK (w : World) (v : Value) (l : List Int) (wr : World) : Prop where
 own : wr.ownsRow w.heap.size 3 1 v l.length (l.map tv)
 gr : w.grownBy wr none
theorem NK.keep {w wr w' : World} {v : Value} {l : List Int} (h : NK w v l wr) (g : wr.grownBy w' none) : NK w v l w' :=
 ⟨h.own.kept g (by cases hv : v.ownBlock <;> simp), grown_trans h.gr g⟩
theorem NK.more {w wr wy w1 : World} {v v' : Value} {l : List Int} {x : Int} {o : Obj} (h : NK w v l wr) (g : wr.grownBy wy none) (hown' : w1.ownsRow w.heap.size 3 1 v' (l.length + 1) (l.map tv ++ [.int .i64 x])) (hg : (wy.alloc o).grownBy w1 v.ownBlock) :
  NK w v' (l ++ [x]) w1 ∧ (∀ b ob, wr.heap.size ≤ b → wy.heap[b]? = some ob → w1.heap[b]? = some ob) := by
 have hy := h.keep g
 refine ⟨⟨?_, own_step hy.gr hy.own hg⟩, fun b ob hb he => ?_⟩
 ·rw [List.length_append, List.map_append]; exact hown'
 ·have k0 := World.grownBy_alloc wy o none
  refine kept_row (kept_row he k0 (by simp)) hg (fun e => ?_)
  have := (h.own.lt b e.symm).2
  omega
def TRet (l : List Int) (w : World) (e : Ending) (w' : World) : Prop := ∃ p c, e = .returned (.slice p l.length c) ∧ Rd w' (w.heap.size ≤ ·) (.slice p l.length c) (l.map tv) ∧ (l.length ≤ c ∧ c ≤ 9223372036854775807) ∧ (p = none → c = 0) ∧ w.grownBy w' none
theorem NK.ret {w wr : World} {v : Value} {l : List Int} (h : NK w v l wr) : ∃ p c, v = .slice p l.length c ∧ Rd wr (w.heap.size ≤ ·) (.slice p l.length c) (l.map tv) ∧ (l.length ≤ c ∧ c ≤ 9223372036854775807) ∧ (p = none → c = 0) ∧ w.grownBy wr none := by
 have hr := rd_of_own h.own
 rcases Joins.ownsRow_forms h.own with ⟨e, e0⟩ | ⟨g, cap, e⟩
 ·subst e
  obtain rfl := List.eq_nil_of_length_eq_zero e0
  exact ⟨none, 0, rfl, hr, ⟨Nat.le_refl _, by omega⟩, fun _ => rfl, h.gr⟩
 ·subst e
  have := own_cap h.own
  unfold maxLen at this
  exact ⟨_, cap, rfl, hr, ⟨this.1, by omega⟩, (fun e => by cases e), h.gr⟩
end Go.Proofs.YtahafijpcmphaaaGreat

/- topology: Contains of numbers and of hops; the closures of Without. -/
namespace Go.Proofs.YtahafijpcmphaaaGreat
set_option maxRecDepth 100000
open Go.RowKit Bs
structure Hp where
 f : Int
 t : Int
def hasI (X : List Int) (x : Int) : Bool := X.any fun y => decide (y = x)
end Go.Proofs.YtahafijpcmphaaaGreat

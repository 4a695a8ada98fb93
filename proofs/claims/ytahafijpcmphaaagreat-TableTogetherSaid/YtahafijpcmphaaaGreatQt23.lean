/- Parts of the proof, packed: TaSmM, TaFiM, TaFiP, TaNto, TaBuP, TaBdP, TaBdR, TaSmP. -/
import Derived.Test.YtahafijpcmphaaaGreatQt18
import Derived.Test.YtahafijpcmphaaaGreatQt14
import Derived.Test.YtahafijpcmphaaaGreatQt22
import Derived.Test.YtahafijpcmphaaaGreatQt21
import Derived.Test.YtahafijpcmphaaaGreatQt17
import Derived.Test.YtahafijpcmphaaaGreatQt15
import Derived.Test.YtahafijpcmphaaaGreatQt19
import Derived.Test.YtahafijpcmphaaaGreatQt16
import Derived.Test.YtahafijpcmphaaaGreatQt11
/- tables: equal lists of numbers, and equal rows. -/
namespace Go.Proofs.YtahafijpcmphaaaGreat
set_option maxRecDepth 100000
open Go.RowKit Bs
theorem tk_step {α : Type} {l m : List α} {k : Nat} {x y : α} (h : l.take k = m.take k) (hx : l[k]? = some x) (hy : m[k]? = some y) (e : x = y) : l.take (k + 1) = m.take (k + 1) := by
 rw [List.take_add_one, List.take_add_one, h, hx, hy, e]
theorem tk_ne {α : Type} {l m : List α} {k : Nat} {x y : α} (hx : l[k]? = some x) (hy : m[k]? = some y) (e : x ≠ y) : l ≠ m := by
 rintro rfl
 rw [hx] at hy
 exact e (Option.some.inj hy)
theorem tk_end {α : Type} {l m : List α} (h : l.take l.length = m.take l.length) (hl : l.length = m.length) : l = m := by
 rw [List.take_length] at h
 rw [h, hl, List.take_length]
set_option maxHeartbeats 1600000 in
theorem rintsG_any (a b : List Int) (p1 p2 : Option Addr) (c1 c2 : Nat) (q1 q2 : Nat → Prop) (w : World) (h1 : Rd w q1 (.slice p1 a.length c1) (a.map tv)) (h2 : Rd w q2 (.slice p2 b.length c2) (b.map tv)) (hm : a.length ≤ 9223372036854775807) (hm2 : b.length ≤ 9223372036854775807) :
  Calls Tryz.prog 20 #[.slice p1 a.length c1, .slice p2 b.length c2] w fun e w' => e = .returned (.bool (decide (a = b))) ∧ w.grownBy w' none := by
 by_cases hl : a.length = b.length
 case neg =>
  have hne : ((a.length : Int) != (b.length : Int)) = true := by
   rw [bne_iff_ne]; omega
  have HD : Hid (decide (a = b) = false) := Lib.hid (decide_eq_false (fun h => hl (by rw [h])))
  clear h1 h2 hl
  go_enter Tryz.func20, Tryz.ntmps20
  go_wp2_with fail
  go_ret
  exact ⟨by rw [HD.out]; rfl, grown_refl _ _⟩
 rw [← hl] at h2 hm2 ⊢
 have H := Lib.hid (And.intro h1 h2)
 have HL := Lib.hid hl
 clear h1 h2 hl hm2
 obtain ⟨z, hz⟩ : ∃ z, decide (a = b) = z := ⟨_, rfl⟩
 rw [hz]
 have HZ := Lib.hid hz
 clear hz
 go_enter Tryz.func20, Tryz.ntmps20
 go_wp2_with fail
 go_loopw [5] (fun v wr => ∃ k : Nat, k ≤ a.length ∧ v = .int .i64 (k : Int) ∧ Hid (a.take k = b.take k) ∧ w.grownBy wr none) (fun v _ => a.length - (RowKit.intOf v).toNat)
 case atStart => exact ⟨0, Nat.zero_le _, rfl, Lib.hid rfl, grown_refl _ _⟩
 case round =>
  obtain ⟨k, hk, rfl, HT, hG⟩ := hrel
  by_cases hlt : k < a.length
  ·obtain ⟨x, hx⟩ : ∃ x, a[k]? = some x := ⟨_, List.getElem?_eq_getElem (by omega)⟩
   obtain ⟨y, hy⟩ : ∃ y, b[k]? = some y := ⟨_, List.getElem?_eq_getElem (by have := HL.out; omega)⟩
   obtain ⟨-, b1, o1, rfl, _, hc1⟩ := tvT_at (H.out.1) hx
   obtain ⟨-, b2, o2, rfl, _, hc2⟩ := tvT_at (H.out.2) hy
   have e1 := hG.cell (hc1 k x hx) (by simp)
   have e2 := hG.cell (hc2 k y hy) (by simp)
   have HXY := Lib.hid (And.intro hx hy)
   have HG := Lib.hid hG
   clear hc1 hc2 hG hx hy
   by_cases e : x = y
   ·subst e
    have HT2 := Lib.hid (tk_step HT.out HXY.out.1 HXY.out.2 rfl)
    clear HT
    go_wp2_with fail
    go_region
    have HG2 := Lib.hid (grown_drew HG.out)
    clear HG e1 e2
    change Exit.then _ _ _ _ wr.drew
    generalize wr.drew = w2 at *
    go_wp2_with fail
    exact ⟨⟨k + 1, by omega, congrArg _ (by omega), HT2, HG2.out⟩, by simp only [RowKit.intOf]; omega⟩
   ·have e' : (x != y) = true := by simpa using e
    have HF : Hid (z = false) := Lib.hid (by rw [← HZ.out]; exact decide_eq_false (tk_ne HXY.out.1 HXY.out.2 e))
    clear HT e
    go_wp2_with fail
    go_region
    have HG2 := Lib.hid (grown_drew HG.out)
    clear HG e1 e2
    change Exit.then _ _ _ _ wr.drew
    generalize wr.drew = w2 at *
    go_wp2_with fail
    go_ret
    exact ⟨by rw [HF.out]; rfl, HG2.out⟩
  ·obtain rfl : k = a.length := by omega
   have HG := Lib.hid hG
   have HF : Hid (z = true) := Lib.hid (by rw [← HZ.out]; exact decide_eq_true (tk_end HT.out HL.out))
   clear hG
   go_wp2_with fail
   go_ret
   exact ⟨by rw [HF.out]; rfl, HG.out⟩
theorem rw0_iff {x y : Rw} : rw0 x = rw0 y ↔ x.id = y.id ∧ x.nx = y.nx := by unfold rw0; rw [Prod.mk.injEq]
end Go.Proofs.YtahafijpcmphaaaGreat

/- tables: finding a table: the mathematics, and the reference's Find. -/
namespace Go.Proofs.YtahafijpcmphaaaGreat
set_option maxRecDepth 100000
open Go.RowKit Bs
def isTb (r : Int) (x : Tb) : Bool := decide (x.r = r)
def fdT (Ts : List Tb) (r : Int) : Option Tb := Ts.find? (isTb r)
def zTb : Tb := ⟨0, 0, 0, [], none, 0⟩
theorem ft_none {L : List Tb} {r : Int} (h : (L.take L.length).any (isTb r) = false) : fdT L r = none := by
 rw [List.take_length] at h
 unfold fdT
 rw [List.find?_eq_none]
 intro x hx hw
 exact List.any_eq_false.1 h x hx hw
theorem ft_some {L : List Tb} {r : Int} {k : Nat} {x : Tb} (h : (L.take k).any (isTb r) = false) (hx : L[k]? = some x) (hp : isTb r x = true) : fdT L r = some x := by
 obtain ⟨hk, hxe⟩ := List.getElem?_eq_some_iff.1 hx
 have hsp : L = L.take k ++ x :: L.drop (k + 1) := by
  have h1 := List.take_append_drop k L
  rw [List.drop_eq_getElem_cons hk, hxe] at h1
  exact h1.symm
 have hn : (L.take k).find? (isTb r) = none := by
  rw [List.find?_eq_none]
  intro y hy hw
  exact List.any_eq_false.1 h y hy hw
 unfold fdT
 rw [hsp, List.find?_append, hn, List.find?_cons_of_pos hp]; rfl
set_option maxHeartbeats 1600000 in
theorem tidxT2_any (g : Nat) (lb : Array Value) (P : Tb → Bool) (eg : EnterF g) (R : List Tb) (p : Option Addr) (c : Nat) (q : Nat → Prop) (w : World) (hR : RdF w q (.slice p R.length c) R.length (R.flatMap tbC)) (hm : R.length ≤ 9223372036854775807)
  (hP : ∀ (r : Tb) (w' : World), r ∈ R → w.grownBy w' none → Calls Tryz.prog g (#[.agg #[.int .i64 r.r, .int .i64 r.s, .int .i64 r.n, .slice r.p r.L.length r.c]] ++ lb) w' fun e w2 => e = .returned (.bool (P r)) ∧ w'.grownBy w2 none) :
  Calls Tryz.prog 69 #[.slice p R.length c, .func (.func g) #[] lb] w fun e w' => ∃ i : Int, e = .returned (.int .i64 i) ∧ ((i = -1 ∧ (R.take R.length).any P = false) ∨ ∃ (k : Nat) (x : Tb), i = (k : Int) ∧ R[k]? = some x ∧ P x = true ∧ (R.take k).any P = false) ∧ w.grownBy w' none := by
 have HR := Lib.hid hR
 have HP := Lib.hid hP
 clear hR hP
 go_enter Tryz.func69, Tryz.ntmps69
 go_wp2_with fail
 go_loopw [8] (fun a wr => ∃ k : Nat, k ≤ R.length ∧ a = .int .i64 (k : Int) ∧ Hid (w.grownBy wr none) ∧ Hid ((R.take k).any P = false)) (fun a _ => R.length - (RowKit.intOf a).toNat)
 case atStart => exact ⟨0, Nat.zero_le _, rfl, Lib.hid (grown_refl _ _), Lib.hid (by simp)⟩
 case round =>
  obtain ⟨k, hk, rfl, G, HN⟩ := hrel
  by_cases hlt : k < R.length
  ·obtain ⟨x, hx⟩ : ∃ x, R[k]? = some x := ⟨_, List.getElem?_eq_getElem hlt⟩
   obtain ⟨-, b, off, rfl, hq, hc⟩ := tb_cells (HR.out.keep G.out) (by omega)
   obtain ⟨a0, a1, a2, a3⟩ := hc k x hx
   have HX := Lib.hid hx
   clear hc hx
   have hcall := HP.out x wr (List.mem_of_getElem? HX.out) G.out
   cases hp : P x
   ·rw [hp] at hcall
    have HY := Lib.hid hp
    clear hp
    go_wp2_with (go_at_fn g; refine hcall.mono ?_; rintro e w' ⟨rfl, hg⟩; have HG := Lib.hid (grown_trans G.out hg); clear hg)
    exact ⟨⟨k + 1, by omega, congrArg _ (by omega), HG, Lib.hid (any_take HN.out HX.out HY.out)⟩, by simp only [RowKit.intOf]; omega⟩
   ·rw [hp] at hcall
    have HY := Lib.hid hp
    clear hp
    go_wp2_with (go_at_fn g; refine hcall.mono ?_; rintro e w' ⟨rfl, hg⟩; have HG := Lib.hid (grown_trans G.out hg); clear hg)
    go_ret
    exact ⟨_, rfl, Or.inr ⟨k, x, rfl, HX.out, HY.out, HN.out⟩, HG.out⟩
  ·obtain rfl : k = R.length := by omega
   go_wp2_with fail
   go_ret
   exact ⟨_, rfl, Or.inl ⟨rfl, HN.out⟩, G.out⟩
structure FZ (W : World) (g : Nat) (p : Option Addr) (c : Nat) (Ts : List Tb) (q : Nat → Prop) (w : World) : Prop where
 z : w.heap[g]? = some (.cells #[.int .i64 0, .int .i64 0, .int .i64 0, .slice none 0 0] 25 (0, 0))
 rd : RdT w q p c Ts
 gr : W.grownBy w none
theorem FZ.keep {W : World} {g : Nat} {p : Option Addr} {c : Nat} {Ts : List Tb} {q : Nat → Prop} {w w1 : World} (h : FZ W g p c Ts q w) (k : w.grownBy w1 none) : FZ W g p c Ts q w1 := ⟨kept_row h.z k (by simp), h.rd.keep k, grown_trans h.gr k⟩
set_option maxHeartbeats 3200000 in
theorem rFind_any (p : Option Addr) (c : Nat) (Ts : List Tb) (r : Int) (q : Nat → Prop) (w : World) (hR : RdT w q p c Ts) (hm : Ts.length ≤ 9223372036854775807) :
  Calls Tryz.prog 27 #[.slice p Ts.length c, .int .i64 r] w fun e w' => e = .returned (.tuple #[.agg #[.int .i64 ((fdT Ts r).getD zTb).r, .int .i64 ((fdT Ts r).getD zTb).s, .int .i64 ((fdT Ts r).getD zTb).n, .slice ((fdT Ts r).getD zTb).p ((fdT Ts r).getD zTb).L.length ((fdT Ts r).getD zTb).c], .bool (fdT Ts r).isSome]) ∧ w.grownBy w' none := by
 obtain ⟨k1, k2⟩ := tone_box w #[.int .i64 0, .int .i64 0, .int .i64 0, .slice none 0 0] 25
 have H0 : Hid (FZ w w.heap.size p c Ts q _) := Lib.hid ⟨k1, hR.keep k2, k2⟩
 clear k1 k2 hR
 go_enter Tryz.func27, Tryz.ntmps27
 go_upto_region 1 with fail
 generalize w.alloc _ = wa at *
 go_wp2_with fail
 go_loopw [6] (fun v wr => ∃ k : Nat, k ≤ Ts.length ∧ v = .int .i64 (k : Int) ∧ Hid ((Ts.take k).any (isTb r) = false) ∧ Hid (FZ w w.heap.size p c Ts q wr)) (fun v _ => Ts.length - (RowKit.intOf v).toNat)
 case atStart => exact ⟨0, Nat.zero_le _, rfl, Lib.hid rfl, H0⟩
 case round =>
 clear H0
 obtain ⟨k, hk, rfl, HN, K⟩ := hrel
 obtain ⟨w5, hw5⟩ : ∃ w5, w5 = wr := ⟨_, rfl⟩
 rw [← hw5] at K ⊢
 clear hw5
 obtain ⟨z0, z1, z2, z3⟩ := row4T K.out.z
 have f0 := frozen_of_row _ _ 0 _ _ K.out.z
 have f1 := frozen_of_row _ _ 1 _ _ K.out.z
 have f2 := frozen_of_row _ _ 2 _ _ K.out.z
 have f3 := frozen_of_row _ _ 3 _ _ K.out.z
 by_cases hlt : k < Ts.length
 case neg =>
  obtain rfl : k = Ts.length := by omega
  have hnl : ¬ (Ts.length : Int) < (Ts.length : Int) := by omega
  have HF := Lib.hid (ft_none HN.out)
  have HT := Lib.hid (store4B (.int .i64 0) (.int .i64 0) (.int .i64 0) (.slice none 0 0) K.out.z)
  have HG := Lib.hid (grown_new K.out.gr HT.out.2 (Nat.le_refl _))
  clear HN K
  go_wp2_with fail
  refine bodyPost_ret (res_tab_e rfl _ _ w.heap.size _ _ _ _ rfl HT.out.1) rfl ?_
  exact ⟨by rw [HF.out]; rfl, HG.out⟩
 have hlt' : (k : Int) < (Ts.length : Int) := by omega
 have hk0 : (0 : Int) ≤ (k : Int) := by omega
 obtain ⟨x, hx⟩ : ∃ x, Ts[k]? = some x := ⟨_, List.getElem?_eq_getElem hlt⟩
 obtain ⟨-, b, off, rfl, -, -⟩ := tb_cells K.out.rd.rd (by omega)
 obtain ⟨a0, a1, a2, a3⟩ := rdT_cells K.out.rd hx
 by_cases e : x.r = r
 ·have e' : (x.r == r) = true := by simpa using e
  have HF := Lib.hid (ft_some HN.out hx (decide_eq_true e))
  have HT := Lib.hid (store4B (.int .i64 x.r) (.int .i64 x.s) (.int .i64 x.n) (.slice x.p x.L.length x.c) K.out.z)
  have HG := Lib.hid (grown_new K.out.gr HT.out.2 (Nat.le_refl _))
  clear HN K e hx
  go_wp2_with fail
  refine bodyPost_ret (res_tab_e rfl _ _ w.heap.size _ _ _ _ rfl HT.out.1) rfl ?_
  exact ⟨by rw [HF.out]; rfl, HG.out⟩
 ·have e' : (x.r == r) = false := by simpa using e
  have HN2 := Lib.hid (any_take HN.out hx (show isTb r x = false from decide_eq_false e))
  clear HN e hx z0 z1 z2 z3 f0 f1 f2 f3
  go_wp2_with fail
  exact ⟨⟨k + 1, by omega, congrArg _ (by omega), HN2, K⟩, by simp only [RowKit.intOf]; omega⟩
set_option maxHeartbeats 1600000 in
theorem tfind1_any (x : Tb) (g : Nat) (r : Int) (w : World) (hg : w.cell? ⟨g, 0, none⟩ = some (.int .i64 r)) :
  Calls Tryz.prog 70 #[.agg #[.int .i64 x.r, .int .i64 x.s, .int .i64 x.n, .slice x.p x.L.length x.c], .pointer (some ⟨g, 0, none⟩)] w fun e w' => e = .returned (.bool (isTb r x)) ∧ w.grownBy w' none := by
 obtain ⟨k1, k2⟩ := tone_box w #[.int .i64 x.r, .int .i64 x.s, .int .i64 x.n, .slice x.p x.L.length x.c] 25
 have HB := Lib.hid (And.intro k1 k2)
 have hg2 := k2.cell hg (by simp)
 have HI : Hid (isTb r x = decide (x.r = r)) := Lib.hid rfl
 clear k1 k2 hg
 go_enter Tryz.func70, Tryz.ntmps70
 go_upto_region 1 with fail
 generalize w.alloc _ = w1 at *
 obtain ⟨c0, c1, c2, c3⟩ := row4T HB.out.1
 by_cases e : x.r = r
 ·have e' : (x.r == r) = true := by simpa using e
  have HE : Hid (isTb r x = true) := Lib.hid (by rw [HI.out]; exact decide_eq_true e)
  clear e
  go_wp2_with fail
  go_ret
  exact ⟨by rw [HE.out]; rfl, HB.out.2⟩
 ·have e' : (x.r == r) = false := by simpa using e
  have HE : Hid (isTb r x = false) := Lib.hid (by rw [HI.out]; exact decide_eq_false e)
  clear e
  go_wp2_with fail
  go_ret
  exact ⟨by rw [HE.out]; rfl, HB.out.2⟩
end Go.Proofs.YtahafijpcmphaaaGreat

/- tables: the program's Find. -/
namespace Go.Proofs.YtahafijpcmphaaaGreat
set_option maxRecDepth 100000
open Go.RowKit Bs
def RdO (lo : Nat) (w : World) (v : Value) (y : Rw) : Prop := RwOk w (fun b => lo ≤ b ∧ b < w.heap.size ∧ some b ≠ v.ownBlock) y
theorem RdO.keep {lo : Nat} {w w1 : World} {v : Value} {y : Rw} (h : RdO lo w v y) (g : w.grownBy w1 none) : RdO lo w1 v y := (RwOk.keep h g).mono (fun b hb => ⟨hb.1, Nat.lt_of_lt_of_le hb.2.1 g.size, hb.2.2⟩)
theorem RdO.put {lo : Nat} {w w1 : World} {v v' : Value} {y : Rw} (h : RdO lo w v y) (g : w.grownBy w1 v.ownBlock) (hv : v'.ownBlock = v.ownBlock ∨ ∀ b, some b = v'.ownBlock → w.heap.size ≤ b) : RdO lo w1 v' y :=
 (RwOk.grown h g (fun b hb => hb.2.2)).mono (fun b hb => ⟨hb.1, Nat.lt_of_lt_of_le hb.2.1 g.size, fun e => by
  rcases hv with hv | hv
  ·rw [hv] at e; exact hb.2.2 e
  ·have := hv b e; have := hb.2.1; omega⟩)
theorem RdO.over {lo r : Nat} {w w1 : World} {v : Value} {y : Rw} (h : RdO lo w v y) (g : w.grownBy w1 (some r)) (hr : ∀ b, lo ≤ b → b ≠ r) : RdO lo w1 v y :=
 (RwOk.grown h g (fun b hb e => hr b hb.1 (Option.some.inj e))).mono (fun b hb => ⟨hb.1, Nat.lt_of_lt_of_le hb.2.1 g.size, hb.2.2⟩)
structure FD (W : World) (F : Nat) (x : Tb) (p : Option Addr) (c : Nat) (Ts : List Tb) (v : Value) (M : List Rw) (w : World) : Prop where
 bZ : w.heap[W.heap.size + 1]? = some (.cells #[.int .i64 0, .int .i64 0, .int .i64 0, .slice none 0 0] 25 (0, 0))
 bF : w.heap[F]? = some (.cells #[.int .i64 x.r, .int .i64 x.s, .int .i64 x.n, v] 25 (0, 0))
 rd : RdT w (· < W.heap.size) p c Ts
 own : w.ownsRow (F + 1) 36 2 v M.length (M.flatMap rwC)
 rows : ∀ y ∈ M, RdO (F + 1) w v y
 gr : W.grownBy w none
 lo : W.heap.size + 2 ≤ F ∧ F + 1 ≤ w.heap.size
theorem FD.keep {W : World} {F : Nat} {x : Tb} {p : Option Addr} {c : Nat} {Ts : List Tb} {v : Value} {M : List Rw} {w w1 : World} (h : FD W F x p c Ts v M w) (g : w.grownBy w1 none) : FD W F x p c Ts v M w1 :=
 ⟨kept_row h.bZ g (by simp), kept_row h.bF g (by simp), h.rd.keep g, h.own.kept g (by cases v.ownBlock <;> simp), fun y hy => (h.rows y hy).keep g, grown_trans h.gr g, h.lo.1, Nat.le_trans h.lo.2 g.size⟩
theorem RdT.grown {w w1 : World} {q : Nat → Prop} {r : Option Nat} {p : Option Addr} {c : Nat} {Ts : List Tb} (h : RdT w q p c Ts) (g : w.grownBy w1 r) (hq : ∀ b, q b → some b ≠ r) : RdT w1 q p c Ts := ⟨h.rd.grown g hq, fun x hx => ⟨(h.ok x hx).1.grown g hq, (h.ok x hx).2⟩⟩
theorem FD.push {W : World} {F : Nat} {x : Tb} {p : Option Addr} {c : Nat} {Ts : List Tb} {v v' : Value} {M : List Rw} {w w1 : World} {y : Rw} (h : FD W F x p c Ts v M w) (hx : RdO (F + 1) w v y) (hown : w1.ownsRow (F + 1) 36 2 v' (M ++ [y]).length ((M ++ [y]).flatMap rwC)) (g : w.grownBy w1 v.ownBlock) (hv : v'.ownBlock = v.ownBlock ∨ ∀ b, some b = v'.ownBlock → w.heap.size ≤ b) :
  w1.heap[F]? = some (.cells #[.int .i64 x.r, .int .i64 x.s, .int .i64 x.n, v] 25 (0, 0)) ∧ FD W F x p c Ts v' (M ++ [y]) (w1.setCell ⟨F, 3, none⟩ v') := by
 have hlo := h.lo
 have hne : ∀ b, b < F + 1 → some b ≠ v.ownBlock := fun b hb e => by have := (h.own.lt b e.symm).1; omega
 have hB := kept_row h.bF g (hne _ (by omega))
 have g2 : w1.grownBy (w1.setCell ⟨F, 3, none⟩ v') (some F) := grown_setCell w1 ⟨F, 3, none⟩ v'
 have hn2 : ∀ b, b ≠ F → some b ≠ some F := fun b hb e => hb (Option.some.inj e)
 refine ⟨hB, kept_row (kept_row h.bZ g (hne _ (by omega))) g2 (hn2 _ (by omega)), heap_setCell_same w1 _ 3 _ _ v' hB, (h.rd.grown g (fun b hb => hne b (by omega))).grown g2 (fun b hb => hn2 b (by omega)), hown.kept g2 ?_, fun z hz => ?_, grown_any (grown_any h.gr g (fun b hb => hne b (by omega))) g2 (fun b hb => hn2 b (by omega)), hlo.1, Nat.le_trans (Nat.le_trans hlo.2 g.size) g2.size⟩
 ·cases hvo : v'.ownBlock with
  | none => exact Or.inl rfl
  | some b => exact Or.inr (fun e => by have := (hown.lt b hvo).1; have := Option.some.inj e; omega)
 ·have hy1 : RdO (F + 1) w v z := by
   rcases List.mem_append.1 hz with hm | hm
   ·exact h.rows z hm
   ·rw [List.mem_singleton.1 hm]; exact hx
  exact (hy1.put g hv).over g2 (fun b hb => by omega)
def TFPost (Ts : List Tb) (r : Int) (w : World) (e : Ending) (w' : World) : Prop :=
 ∃ (M : List Rw) (p : Option Addr) (c : Nat), e = .returned (.tuple #[.agg #[.int .i64 ((fdT Ts r).getD zTb).r, .int .i64 ((fdT Ts r).getD zTb).s, .int .i64 ((fdT Ts r).getD zTb).n, .slice p M.length c], .bool (fdT Ts r).isSome]) ∧ M.map rw0 = ((fdT Ts r).getD zTb).L.map rw0 ∧ w'.ownsRow w.heap.size 36 2 (.slice p M.length c) M.length (M.flatMap rwC) ∧ (∀ y ∈ M, RdO w.heap.size w' (.slice p M.length c) y) ∧ w.grownBy w' none
theorem rw0_push {L M : List Rw} {k : Nat} {y : Rw} {p : Option Addr} {c : Nat} (h : M.map rw0 = (L.take k).map rw0) (hy : L[k]? = some y) : (M ++ [(⟨y.id, y.nx, p, c⟩ : Rw)]).map rw0 = (L.take (k + 1)).map rw0 := by
 rw [List.map_append, h, List.take_add_one, hy, List.map_append]
 rfl
set_option maxHeartbeats 12800000 in
theorem tFind_any (p : Option Addr) (c : Nat) (Ts : List Tb) (r : Int) (w : World) (hR : RdT w (· < w.heap.size) p c Ts) (hm : Ts.length ≤ 9223372036854775807) (hN : ∀ x ∈ Ts, x.L.length ≤ 1000 ∧ ∀ y ∈ x.L, (y.p = none → y.c = 0) ∧ y.nx.length ≤ 1000) :
  Calls Tryz.prog 26 #[.slice p Ts.length c, .int .i64 r] w fun e w' => TFPost Ts r w e w' := by
 have hmf : ∀ (fn : Fn) (first cap : Array Value) (w : World), (Instr.makeFunc fn first cap).run Tryz.prog w = .ok (.func fn first cap) w := fun _ _ _ _ => rfl
 have e1 : EnterF 70 := enters_of Tryz.func70 (by kernel_rfl) rfl
 have EG := Lib.hid e1
 obtain ⟨ii, hii, hi0, hi1, hi2⟩ := info_parts info_rowT
 obtain ⟨k1, k2, k3, k4⟩ := two_boxes w #[.int .i64 r] #[.int .i64 0, .int .i64 0, .int .i64 0, .slice none 0 0] 3 25
 have H0 := Lib.hid (And.intro (show FZ w (w.heap.size + 1) p c Ts (· < w.heap.size) _ from ⟨k2, hR.keep k3, k3⟩) (And.intro (cell_of_row _ _ 0 _ _ _ k1) (Nat.le_of_eq k4.symm)))
 have HN := Lib.hid hN
 clear k1 k2 k3 k4 hR hN e1
 go_enter Tryz.func26, Tryz.ntmps26
 go_upto_region 1 with fail
 generalize (w.alloc _).alloc _ = wa at *
 go_wp2_with fail
 refine (tidxT2_any 70 #[.pointer (some ⟨w.heap.size, 0, none⟩)] (isTb r) EG.out Ts p c _ wa H0.out.1.rd.rd hm (fun x w' hx g => tfind1_any x w.heap.size r w' (g.cell H0.out.2.1 (by simp)))).mono ?_
 rintro e w2 ⟨i, rfl, hi, hg⟩
 have K := Lib.hid (And.intro (H0.out.1.keep hg) (Nat.le_trans H0.out.2.2 hg.size))
 clear hg H0
 rcases hi with ⟨rfl, hi⟩ | ⟨k, x, rfl, hx, hp, hn⟩
 ·have HF := Lib.hid (ft_none hi)
  clear hi
  obtain ⟨z0, z1, z2, z3⟩ := row4T K.out.1.z
  have f0 := frozen_of_row _ _ 0 _ _ K.out.1.z
  have f1 := frozen_of_row _ _ 1 _ _ K.out.1.z
  have f2 := frozen_of_row _ _ 2 _ _ K.out.1.z
  have f3 := frozen_of_row _ _ 3 _ _ K.out.1.z
  have HT := Lib.hid (store4B (.int .i64 0) (.int .i64 0) (.int .i64 0) (.slice none 0 0) K.out.1.z)
  have HG := Lib.hid (grown_new K.out.1.gr HT.out.2 (by omega))
  clear K
  go_wp2_with fail
  refine bodyPost_ret (res_tab_e rfl _ _ (w.heap.size + 1) _ _ _ _ rfl HT.out.1) rfl ?_
  exact ⟨[], none, 0, by rw [HF.out]; rfl, by rw [HF.out]; rfl, World.ownsRow_nil _ _ _ _, fun x hx => (by cases hx), HG.out⟩
 have HF := Lib.hid (ft_some hn hx hp)
 have hk0 : ¬ (k : Int) < 0 := by omega
 have hk00 : (0 : Int) ≤ (k : Int) := by omega
 have hkl : k < Ts.length := (List.getElem?_eq_some_iff.1 hx).1
 have hkl' : (k : Int) < (Ts.length : Int) := by omega
 obtain ⟨-, b, off, rfl, -, -⟩ := tb_cells K.out.1.rd.rd (by omega)
 obtain ⟨a0, a1, a2, a3⟩ := rdT_cells K.out.1.rd hx
 have HX := Lib.hid hx
 have HXN := Lib.hid (HN.out x (List.mem_of_getElem? hx))
 clear hx hp hn
 obtain ⟨b1, g1, s1⟩ := alloc_row (w := w2) #[.int .i64 x.r, .int .i64 x.s, .int .i64 x.n, .slice none 0 0] 25 rfl
 have H4 : Hid (FD w w2.heap.size x (some ⟨b, off, none⟩) c Ts (.slice none 0 0) [] (w2.alloc (.cells #[.int .i64 x.r, .int .i64 x.s, .int .i64 x.n, .slice none 0 0] 25))) := Lib.hid ⟨kept_row K.out.1.z g1 (by simp), b1, K.out.1.rd.keep g1, World.ownsRow_nil _ _ _ _, fun y hy => (by cases hy), grown_trans K.out.1.gr g1, K.out.2, by omega⟩
 clear b1 g1 s1
 go_upto_region 6 with fail
 clear a0 a1 a2 a3 K
 generalize w2.alloc _ = w3 at *
 generalize w2.heap.size = F at *
 obtain ⟨xr, xs, xn, xL, xp, xc⟩ := x
 simp only at H4 HXN
 have hx4 := rdT_cells H4.out.rd HX.out
 obtain ⟨a0, a1, a2, a3⟩ := hx4
 simp only at a0 a1 a2 a3
 have hxl := HXN.out.1
 go_wp2_with fail
 clear a0 a1 a2 a3
 go_loopw [27] (fun v wr => ∃ (j : Nat) (M : List Rw) (p1 : Option Addr) (c1 : Nat), j ≤ xL.length ∧ v = .int .i64 (j : Int) ∧ Hid (M.map rw0 = (xL.take j).map rw0) ∧ Hid (FD w F ⟨xr, xs, xn, xL, xp, xc⟩ (some ⟨b, off, none⟩) c Ts (.slice p1 M.length c1) M wr)) (fun v _ => xL.length - (RowKit.intOf v).toNat)
 case atStart => exact ⟨0, [], none, 0, Nat.zero_le _, rfl, Lib.hid rfl, H4⟩
 case round =>
 clear H4
 obtain ⟨j, M, p1, c1, hj, rfl, HM, K⟩ := hrel
 obtain ⟨w5, hw5⟩ : ∃ w5, w5 = wr := ⟨_, rfl⟩
 rw [← hw5] at K ⊢
 clear hw5
 by_cases hlt : j < xL.length
 case neg =>
  obtain rfl : j = xL.length := by omega
  have hnl : ¬ (xL.length : Int) < (xL.length : Int) := by omega
  rw [List.take_length] at HM
  obtain ⟨d0, d1, d2, d3⟩ := row4T K.out.bF
  obtain ⟨z0, z1, z2, z3⟩ := row4T K.out.bZ
  have f0 := frozen_of_row _ _ 0 _ _ K.out.bZ
  have f1 := frozen_of_row _ _ 1 _ _ K.out.bZ
  have f2 := frozen_of_row _ _ 2 _ _ K.out.bZ
  have f3 := frozen_of_row _ _ 3 _ _ K.out.bZ
  have HT := Lib.hid (store4B (.int .i64 xr) (.int .i64 xs) (.int .i64 xn) (.slice p1 M.length c1) K.out.bZ)
  have HK := Lib.hid K.out
  clear K
  go_wp2_with fail
  refine bodyPost_ret (res_tab_e rfl _ _ (w.heap.size + 1) _ _ _ _ rfl HT.out.1) rfl ?_
  have hlo := HK.out.lo
  exact ⟨M, p1, c1, by rw [HF.out]; rfl, by rw [HF.out]; exact HM.out, (HK.out.own.kept HT.out.2 (by
   cases hvo : (Value.slice p1 M.length c1).ownBlock with
   | none => exact Or.inl rfl
   | some b => exact Or.inr (fun e => by have := (HK.out.own.lt b hvo).1; have := Option.some.inj e; omega))).mono (by omega), fun y hy => by
    have h := (HK.out.rows y hy).over HT.out.2 (fun b hb => by omega)
    exact RwOk.mono h (fun b hb => ⟨by have := hb.1; omega, hb.2⟩), grown_new HK.out.gr HT.out.2 (by omega)⟩
 have hlt' : (j : Int) < (xL.length : Int) := by omega
 have hj0 : (0 : Int) ≤ (j : Int) := by omega
 obtain ⟨y, hy⟩ : ∃ y, xL[j]? = some y := ⟨_, List.getElem?_eq_getElem hlt⟩
 have hxw := (K.out.rd.ok _ (List.mem_of_getElem? HX.out)).1
 simp only at hxw
 obtain ⟨-, b2, o2, rfl, -, hc2⟩ := rw_cells hxw.rd (by omega)
 obtain ⟨a0, a1⟩ := hc2 j y hy
 have HYN := Lib.hid (HXN.out.2 y (List.mem_of_getElem? hy))
 have HYO := Lib.hid (hxw.ok y (List.mem_of_getElem? hy))
 have HY := Lib.hid hy
 have hb5 := alloc_row (w := w5) #[.int .i64 y.id, .slice y.p y.nx.length y.c] 36 rfl
 have H5 := Lib.hid (And.intro hb5.1 hb5.2.1)
 clear hc2 hy hb5 hxw
 go_upto_region 9 with fail
 clear a0 a1
 have hLE : Hid (M.length ≤ 1000) := Lib.hid (by have h := congrArg List.length HM.out; rw [List.length_map, List.length_map, List.length_take] at h; omega)
 have hLl := hLE.out
 generalize w5.alloc _ = w6 at *
 generalize w5.heap.size = g at *
 have K6 := Lib.hid (K.out.keep H5.out.2)
 have HYO6 : Hid (RwOk w6 (· < w6.heap.size) y) := Lib.hid ((HYO.out.keep H5.out.2).mono (fun b (hb : b < w.heap.size) => Nat.lt_of_lt_of_le hb K6.out.gr.size))
 clear K HYO
 refine region_until (S := fun w' => Hid (w6.grownBy w' none)) (fun j => j == 5 || j == 6 || j == 7) (by kernel_rfl) (Lib.hid (grown_drew (grown_refl _ none))) (fun hHeld => ?_)
 refine zU (i := 0) (v := ?_) rfl ?_ hHeld ?_
 rotate_left 1
 ·intro u hSu
  go_simp
  first | done | with_reducible rfl
 try simp only [Act.put, zA, zB, zC]
 refine zU (i := 1) (v := ?_) rfl ?_ hHeld ?_
 rotate_left 1
 ·intro u hSu
  obtain ⟨d0u, d1u, d2u, d3u⟩ := row4T (kept_row K6.out.bF hSu.out (by simp))
  obtain ⟨m0u, m1u⟩ := row_cells (kept_row H5.out.1 hSu.out (by simp))
  go_simp
  first | done | with_reducible rfl
 try simp only [Act.put, zA, zB, zC]
 refine zU (i := 2) (v := ?_) rfl ?_ hHeld ?_
 rotate_left 1
 ·intro u hSu
  obtain ⟨d0u, d1u, d2u, d3u⟩ := row4T (kept_row K6.out.bF hSu.out (by simp))
  obtain ⟨m0u, m1u⟩ := row_cells (kept_row H5.out.1 hSu.out (by simp))
  go_simp
  first | done | with_reducible rfl
 try simp only [Act.put, zA, zB, zC]
 refine anyU_ready (rs := [3]) (by kernel_rfl) (by simp) ?_
 refine EachU.cons (o := ⟨_, _, _, _, _, _⟩) rfl (fun Kz hK => ?_) EachU.nil
 go_simp
 go_at_call 63
 refine (tcopied_any y _ ((HYO6.out.keep hHeld.out).mono (fun b hb => Nat.lt_of_lt_of_le hb hHeld.out.size)) HYN.out.1 HYN.out.2).mono ?_
 rintro e' w7 ⟨p3, c3, rfl, hok, hg⟩
 have HOK := Lib.hid (hok.mono (q' := fun b => w6.heap.size ≤ b) (fun b hb => Nat.le_trans hHeld.out.size hb))
 have HN2 := Lib.hid (grown_trans hHeld.out hg)
 clear hok hg
 simp only
 refine hK.out _ _ (fun _ => HN2) (fun hH2 => ?_)
 clear hK Kz hHeld
 have hHeld := hH2 rfl
 clear hH2
 try simp only [Act.put, zA, zB, zC]
 refine anyU_ready (rs := [4]) (by kernel_rfl) (by simp) ?_
 refine EachU.cons (o := ⟨_, _, _, _, _, _⟩) rfl (fun Kz hK => ?_) EachU.nil
 have KX := Lib.hid (K6.out.keep hHeld.out)
 have HX3 : Hid (RdO (F + 1) w7 (.slice p1 M.length c1) ⟨y.id, y.nx, p3, c3⟩) := Lib.hid ⟨(rd_and HOK.out.rd).mono (fun b hb => ⟨by have := hb.1; have := K6.out.lo; omega, hb.2, fun e => by have := (K6.out.own.lt _ e.symm).2; have := hb.1; omega⟩), HOK.out.hc⟩
 have hXl := HOK.out.hc
 go_simp
 refine hK.out _ _ (fun _ => hid_more hHeld (World.grownBy_alloc _ _ _)) (fun hH2 => ?_)
 clear hK Kz hHeld
 have hHeld := hH2 rfl
 clear hH2
 try simp only [Act.put, zA, zB, zC]
 refine anyU_ready (rs := [5]) (by kernel_rfl) (by simp) ?_
 refine EachU.cons (o := ⟨_, _, _, _, _, _⟩) rfl (fun Kz hK => ?_) EachU.nil
 refine step_append_lies _ (by rfl) _ _ 23 (by rfl) (F + 1) 36 ii (.agg #[.int .i64 0, .slice none 0 0]) 2 32 Tryz.underlying23 hii hi0 hi1 hi2 rfl (by decide) (.slice p1 M.length c1) M.length (M.flatMap rwC) (by rfl) (KX.out.own.alloc _) ⟨w7.heap.size, 0, none⟩ 1 1 (rwC ⟨y.id, y.nx, p3, c3⟩) (by rfl) (by rfl) (rwB_row w7 ⟨y.id, y.nx, p3, c3⟩ _) (rw_one ⟨y.id, y.nx, p3, c3⟩) (by decide) (by unfold maxLen; omega) (by omega) (by have := KX.out.lo; simp; omega) _ rfl ?_
 intro g2 cap w8 hown hgrow hat hlt8
 have ga := World.grownBy_alloc w7 (.cells #[.int .i64 y.id, .slice p3 y.nx.length c3] 36) none
 have hv : (Value.slice (some ⟨g2, 0, none⟩) (M.length + 1) cap).ownBlock = (Value.slice p1 M.length c1).ownBlock ∨ ∀ b, some b = (Value.slice (some ⟨g2, 0, none⟩) (M.length + 1) cap).ownBlock → (w7.alloc (.cells #[.int .i64 y.id, .slice p3 y.nx.length c3] 36)).heap.size ≤ b := by
  rcases hat with h | h
  ·exact Or.inl h.symm
  ·refine Or.inr fun b e => ?_
   have e2 : some b = some g2 := e
   have := Option.some.inj e2
   rw [this, h]
   exact Nat.le_refl _
 have HPS := Lib.hid ((KX.out.keep ga).push (y := ⟨y.id, y.nx, p3, c3⟩) (v' := .slice (some ⟨g2, 0, none⟩) (M.length + 1) cap) (HX3.out.keep ga) (by rw [List.length_append, List.flatMap_append]; simpa [rwC] using hown) hgrow hv)
 have HM2 := Lib.hid (rw0_push (p := p3) (c := c3) HM.out HY.out)
 have HLL : Hid ((M ++ [(⟨y.id, y.nx, p3, c3⟩ : Rw)]).length = M.length + 1) := Lib.hid (by rw [List.length_append]; rfl)
 clear hown hgrow hat hlt8 ga hv HX3 KX
 refine hK.out _ _ (fun h => by cases h) (fun _ => ?_)
 clear hK Kz
 try simp only [Act.put, zA, zB, zC]
 refine anyU_ready (rs := [6]) (by kernel_rfl) (by simp) ?_
 refine EachU.cons (o := ⟨_, _, _, _, _, _⟩) rfl (fun Kz hK => ?_) EachU.nil
 go_simp
 refine hK.out _ _ (fun h => by cases h) (fun _ => ?_)
 clear hK Kz
 try simp only [Act.put, zA, zB, zC]
 refine anyU_ready (rs := [7]) (by kernel_rfl) (by simp) ?_
 refine EachU.cons (o := ⟨_, _, _, _, _, _⟩) rfl (fun Kz hK => ?_) EachU.nil
 obtain ⟨y0, y1, y2, y3⟩ := row4T HPS.out.1
 have f3 := frozen_of_row _ _ 3 _ _ HPS.out.1
 go_simp
 refine hK.out _ _ (fun h => by cases h) (fun _ => ?_)
 clear hK Kz
 try simp only [Act.put, zA, zB, zC]
 refine anyU_done (by kernel_rfl) ?_ _
 clear hHeld
 have HBD := Lib.hid HPS.out.2
 clear y0 y1 y2 y3 f3 HPS
 go_wp2_with fail
 exact ⟨⟨j + 1, M ++ [⟨y.id, y.nx, p3, c3⟩], some ⟨g2, 0, none⟩, cap, by omega, congrArg _ (by omega), HM2, by rw [HLL.out]; exact HBD⟩, by simp only [RowKit.intOf]; omega⟩
end Go.Proofs.YtahafijpcmphaaaGreat

/- tables: the program's nextTo. -/
namespace Go.Proofs.YtahafijpcmphaaaGreat
set_option maxRecDepth 100000
open Go.RowKit Bs
def NtPost (R : List Rt) (L : List Lk) (ro r : Int) (w : World) (e : Ending) (w' : World) : Prop :=
 ∃ (X : List Int) (p : Option Addr) (c : Nat), e = .returned (.slice p X.length c) ∧ Rd w' (w.heap.size ≤ ·) (.slice p X.length c) (X.map tv) ∧ (p = none → c = 0) ∧ (X.length ≤ c ∧ c ≤ 9223372036854775807) ∧ NxB R L ro r X ∧ w.grownBy w' none
set_option maxHeartbeats 3200000 in
theorem tnextTo_any (T : Tg) (ro r : Int) (q : Nat → Prop) (w : World) (hT : TgOk w q T) (hp : T.pL = none → T.cL = 0) (hl0 : T.R.length ≤ 1000) (hl1 : okT T.R T.L = true → T.R.length ≤ 12) (hl2 : T.L.length ≤ 1000) (hx : okT T.R T.L = true → I64 ro) :
  Calls Tryz.prog 114 #[.agg #[.slice T.pR T.R.length T.cR, .slice T.pL T.L.length T.cL], .int .i64 ro, .int .i64 r] w fun e w' => NtPost T.R T.L ro r w e w' := by
 obtain ⟨R, L, pR, cR, pL, cL⟩ := T
 simp only at hp hl0 hl1 hl2 hx ⊢
 obtain ⟨k1, k2⟩ := tone_box w #[.slice pR R.length cR, .slice pL L.length cL] 45
 have HB := Lib.hid (And.intro k1 (And.intro k2 (hT.keep k2)))
 clear k1 k2 hT
 have HX := Lib.hid (And.intro hp (And.intro hx hl1))
 clear hp hx hl1
 go_enter Tryz.func114, Tryz.ntmps114
 go_upto_region 1 with fail
 generalize w.alloc _ = wa at *
 have HZ : Hid (w.heap.size ≤ wa.heap.size) := Lib.hid HB.out.2.1.size
 by_cases her : r = ro
 case pos =>
  have her' : (r == ro) = true := by simpa using her
  have HER := Lib.hid her
  clear her
  go_wp2_with fail
  go_ret
  have hb := alloc_row (w := wa) #[.int .i64 ro] 3 rfl
  refine ⟨[ro], some ⟨wa.heap.size, 0, none⟩, 1, rfl, ⟨_, 1, rfl, fun _ => ⟨_, _, rfl, HZ.out, fun i u hi => ?_⟩⟩, fun h => (by cases h), ⟨by show 1 ≤ 1; decide, by show 1 ≤ 9223372036854775807; decide⟩, by unfold NxB; rw [if_pos HER.out], grown_trans HB.out.2.1 hb.2.1⟩
  rw [Nat.zero_add, cell_of_row _ _ _ _ _ _ hb.1]
  simpa [tv] using hi
 have her' : (r == ro) = false := by simpa using her
 have HER := Lib.hid her
 clear her
 obtain ⟨c0, c1⟩ := row_cells HB.out.1
 go_upto_region 3 with fail
 clear her'
 go_wp2_with fail
 refine (tcap_any ⟨R, L, pR, cR, pL, cL⟩ r _ wa HB.out.2.2 (by show R.length ≤ 1000000; omega)).mono ?_
 rintro e w2 ⟨rfl, hg⟩
 have H2 := Lib.hid (And.intro (kept_row HB.out.1 hg (by simp)) (And.intro (grown_trans HB.out.2.1 hg) (HB.out.2.2.keep hg)))
 clear hg c0 c1 HB
 simp only
 obtain ⟨c0, c1⟩ := row_cells H2.out.1
 cases hcp : capV R L r
 case false =>
  have HC := Lib.hid hcp
  clear hcp
  go_wp2_with fail
  go_ret
  exact ⟨[], none, 0, rfl, ⟨none, 0, rfl, fun h => absurd rfl h⟩, fun _ => rfl, ⟨Nat.le_refl _, by show (0 : Nat) ≤ _; omega⟩, by unfold NxB; rw [if_neg HER.out, if_neg (by rw [HC.out]; decide)], H2.out.2.1⟩
 have HC := Lib.hid hcp
 clear hcp
 go_wp2_with fail
 refine (thops0_any ⟨R, L, pR, cR, pL, cL⟩ ro r _ w2 H2.out.2.2 HX.out.1 hl0 HX.out.2.2 hl2 HX.out.2.1 (fun a y hy => nxt_rngT R L r a y hy)).mono ?_
 rintro e w3 ⟨M, p, c, rfl, hr, hn, hc, hA, hU, hg⟩
 have HU := Lib.hid (And.intro hA (And.intro hU.2.1 (hopU_hops hU)))
 have HR := Lib.hid (And.intro (hr.mono (q' := fun b => w.heap.size ≤ b) (fun b hb => Nat.le_trans H2.out.2.1.size hb)) (And.intro hn (And.intro hc (grown_trans H2.out.2.1 hg))))
 clear hr hn hc hA hU hg c0 c1 H2
 simp only
 go_wp2_with fail
 go_ret
 exact ⟨M, p, c, rfl, HR.out.1, HR.out.2.1, HR.out.2.2.1, by unfold NxB; rw [if_neg HER.out, if_pos HC.out]; exact HU.out, HR.out.2.2.2⟩
end Go.Proofs.YtahafijpcmphaaaGreat

/- tables: the program's build. -/
namespace Go.Proofs.YtahafijpcmphaaaGreat
set_option maxRecDepth 100000
open Go.RowKit Bs
set_option maxHeartbeats 12800000 in
theorem tbuild_any (T : Tg) (s n ro : Int) (E : List Ed) (pE : Option Addr) (cE : Nat) (q q2 : Nat → Prop) (w : World) (hT : TgOk w q T) (hE : RdF w q2 (.slice pE E.length cE) E.length (E.flatMap edC)) (hm : E.length ≤ 1000) (hp : T.pL = none → T.cL = 0) (hl0 : T.R.length ≤ 1000) (hl1 : okT T.R T.L = true → T.R.length ≤ 12) (hl2 : T.L.length ≤ 1000) (hx : okT T.R T.L = true → I64 ro) :
  Calls Tryz.prog 85 #[.agg #[.slice T.pR T.R.length T.cR, .slice T.pL T.L.length T.cL], .agg #[.int .i64 s, .int .i64 n, .slice pE E.length cE], .int .i64 ro] w fun e w' => BldPost T.R T.L ro s n E w e w' := by
 obtain ⟨R, L0, pR, cR, pL, cL⟩ := T
 simp only at hp hl0 hl1 hl2 hx ⊢
 obtain ⟨ii, hii, hi0, hi1, hi2⟩ := info_parts info_rowT
 have H0 := Lib.hid (bd_start s n ro hT hE)
 have HPX := Lib.hid (And.intro hp (And.intro hx hl1))
 clear hT hE hp hx hl1
 go_enter Tryz.func85, Tryz.ntmps85
 go_upto_region 2 with fail
 generalize (((w.alloc _).alloc _).alloc _).alloc _ = wa at *
 obtain ⟨q0, q1, q2⟩ := row3B H0.out.bP
 go_wp2_with fail
 go_loopw [19] (fun a wr => ∃ (k : Nat) (L : List Rw) (p : Option Addr) (c : Nat), k ≤ E.length ∧ a = .int .i64 (k : Int) ∧ Hid (BldM R L0 ro (E.take k) L) ∧ Hid (BD w ⟨R, L0, pR, cR, pL, cL⟩ s n ro E pE cE (.slice p L.length c) L wr)) (fun a _ => E.length - (RowKit.intOf a).toNat)
 case atStart => exact ⟨0, [], none, 0, Nat.zero_le _, rfl, Lib.hid ⟨by rw [List.take_zero]; rfl, fun i e x hi => by rw [List.take_zero] at hi; simp at hi⟩, H0⟩
 case round =>
 clear H0 q0 q1 q2
 obtain ⟨k, L, p, c, hk, rfl, HB, K⟩ := hrel
 obtain ⟨w5, hw5⟩ : ∃ w5, w5 = wr := ⟨_, rfl⟩
 rw [← hw5] at K ⊢
 clear hw5
 by_cases hlt : k < E.length
 case neg =>
  obtain rfl : k = E.length := by omega
  have hnl : ¬ (E.length : Int) < (E.length : Int) := by omega
  rw [List.take_length] at HB
  obtain ⟨d0, d1, d2, d3⟩ := row4T K.out.bB
  obtain ⟨z0, z1, z2, z3⟩ := row4T K.out.bR
  have f0 := frozen_of_row _ _ 0 _ _ K.out.bR
  have f1 := frozen_of_row _ _ 1 _ _ K.out.bR
  have f2 := frozen_of_row _ _ 2 _ _ K.out.bR
  have f3 := frozen_of_row _ _ 3 _ _ K.out.bR
  have HT := Lib.hid (store4B (.int .i64 ro) (.int .i64 s) (.int .i64 n) (.slice p L.length c) K.out.bR)
  have HK := Lib.hid K.out
  clear K
  go_wp2_with fail
  refine bodyPost_ret (res_tabB rfl _ _ (w.heap.size + 1 + 1) _ _ _ _ rfl HT.out.1) rfl ?_
  have hne : ∀ b, w.heap.size + 4 ≤ b → b ≠ w.heap.size + 1 + 1 := fun b hb => by omega
  exact ⟨L, p, c, rfl, (HK.out.own.kept HT.out.2 (by
   cases hvo : (Value.slice p L.length c).ownBlock with
   | none => exact Or.inl rfl
   | some b => exact Or.inr (fun e => by have := (HK.out.own.lt b hvo).1; have := Option.some.inj e; omega))).mono (by omega), fun x hx => by
    have h := (HK.out.rows x hx).over HT.out.2 hne
    exact ⟨h.1.mono (fun b hb => ⟨by have := hb.1; omega, hb.2⟩), h.2⟩, HB.out, grown_new HK.out.gr HT.out.2 (by omega)⟩
 have hlt' : (k : Int) < (E.length : Int) := by omega
 have hk0 : (0 : Int) ≤ (k : Int) := by omega
 obtain ⟨e, he⟩ : ∃ e, E[k]? = some e := ⟨_, List.getElem?_eq_getElem hlt⟩
 obtain ⟨b, off, rfl, hc⟩ := edT_cells K.out.e (by omega)
 obtain ⟨a0, a1⟩ := hc k e he
 have HE := Lib.hid he
 have hB5 := alloc_row (w := w5) #[.int .i64 e.r, .int .i64 e.i] 71 rfl
 have H5 := Lib.hid (And.intro hB5.1 hB5.2.1)
 clear hc he hB5
 go_upto_region 5 with fail
 clear a0 a1
 have hLE : Hid (L.length ≤ 1000) := Lib.hid (by have := HB.out.1; rw [List.length_take] at this; omega)
 have hLl := hLE.out
 generalize w5.alloc _ = w6 at *
 obtain ⟨g, hg⟩ : ∃ g, w5.heap.size = g := ⟨_, rfl⟩
 have HGE := Lib.hid hg
 rw [hg] at H5 ⊢
 clear hg
 have K6 := Lib.hid (K.out.keep H5.out.2)
 refine region_until (S := fun w' => Hid (w6.grownBy w' none)) (fun j => j == 11 || j == 12 || j == 13) (by kernel_rfl) (Lib.hid (grown_drew (grown_refl _ none))) (fun hHeld => ?_)
 refine zU (i := 0) (v := ?_) rfl ?_ hHeld ?_
 rotate_left 1
 ·intro u hSu
  go_simp
  first | done | with_reducible rfl
 try simp only [Act.put, zA, zB, zC]
 refine zU (i := 1) (v := ?_) rfl ?_ hHeld ?_
 rotate_left 1
 ·intro u hSu
  obtain ⟨t0u, t1u⟩ := row_cells (kept_row K6.out.bT hSu.out (by simp))
  obtain ⟨d0u, d1u, d2u, d3u⟩ := row4T (kept_row K6.out.bB hSu.out (by simp))
  obtain ⟨m0u, m1u⟩ := row_cells (kept_row H5.out.1 hSu.out (by simp))
  go_simp
  first | done | with_reducible rfl
 try simp only [Act.put, zA, zB, zC]
 refine zU (i := 2) (v := ?_) rfl ?_ hHeld ?_
 rotate_left 1
 ·intro u hSu
  go_simp
  first | done | with_reducible rfl
 try simp only [Act.put, zA, zB, zC]
 refine zU (i := 3) (v := ?_) rfl ?_ hHeld ?_
 rotate_left 1
 ·intro u hSu
  obtain ⟨t0u, t1u⟩ := row_cells (kept_row K6.out.bT hSu.out (by simp))
  obtain ⟨d0u, d1u, d2u, d3u⟩ := row4T (kept_row K6.out.bB hSu.out (by simp))
  obtain ⟨m0u, m1u⟩ := row_cells (kept_row H5.out.1 hSu.out (by simp))
  go_simp
  first | done | with_reducible rfl
 try simp only [Act.put, zA, zB, zC]
 refine zU (i := 4) (v := ?_) rfl ?_ hHeld ?_
 rotate_left 1
 ·intro u hSu
  obtain ⟨t0u, t1u⟩ := row_cells (kept_row K6.out.bT hSu.out (by simp))
  obtain ⟨d0u, d1u, d2u, d3u⟩ := row4T (kept_row K6.out.bB hSu.out (by simp))
  obtain ⟨m0u, m1u⟩ := row_cells (kept_row H5.out.1 hSu.out (by simp))
  go_simp
  first | done | with_reducible rfl
 try simp only [Act.put, zA, zB, zC]
 refine zU (i := 5) (v := ?_) rfl ?_ hHeld ?_
 rotate_left 1
 ·intro u hSu
  go_simp
  first | done | with_reducible rfl
 try simp only [Act.put, zA, zB, zC]
 refine zU (i := 6) (v := ?_) rfl ?_ hHeld ?_
 rotate_left 1
 ·intro u hSu
  go_simp
  first | done | with_reducible rfl
 try simp only [Act.put, zA, zB, zC]
 refine zU (i := 7) (v := ?_) rfl ?_ hHeld ?_
 rotate_left 1
 ·intro u hSu
  obtain ⟨t0u, t1u⟩ := row_cells (kept_row K6.out.bT hSu.out (by simp))
  obtain ⟨d0u, d1u, d2u, d3u⟩ := row4T (kept_row K6.out.bB hSu.out (by simp))
  obtain ⟨m0u, m1u⟩ := row_cells (kept_row H5.out.1 hSu.out (by simp))
  go_simp
  first | done | with_reducible rfl
 try simp only [Act.put, zA, zB, zC]
 refine anyU_ready (rs := [8]) (by kernel_rfl) (by simp) ?_
 refine EachU.cons (o := ⟨_, _, _, _, _, _⟩) rfl (fun Kz hK => ?_) EachU.nil
 go_simp
 go_at_call 114
 refine (tnextTo_any ⟨R, L0, pR, cR, pL, cL⟩ ro e.r _ _ (K6.out.keep hHeld.out).t HPX.out.1 hl0 HPX.out.2.2 hl2 HPX.out.2.1).mono ?_
 rintro e' w7 ⟨X, p1, c1, rfl, hr, hn, hc, hNB, hg⟩
 have hr6 := hr.mono (q' := fun b => w6.heap.size ≤ b) (fun b hb => Nat.le_trans hHeld.out.size hb)
 have HX : Hid (RdX (w.heap.size + 4) w7 (.slice p L.length c) p1 c1 X) := Lib.hid ⟨(rd_and hr6).mono (fun b hb => ⟨by have := hb.1; have := K6.out.lo; omega, hb.2, fun e => by have := (K6.out.own.lt _ e.symm).2; have := hb.1; omega⟩), hn, hc⟩
 have HXM := Lib.hid hNB
 have HN := Lib.hid (grown_trans hHeld.out hg)
 clear hr hr6 hn hc hNB hg
 simp only
 refine hK.out _ _ (fun _ => HN) (fun hH2 => ?_)
 clear hK Kz hHeld
 have hHeld := hH2 rfl
 clear hH2
 try simp only [Act.put, zA, zB, zC]
 refine zU (i := 9) (v := ?_) rfl ?_ hHeld ?_
 rotate_left 1
 ·intro u hSu
  obtain ⟨t0u, t1u⟩ := row_cells (kept_row K6.out.bT hSu.out (by simp))
  obtain ⟨d0u, d1u, d2u, d3u⟩ := row4T (kept_row K6.out.bB hSu.out (by simp))
  obtain ⟨m0u, m1u⟩ := row_cells (kept_row H5.out.1 hSu.out (by simp))
  go_simp
  first | done | with_reducible rfl
 try simp only [Act.put, zA, zB, zC]
 refine anyU_ready (rs := [10]) (by kernel_rfl) (by simp) ?_
 refine EachU.cons (o := ⟨_, _, _, _, _, _⟩) rfl (fun Kz hK => ?_) EachU.nil
 have KX := Lib.hid (K6.out.keep hHeld.out)
 have hXl := HX.out.2.2
 go_simp
 refine hK.out _ _ (fun _ => hid_more hHeld (World.grownBy_alloc _ _ _)) (fun hH2 => ?_)
 clear hK Kz hHeld
 have hHeld := hH2 rfl
 clear hH2
 try simp only [Act.put, zA, zB, zC]
 refine anyU_ready (rs := [11]) (by kernel_rfl) (by simp) ?_
 refine EachU.cons (o := ⟨_, _, _, _, _, _⟩) rfl (fun Kz hK => ?_) EachU.nil
 refine step_append_lies _ (by rfl) _ _ 23 (by rfl) (w.heap.size + 4) 36 ii (.agg #[.int .i64 0, .slice none 0 0]) 2 32 Tryz.underlying23 hii hi0 hi1 hi2 rfl (by decide) (.slice p L.length c) L.length (L.flatMap rwC) (by rfl) (KX.out.own.alloc _) ⟨w7.heap.size, 0, none⟩ 1 1 (rwC ⟨e.i, X, p1, c1⟩) (by rfl) (by rfl) (rwB_row w7 ⟨e.i, X, p1, c1⟩ _) (rw_one ⟨e.i, X, p1, c1⟩) (by decide) (by unfold maxLen; omega) (by omega) (by have := KX.out.lo; simp; omega) _ rfl ?_
 intro g2 cap w8 hown hgrow hat hlt8
 have ga := World.grownBy_alloc w7 (.cells #[.int .i64 e.i, .slice p1 X.length c1] 36) none
 have hv : (Value.slice (some ⟨g2, 0, none⟩) (L.length + 1) cap).ownBlock = (Value.slice p L.length c).ownBlock ∨ ∀ b, some b = (Value.slice (some ⟨g2, 0, none⟩) (L.length + 1) cap).ownBlock → (w7.alloc (.cells #[.int .i64 e.i, .slice p1 X.length c1] 36)).heap.size ≤ b := by
  rcases hat with h | h
  ·exact Or.inl h.symm
  ·refine Or.inr fun b e => ?_
   have e2 : some b = some g2 := e
   have := Option.some.inj e2
   rw [this, h]
   exact Nat.le_refl _
 have HPS := Lib.hid ((KX.out.keep ga).push (x := ⟨e.i, X, p1, c1⟩) (v' := .slice (some ⟨g2, 0, none⟩) (L.length + 1) cap) (HX.out.keep ga) (by rw [List.length_append, List.flatMap_append]; simpa [rwC] using hown) hgrow hv)
 have HBM : Hid (BldM R L0 ro (E.take (k + 1)) (L ++ [⟨e.i, X, p1, c1⟩])) := Lib.hid (HB.out.push HE.out HXM.out p1 c1)
 have HLL : Hid ((L ++ [(⟨e.i, X, p1, c1⟩ : Rw)]).length = L.length + 1) := Lib.hid (by rw [List.length_append]; rfl)
 clear hown hgrow hat hlt8 ga hv HX HXM KX
 refine hK.out _ _ (fun h => by cases h) (fun _ => ?_)
 clear hK Kz
 try simp only [Act.put, zA, zB, zC]
 refine anyU_ready (rs := [12]) (by kernel_rfl) (by simp) ?_
 refine EachU.cons (o := ⟨_, _, _, _, _, _⟩) rfl (fun Kz hK => ?_) EachU.nil
 go_simp
 refine hK.out _ _ (fun h => by cases h) (fun _ => ?_)
 clear hK Kz
 try simp only [Act.put, zA, zB, zC]
 refine anyU_ready (rs := [13]) (by kernel_rfl) (by simp) ?_
 refine EachU.cons (o := ⟨_, _, _, _, _, _⟩) rfl (fun Kz hK => ?_) EachU.nil
 obtain ⟨y0, y1, y2, y3⟩ := row4T HPS.out.1
 have f3 := frozen_of_row _ _ 3 _ _ HPS.out.1
 go_simp
 refine hK.out _ _ (fun h => by cases h) (fun _ => ?_)
 clear hK Kz
 try simp only [Act.put, zA, zB, zC]
 refine anyU_done (by kernel_rfl) ?_ _
 clear hHeld
 have HBD := Lib.hid HPS.out.2
 clear y0 y1 y2 y3 f3 HPS
 go_wp2_with fail
 exact ⟨⟨k + 1, L ++ [⟨e.i, X, p1, c1⟩], some ⟨g2, 0, none⟩, cap, by omega, congrArg _ (by omega), HBM, by rw [HLL.out]; exact HBD⟩, by simp only [RowKit.intOf]; omega⟩
end Go.Proofs.YtahafijpcmphaaaGreat

/- tables: the program's Build. -/
namespace Go.Proofs.YtahafijpcmphaaaGreat
set_option maxRecDepth 100000
open Go.RowKit Bs
set_option maxHeartbeats 3200000 in
theorem tvalidT_any (T : Tg) (s n : Int) (E : List Ed) (pE : Option Addr) (cE : Nat) (q q2 : Nat → Prop) (w : World) (hT : TgOk w q T) (hE : RdF w q2 (.slice pE E.length cE) E.length (E.flatMap edC)) (hm : E.length ≤ 9223372036854775807) :
  Calls Tryz.prog 83 #[.agg #[.slice T.pR T.R.length T.cR, .slice T.pL T.L.length T.cL], .agg #[.int .i64 s, .int .i64 n, .slice pE E.length cE]] w fun e w' => e = .returned (.bool (okT T.R T.L && vPl s n E)) ∧ w.grownBy w' none := by
 obtain ⟨R, L0, pR, cR, pL, cL⟩ := T
 simp only
 have H0 := Lib.hid (alT_start s n hT hE)
 clear hT hE
 go_enter Tryz.func83, Tryz.ntmps83
 go_upto_region 1 with fail
 generalize (w.alloc _).alloc _ = wa at *
 obtain ⟨t0, t1⟩ := row_cells H0.out.bT
 obtain ⟨q0, q1, q2⟩ := row3B H0.out.bP
 go_wp2_with fail
 refine (tcheck_any ⟨R, L0, pR, cR, pL, cL⟩ _ wa H0.out.t).mono ?_
 rintro e w1 ⟨rfl, hg⟩
 have H1 := Lib.hid (H0.out.keep hg)
 clear hg H0 t0 t1 q0 q1 q2
 simp only
 by_cases hck : chk R L0 = 0
 case neg =>
  have hck' : (chk R L0 == 0) = false := by simpa using hck
  have HF : Hid (okT R L0 = false) := Lib.hid (by unfold okT; exact hck')
  clear hck
  go_wp2_with fail
  go_ret
  exact ⟨by rw [HF.out]; rfl, H1.out.gr⟩
 have HOK : Hid (okT R L0 = true) := Lib.hid (by unfold okT; simpa using hck)
 rw [hck]
 clear hck
 obtain ⟨t0, t1⟩ := row_cells H1.out.bT
 obtain ⟨q0, q1, q2⟩ := row3B H1.out.bP
 go_wp2_with fail
 refine (ivplan_any s n E pE cE _ w1 H1.out.e hm).mono ?_
 rintro e w2 ⟨rfl, hg⟩
 have H2 := Lib.hid (H1.out.keep hg)
 clear hg H1 t0 t1 q0 q1 q2
 simp only
 go_wp2_with fail
 go_ret
 exact ⟨by rw [HOK.out, Bool.true_and]; rfl, H2.out.gr⟩
set_option maxHeartbeats 6400000 in
theorem tBuild_any (T : Tg) (s n ro : Int) (E : List Ed) (pE : Option Addr) (cE : Nat) (q q2 : Nat → Prop) (w : World) (hT : TgOk w q T) (hE : RdF w q2 (.slice pE E.length cE) E.length (E.flatMap edC)) (hm : E.length ≤ 9223372036854775807) (hp : T.pL = none → T.cL = 0) (hl0 : T.R.length ≤ 1000) (hl1 : okT T.R T.L = true → T.R.length ≤ 12) (hl2 : T.L.length ≤ 1000) (hx : okT T.R T.L = true → I64 ro) :
  Calls Tryz.prog 34 #[.agg #[.slice T.pR T.R.length T.cR, .slice T.pL T.L.length T.cL], .agg #[.int .i64 s, .int .i64 n, .slice pE E.length cE], .int .i64 ro] w fun e w' => TBdPost T.R T.L ro s n E w e w' := by
 obtain ⟨R, L0, pR, cR, pL, cL⟩ := T
 simp only at hp hl0 hl1 hl2 hx ⊢
 have H0 := Lib.hid (b3_start s n hT hE)
 have HPX := Lib.hid (And.intro hp (And.intro hx hl1))
 clear hT hE hp hx hl1
 go_enter Tryz.func34, Tryz.ntmps34
 go_upto_region 1 with fail
 generalize ((w.alloc _).alloc _).alloc _ = wa at *
 obtain ⟨t0, t1⟩ := row_cells H0.out.bT
 obtain ⟨q0, q1, q2⟩ := row3B H0.out.bP
 go_wp2_with fail
 refine (tvalidT_any ⟨R, L0, pR, cR, pL, cL⟩ s n E pE cE _ _ wa H0.out.t H0.out.e hm).mono ?_
 rintro e w1 ⟨rfl, hg⟩
 have H1 := Lib.hid (H0.out.keep hg)
 clear hg H0 t0 t1 q0 q1 q2
 simp only
 obtain ⟨vb, hvb⟩ : ∃ vb, (okT R L0 && vPl s n E) = vb := ⟨_, rfl⟩
 rw [hvb]
 cases vb
 case false =>
  have HE : Hid (buE R L0 s n E ro = 1) := Lib.hid (bu_inv (fun h => by rw [h.1, h.2] at hvb; cases hvb))
  clear hvb
  obtain ⟨z0, z1, z2, z3⟩ := row4T H1.out.bR
  have f0 := frozen_of_row _ _ 0 _ _ H1.out.bR
  have f1 := frozen_of_row _ _ 1 _ _ H1.out.bR
  have f2 := frozen_of_row _ _ 2 _ _ H1.out.bR
  have f3 := frozen_of_row _ _ 3 _ _ H1.out.bR
  have HT := Lib.hid (store4B (.int .i64 0) (.int .i64 0) (.int .i64 0) (.slice none 0 0) H1.out.bR)
  have HK := Lib.hid H1.out
  clear H1
  go_wp2_with fail
  refine bodyPost_ret (res_tab_e rfl _ _ (w.heap.size + 1 + 1) _ _ _ _ rfl HT.out.1) rfl ?_
  exact tbd_zero HE.out (by decide) (grown_new HK.out.gr HT.out.2 (by omega))
 have HV : Hid (okT R L0 = true ∧ vPl s n E = true) := Lib.hid (by simpa using hvb)
 clear hvb
 obtain ⟨t0, t1⟩ := row_cells H1.out.bT
 obtain ⟨q0, q1, q2⟩ := row3B H1.out.bP
 go_wp2_with fail
 refine (thas_any ⟨R, L0, pR, cR, pL, cL⟩ ro _ w1 H1.out.t (by show R.length ≤ 1000000; omega)).mono ?_
 rintro e w2 ⟨rfl, hg⟩
 have H2 := Lib.hid (H1.out.keep hg)
 clear hg H1 t0 t1 q0 q1 q2
 simp only
 obtain ⟨hb, hhb⟩ : ∃ hb, hasV R L0 ro = hb := ⟨_, rfl⟩
 rw [hhb]
 cases hb
 case false =>
  have HE : Hid (buE R L0 s n E ro = 4) := Lib.hid (bu_unk HV.out hhb)
  clear hhb
  obtain ⟨z0, z1, z2, z3⟩ := row4T H2.out.bR
  have f0 := frozen_of_row _ _ 0 _ _ H2.out.bR
  have f1 := frozen_of_row _ _ 1 _ _ H2.out.bR
  have f2 := frozen_of_row _ _ 2 _ _ H2.out.bR
  have f3 := frozen_of_row _ _ 3 _ _ H2.out.bR
  have HT := Lib.hid (store4B (.int .i64 0) (.int .i64 0) (.int .i64 0) (.slice none 0 0) H2.out.bR)
  have HK := Lib.hid H2.out
  clear H2
  go_wp2_with fail
  refine bodyPost_ret (res_tab_e rfl _ _ (w.heap.size + 1 + 1) _ _ _ _ rfl HT.out.1) rfl ?_
  exact tbd_zero HE.out (by decide) (grown_new HK.out.gr HT.out.2 (by omega))
 have HH := Lib.hid hhb
 clear hhb
 obtain ⟨t0, t1⟩ := row_cells H2.out.bT
 obtain ⟨q0, q1, q2⟩ := row3B H2.out.bP
 go_wp2_with fail
 refine (tcap_any ⟨R, L0, pR, cR, pL, cL⟩ ro _ w2 H2.out.t (by show R.length ≤ 1000000; omega)).mono ?_
 rintro e w3 ⟨rfl, hg⟩
 have H3 := Lib.hid (H2.out.keep hg)
 clear hg H2 t0 t1 q0 q1 q2
 simp only
 obtain ⟨cb, hcb⟩ : ∃ cb, capV R L0 ro = cb := ⟨_, rfl⟩
 rw [hcb]
 cases cb
 case false =>
  have HE : Hid (buE R L0 s n E ro = 26) := Lib.hid (bu_cap HV.out HH.out hcb)
  clear hcb
  obtain ⟨z0, z1, z2, z3⟩ := row4T H3.out.bR
  have f0 := frozen_of_row _ _ 0 _ _ H3.out.bR
  have f1 := frozen_of_row _ _ 1 _ _ H3.out.bR
  have f2 := frozen_of_row _ _ 2 _ _ H3.out.bR
  have f3 := frozen_of_row _ _ 3 _ _ H3.out.bR
  have HT := Lib.hid (store4B (.int .i64 0) (.int .i64 0) (.int .i64 0) (.slice none 0 0) H3.out.bR)
  have HK := Lib.hid H3.out
  clear H3
  go_wp2_with fail
  refine bodyPost_ret (res_tab_e rfl _ _ (w.heap.size + 1 + 1) _ _ _ _ rfl HT.out.1) rfl ?_
  exact tbd_zero HE.out (by decide) (grown_new HK.out.gr HT.out.2 (by omega))
 have HC := Lib.hid hcb
 clear hcb
 have HE : Hid (buE R L0 s n E ro = 0) := Lib.hid (bu_ok HV.out HH.out HC.out)
 have hE24 := rows_len HV.out.2
 obtain ⟨t0, t1⟩ := row_cells H3.out.bT
 obtain ⟨q0, q1, q2⟩ := row3B H3.out.bP
 go_wp2_with fail
 refine (tbuild_any ⟨R, L0, pR, cR, pL, cL⟩ s n ro E pE cE _ _ w3 H3.out.t H3.out.e (by omega) HPX.out.1 hl0 HPX.out.2.2 hl2 HPX.out.2.1).mono ?_
 rintro e w4 ⟨L, p, c, rfl, hown, hrows, hM, hg⟩
 have H4 := Lib.hid (H3.out.keep hg)
 have HO := Lib.hid (And.intro hown (And.intro hrows hM))
 have HZ : Hid (w.heap.size + 3 ≤ w3.heap.size) := Lib.hid H3.out.lo
 clear hown hrows hM hg H3 t0 t1 q0 q1 q2
 simp only
 obtain ⟨z0, z1, z2, z3⟩ := row4T H4.out.bR
 have f0 := frozen_of_row _ _ 0 _ _ H4.out.bR
 have f1 := frozen_of_row _ _ 1 _ _ H4.out.bR
 have f2 := frozen_of_row _ _ 2 _ _ H4.out.bR
 have f3 := frozen_of_row _ _ 3 _ _ H4.out.bR
 have HT := Lib.hid (store4B (.int .i64 ro) (.int .i64 s) (.int .i64 n) (.slice p L.length c) H4.out.bR)
 have HK := Lib.hid H4.out
 clear H4
 go_wp2_with fail
 refine bodyPost_ret (res_tab_e rfl _ _ (w.heap.size + 1 + 1) _ _ _ _ rfl HT.out.1) rfl ?_
 obtain ⟨k1, k2, k3⟩ := HK.out.out HO.out.1 HO.out.2.1 HZ.out HT.out.2
 exact ⟨ro, s, n, L, p, c, 0, rfl, HE.out.symm, k1, k2, Or.inl ⟨rfl, rfl, rfl, rfl, HO.out.2.2⟩, k3⟩
end Go.Proofs.YtahafijpcmphaaaGreat

/- tables, the reference's functions: Build. -/
namespace Go.Proofs.YtahafijpcmphaaaGreat
set_option maxRecDepth 100000
open Go.RowKit Bs
end Go.Proofs.YtahafijpcmphaaaGreat

/- tables: the program's Same. -/
namespace Go.Proofs.YtahafijpcmphaaaGreat
set_option maxRecDepth 100000
open Go.RowKit Bs
theorem rw0_get {L : List Rw} {k : Nat} {x : Rw} (h : L[k]? = some x) : (L.map rw0)[k]? = some (rw0 x) := by rw [List.getElem?_map, h]; rfl
theorem rw0_ne {L M : List Rw} (h : L.length ≠ M.length) : ¬ L.map rw0 = M.map rw0 := fun e => h (by have := congrArg List.length e; simpa using this)
theorem rw0_end {L M : List Rw} (h : (L.map rw0).take L.length = (M.map rw0).take L.length) (hl : L.length = M.length) : L.map rw0 = M.map rw0 :=
 tk_end (by rw [List.length_map]; exact h) (by rw [List.length_map, List.length_map]; exact hl)
def smT (r s n : Int) (L : List Rw) (r2 s2 n2 : Int) (M : List Rw) : Bool := decide (r = r2 ∧ s = s2 ∧ n = n2 ∧ L.map rw0 = M.map rw0)
structure B2T (W : World) (r s n : Int) (p : Option Addr) (c : Nat) (L : List Rw) (r2 s2 n2 : Int) (p2 : Option Addr) (c2 : Nat) (M : List Rw) (q1 q2 : Nat → Prop) (w : World) : Prop where
 b1 : w.heap[W.heap.size]? = some (.cells #[.int .i64 r, .int .i64 s, .int .i64 n, .slice p L.length c] 25 (0, 0))
 b2 : w.heap[W.heap.size + 1]? = some (.cells #[.int .i64 r2, .int .i64 s2, .int .i64 n2, .slice p2 M.length c2] 25 (0, 0))
 r1 : RdW w q1 p c L
 r2 : RdW w q2 p2 c2 M
 gr : W.grownBy w none
theorem B2T.keep {W : World} {r s n : Int} {p : Option Addr} {c : Nat} {L : List Rw} {r2 s2 n2 : Int} {p2 : Option Addr} {c2 : Nat} {M : List Rw} {q1 q2 : Nat → Prop} {w w1 : World} (h : B2T W r s n p c L r2 s2 n2 p2 c2 M q1 q2 w) (g : w.grownBy w1 none) : B2T W r s n p c L r2 s2 n2 p2 c2 M q1 q2 w1 :=
 ⟨kept_row h.b1 g (by simp), kept_row h.b2 g (by simp), h.r1.keep g, h.r2.keep g, grown_trans h.gr g⟩
theorem b2t_start {w : World} (r s n : Int) {p : Option Addr} {c : Nat} {L : List Rw} (r2 s2 n2 : Int) {p2 : Option Addr} {c2 : Nat} {M : List Rw} {q1 q2 : Nat → Prop} (h1 : RdW w q1 p c L) (h2 : RdW w q2 p2 c2 M) : B2T w r s n p c L r2 s2 n2 p2 c2 M q1 q2 ((w.alloc (.cells #[.int .i64 r, .int .i64 s, .int .i64 n, .slice p L.length c] 25)).alloc (.cells #[.int .i64 r2, .int .i64 s2, .int .i64 n2, .slice p2 M.length c2] 25)) := by
 obtain ⟨k1, k2, k3, k4⟩ := two_boxes w #[.int .i64 r, .int .i64 s, .int .i64 n, .slice p L.length c] #[.int .i64 r2, .int .i64 s2, .int .i64 n2, .slice p2 M.length c2] 25 25
 exact ⟨k1, k2, h1.keep k3, h2.keep k3, k3⟩
end Go.Proofs.YtahafijpcmphaaaGreat

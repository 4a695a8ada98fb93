/- Parts of the proof, packed: ToSort, ToSrt2, ShNst, ShDel, ShStp, ToDfs, ToDfsK, ToDfsW, ToComp. -/
import Derived.Test.YtahafijpcmphaaaGreatQc5
import Derived.WalkMore
import Derived.Test.YtahafijpcmphaaaGreatQc4
import Derived.Deep.AppendLies
import Derived.Test.YtahafijpcmphaaaGreatQc3
/- slices.Sort of at most twelve numbers of the call's own. -/
namespace Go.Proofs.YtahafijpcmphaaaGreat
set_option maxRecDepth 100000
open Go.RowKit Bs
theorem tless_any (x y : Int) (w : World) :
  Calls Tryz.prog 131 #[.int .i64 x, .int .i64 y] w fun e w' => e = .returned (.bool (decide (x < y))) ∧ w = w' := by
 have N : ∀ (z : Int) (w : World), Calls Tryz.prog 161 #[.int .i64 z] w fun e w' => e = .returned (.bool false) ∧ w = w' := by
  intro z w
  go_enter Tryz.func161, Tryz.ntmps161
  go_wp2_with fail
  go_ret
  first | exact ⟨rfl, rfl⟩ | exact ⟨by simp, rfl⟩
 go_enter Tryz.func131, Tryz.ntmps131
 go_wp2_with (go_at_call 161; refine (N _ _).mono ?_; rintro e w' ⟨rfl, rfl⟩)
 go_ret
 exact ⟨by simp, rfl⟩
theorem getD_set (l : List Int) (i j : Nat) (a : Int) (hi : i < l.length) : (l.set i a).getD j 0 = if i = j then a else l.getD j 0 := by
 rw [List.getD_eq_getElem?_getD, List.getElem?_set, List.getD_eq_getElem?_getD]
 by_cases e : i = j
 ·subst e
  simp [hi]
 ·simp [e]
structure SK (w : World) (base g c n : Nat) (l d : List Int) (wr : World) : Prop where
 own : wr.ownsRow base 3 1 (.slice (some ⟨g, 0, none⟩) n c) n (d.map tv)
 gr : w.grownBy wr (some g)
 len : d.length = n
 perm : d.Perm l
theorem SK.drew {w wr : World} {base g c n : Nat} {l d : List Int} (h : SK w base g c n l d wr) : SK w base g c n l d wr.drew := ⟨h.own.drew, grown_drew h.gr, h.len, h.perm⟩
theorem SK.at1_ {w wr : World} {base g c n : Nat} {l d : List Int} (h : SK w base g c n l d wr) {j : Nat} (hj : j < n) : wr.cell? ⟨g, j, none⟩ = some (.int .i64 (d.getD j 0)) := by
 have h1 := h.own.cellAt j (by omega)
 rw [h1]
 have hl := h.len
 rw [List.getElem?_map, List.getD_eq_getElem?_getD, List.getElem?_eq_getElem (by omega)]
 rfl
def toS (d : List Int) (i : Nat) : Prop := ∀ p q, p < q → q < i → d.getD p 0 ≤ d.getD q 0
def almS (d : List Int) (i j : Nat) : Prop := ∀ p q, p < q → q ≤ i → q ≠ j → d.getD p 0 ≤ d.getD q 0
def swp (d : List Int) (j : Nat) : List Int := (d.set (j + 1) (d.getD j 0)).set j (d.getD (j + 1) 0)
theorem swp_len (d : List Int) (j : Nat) : (swp d j).length = d.length := by unfold swp; simp
theorem swp_getD {d : List Int} {j : Nat} (hj : j + 1 < d.length) (k : Nat) : (swp d j).getD k 0 = if j = k then d.getD (j + 1) 0 else if j + 1 = k then d.getD j 0 else d.getD k 0 := by
 unfold swp
 rw [getD_set _ _ _ _ (by rw [List.length_set]; omega), getD_set _ _ _ _ hj]
theorem swp_perm {d : List Int} {j : Nat} (hj : j + 1 < d.length) : (swp d j).Perm d := by
 unfold swp
 have e1 : d.getD j 0 = d[j]'(by omega) := by rw [List.getD_eq_getElem?_getD, List.getElem?_eq_getElem (by omega)]; rfl
 have e2 : d.getD (j + 1) 0 = d[j + 1]'hj := by rw [List.getD_eq_getElem?_getD, List.getElem?_eq_getElem hj]; rfl
 rw [e1, e2]
 exact List.set_set_perm hj (by omega)
theorem swp_alm {d : List Int} {i j : Nat} (hj : j + 1 ≤ i) (hi : i < d.length) (h : almS d i (j + 1)) (hlt : d.getD (j + 1) 0 < d.getD j 0) : almS (swp d j) i j := by
 intro p q hpq hq hqj
 have hjl : j + 1 < d.length := by omega
 have hP := swp_getD hjl p
 have hQ := swp_getD hjl q
 have hPQ : (swp d j).getD p 0 = (if p = j then d.getD (j + 1) 0 else if p = j + 1 then d.getD j 0 else d.getD p 0) := by
  rw [hP]
  by_cases e2 : j = p
  ·rw [if_pos e2, if_pos e2.symm]
  ·rw [if_neg e2, if_neg (show ¬ p = j from fun e => e2 e.symm)]
   by_cases e3 : j + 1 = p
   ·rw [if_pos e3, if_pos e3.symm]
   ·rw [if_neg e3, if_neg (show ¬ p = j + 1 from fun e => e3 e.symm)]
 rw [hPQ]
 clear hP hPQ
 by_cases e1 : j + 1 = q
 ·rw [if_neg (fun e => hqj e.symm), if_pos e1] at hQ
  rw [hQ]
  by_cases e2 : p = j
  ·rw [if_pos e2]; omega
  ·rw [if_neg e2, if_neg (by omega)]
   exact h p j (by omega) (by omega) (by omega)
 ·rw [if_neg (fun e => hqj e.symm), if_neg e1] at hQ
  rw [hQ]
  by_cases e2 : p = j
  ·rw [if_pos e2]
   exact h (j + 1) q (by omega) hq (fun e => e1 e.symm)
  ·rw [if_neg e2]
   by_cases e3 : p = j + 1
   ·rw [if_pos e3]
    exact h j q (by omega) hq (fun e => e1 e.symm)
   ·rw [if_neg e3]
    exact h p q hpq hq (fun e => e1 e.symm)
theorem alm_end {d : List Int} {i j : Nat} (h : almS d i j) (he : j = 0 ∨ d.getD (j - 1) 0 ≤ d.getD j 0) : toS d (i + 1) := by
 intro p q hpq hq
 by_cases e : q = j
 ·subst e
  rcases he with he | he
  ·omega
  ·by_cases e2 : p = q - 1
   ·rw [e2]; exact he
   ·exact Int.le_trans (h p (q - 1) (by omega) (by omega) (by omega)) he
 ·exact h p q hpq (by omega) e
theorem SK.swap {w wr : World} {base g c n : Nat} {l d : List Int} (h : SK w base g c n l d wr) {j : Nat} (hj : j + 1 < n) :
  SK w base g c n l (swp d j) ((wr.setCell ⟨g, j + 1, none⟩ (.int .i64 (d.getD j 0))).setCell ⟨g, j, none⟩ (.int .i64 (d.getD (j + 1) 0))) := by
 obtain ⟨k1, k2⟩ := h.own.stored (j + 1) (.int .i64 (d.getD j 0))
 obtain ⟨k3, k4⟩ := k1.stored j (.int .i64 (d.getD (j + 1) 0))
 refine ⟨?_, grown_trans (grown_trans h.gr k2) k4, by rw [swp_len]; exact h.len, (swp_perm (by rw [h.len]; exact hj)).trans h.perm⟩
 unfold swp
 rw [List.map_set, List.map_set]
 exact k3
def SrtPost (base g c n : Nat) (l : List Int) (w : World) (e : Ending) (w' : World) : Prop := ∃ d, Hid (SK w base g c n l d w' ∧ toS d n) ∧ e = .returned (.tuple #[])
set_option maxHeartbeats 6400000 in
theorem tins_any (base g c n : Nat) (l : List Int) (w : World) (hO : w.ownsRow base 3 1 (.slice (some ⟨g, 0, none⟩) n c) n (l.map tv)) (hl : l.length = n) (hn : n ≤ 12) :
  Calls Tryz.prog 125 #[.slice (some ⟨g, 0, none⟩) n c, .int .i64 0, .int .i64 (n : Int)] w fun e w' => SrtPost base g c n l w e w' := by
 have K0 : Hid (SK w base g c n l l w ∧ toS l 1) := Lib.hid ⟨⟨hO, grown_refl _ _, hl, List.Perm.refl _⟩, fun p q h1 h2 => by omega⟩
 clear hO hl
 go_enter Tryz.func125, Tryz.ntmps125
 go_wp2_with fail
 go_loopw [6] (fun a wr => ∃ i : Nat, 1 ≤ i ∧ (i ≤ n ∨ i = 1) ∧ a = .int .i64 (i : Int) ∧ ∃ d, Hid (SK w base g c n l d wr ∧ toS d i)) (fun a _ => n - (RowKit.intOf a).toNat)
 case atStart => exact ⟨1, by omega, Or.inr rfl, rfl, l, K0⟩
 case round =>
 obtain ⟨i, hi1, hi, rfl, d0, K⟩ := hrel
 clear K0
 by_cases hlt : i < n
 case neg =>
  have hz : ¬ (i : Int) < (n : Int) := by omega
  have K9 : Hid (SK w base g c n l d0 wr ∧ toS d0 n) := Lib.hid ⟨K.out.1, fun p q h1 h2 => K.out.2 p q h1 (by omega)⟩
  go_wp2_with fail
  exact bodyPost_end (results_none rfl _ _ _) rfl ⟨d0, K9, rfl⟩
 have KI : Hid (SK w base g c n l d0 wr ∧ almS d0 i i) := Lib.hid ⟨K.out.1, fun p q h1 h2 h3 => K.out.2 p q h1 (by omega)⟩
 clear K
 obtain ⟨wo, rfl⟩ : ∃ wo : World, wo = wr := ⟨_, rfl⟩
 go_wp2_with fail
 go_loopw [7] (fun a wr => ∃ j : Nat, j ≤ i ∧ a = .int .i64 (j : Int) ∧ ∃ d, Hid (SK w base g c n l d wr ∧ almS d i j)) (fun a _ => (RowKit.intOf a).toNat)
 case atStart => exact ⟨i, Nat.le_refl _, rfl, d0, KI⟩
 case round =>
 clear KI
 obtain ⟨j, hj, rfl, d, K⟩ := hrel
 have fin : Hid ((j = 0 ∨ d.getD (j - 1) 0 ≤ d.getD j 0)) → ∀ wz, Hid (SK w base g c n l d wz) → Hid (SK w base g c n l d wz ∧ toS d (i + 1)) := fun h wz k => Lib.hid ⟨k.out, alm_end K.out.2 h.out⟩
 have FIN := Lib.hid fin
 clear fin
 by_cases hj0 : j = 0
 ·subst hj0
  have H := FIN.out (Lib.hid (Or.inl rfl)) wr.drew (Lib.hid K.out.1.drew)
  have SD := Lib.hid K.out.1.drew
  clear K FIN
  go_upto_region 4 with fail
  refine wp_region_held_drew (S := fun w' => Hid (SK w base g c n l d w')) (by kernel_rfl) (SD) (fun hHeld => ?_)
  refine wpAnyH_take (i := 0) (oi := { dst := some 16, op := Op.move (Operand.tmp 7), type := 3, pos := _, after := _, guard := none }) (v := ?_) rfl (by kernel_rfl) (by kernel_rfl) (by kernel_rfl) (fun _ _ _ h => h) (Or.inl ⟨by rfl, ?_⟩) hHeld ?_
  rotate_left 1
  ·intro u hSu
   skip
   go_simp
   first | done | with_reducible rfl
  (try simp only [Act.put, zA, zB, zC])
  refine wpAnyH_take (i := 1) (oi := { dst := some 17, op := Op.move (Operand.tmp 1), type := 3, pos := _, after := _, guard := none }) (v := ?_) rfl (by kernel_rfl) (by kernel_rfl) (by kernel_rfl) (fun _ _ _ h => h) (Or.inl ⟨by rfl, ?_⟩) hHeld ?_
  rotate_left 1
  ·intro u hSu
   skip
   go_simp
   first | done | with_reducible rfl
  (try simp only [Act.put, zA, zB, zC])
  refine wpAnyH_take (i := 2) (oi := { dst := some 18, op := Op.binOp BinOp.gtr 3 (Operand.tmp 16) (Operand.tmp 17) 3, type := 4, pos := _, after := _, guard := none }) (v := ?_) rfl (by kernel_rfl) (by kernel_rfl) (by kernel_rfl) (fun _ _ _ h => h) (Or.inl ⟨by rfl, ?_⟩) hHeld ?_
  rotate_left 1
  ·intro u hSu
   skip
   go_simp
   first | done | with_reducible rfl
  (try simp only [Act.put, zA, zB, zC])
  refine wpAnyH_take (i := 3) (oi := { dst := some 19, op := Op.move (Operand.tmp 18), type := 4, pos := _, after := _, guard := none }) (v := ?_) rfl (by kernel_rfl) (by kernel_rfl) (by kernel_rfl) (fun _ _ _ h => h) (Or.inl ⟨by rfl, ?_⟩) hHeld ?_
  rotate_left 1
  ·intro u hSu
   skip
   go_simp
   first | done | with_reducible rfl
  (try simp only [Act.put, zA, zB, zC])
  refine wpAnyH_take (i := 4) (oi := { dst := some 20, op := Op.move (Operand.tmp 0), type := 22, pos := _, after := _, guard := some (3, true) }) (v := undef) rfl (by kernel_rfl) (by kernel_rfl) (by kernel_rfl) (fun _ _ _ h => h) (Or.inr ⟨by rfl, rfl⟩) hHeld ?_
  (try simp only [Act.put, zA, zB, zC])
  refine wpAnyH_take (i := 5) (oi := { dst := some 21, op := Op.move (Operand.tmp 7), type := 3, pos := _, after := _, guard := some (3, true) }) (v := undef) rfl (by kernel_rfl) (by kernel_rfl) (by kernel_rfl) (fun _ _ _ h => h) (Or.inr ⟨by rfl, rfl⟩) hHeld ?_
  (try simp only [Act.put, zA, zB, zC])
  refine wpAnyH_take (i := 6) (oi := { dst := some 22, op := Op.indexAddr 22 (Operand.tmp 20) (Operand.tmp 21), type := 0, pos := _, after := _, guard := some (3, true) }) (v := undef) rfl (by kernel_rfl) (by kernel_rfl) (by kernel_rfl) (fun _ _ _ h => h) (Or.inr ⟨by rfl, rfl⟩) hHeld ?_
  (try simp only [Act.put, zA, zB, zC])
  refine wpAnyH_take (i := 7) (oi := { dst := some 23, op := Op.load 3 (Operand.tmp 22), type := 3, pos := _, after := _, guard := some (3, true) }) (v := undef) rfl (by kernel_rfl) (by kernel_rfl) (by kernel_rfl) (fun _ _ _ h => h) (Or.inr ⟨by rfl, rfl⟩) hHeld ?_
  (try simp only [Act.put, zA, zB, zC])
  refine wpAnyH_take (i := 8) (oi := { dst := some 24, op := Op.move (Operand.tmp 0), type := 22, pos := _, after := _, guard := some (3, true) }) (v := undef) rfl (by kernel_rfl) (by kernel_rfl) (by kernel_rfl) (fun _ _ _ h => h) (Or.inr ⟨by rfl, rfl⟩) hHeld ?_
  (try simp only [Act.put, zA, zB, zC])
  refine wpAnyH_take (i := 9) (oi := { dst := some 25, op := Op.move (Operand.tmp 7), type := 3, pos := _, after := _, guard := some (3, true) }) (v := undef) rfl (by kernel_rfl) (by kernel_rfl) (by kernel_rfl) (fun _ _ _ h => h) (Or.inr ⟨by rfl, rfl⟩) hHeld ?_
  (try simp only [Act.put, zA, zB, zC])
  refine wpAnyH_take (i := 10) (oi := { dst := some 26, op := Op.binOp BinOp.sub 3 (Operand.tmp 25) (Operand.const (Value.int IntKind.i64 1)) 3, type := 3, pos := _, after := _, guard := some (3, true) }) (v := undef) rfl (by kernel_rfl) (by kernel_rfl) (by kernel_rfl) (fun _ _ _ h => h) (Or.inr ⟨by rfl, rfl⟩) hHeld ?_
  (try simp only [Act.put, zA, zB, zC])
  refine wpAnyH_take (i := 11) (oi := { dst := some 27, op := Op.indexAddr 22 (Operand.tmp 24) (Operand.tmp 26), type := 0, pos := _, after := _, guard := some (3, true) }) (v := undef) rfl (by kernel_rfl) (by kernel_rfl) (by kernel_rfl) (fun _ _ _ h => h) (Or.inr ⟨by rfl, rfl⟩) hHeld ?_
  (try simp only [Act.put, zA, zB, zC])
  refine wpAnyH_take (i := 12) (oi := { dst := some 28, op := Op.load 3 (Operand.tmp 27), type := 3, pos := _, after := _, guard := some (3, true) }) (v := undef) rfl (by kernel_rfl) (by kernel_rfl) (by kernel_rfl) (fun _ _ _ h => h) (Or.inr ⟨by rfl, rfl⟩) hHeld ?_
  (try simp only [Act.put, zA, zB, zC])
  refine wpAnyH_take (i := 13) (oi := { dst := some 29, op := Op.call { callee := Callee.value (Operand.func 131), args := #[Operand.tmp 23, Operand.tmp 28], argTypes := #[3, 3] }, type := 4, pos := _, after := _, guard := some (3, true) }) (v := undef) rfl (by kernel_rfl) (by kernel_rfl) (by kernel_rfl) (fun _ _ _ h => h) (Or.inr ⟨by rfl, rfl⟩) hHeld ?_
  (try simp only [Act.put, zA, zB, zC])
  refine wpAnyH_take (i := 14) (oi := { dst := some 30, op := Op.pick (Operand.tmp 19) (Operand.tmp 29) (Operand.const (Value.bool false)), type := 4, pos := _, after := _, guard := none }) (v := ?_) rfl (by kernel_rfl) (by kernel_rfl) (by kernel_rfl) (fun _ _ _ h => h) (Or.inl ⟨by rfl, ?_⟩) hHeld ?_
  rotate_left 1
  ·intro u hSu
   skip
   go_simp
   first | done | with_reducible rfl
  (try simp only [Act.put, zA, zB, zC])
  refine wpAnyH_done (by kernel_rfl) ?_ _
  clear hHeld
  go_wp2_with fail
  exact ⟨⟨i + 1, by omega, Or.inl (by omega), congrArg _ (by omega), d, H⟩, by simp only [RowKit.intOf]; omega⟩
 ·obtain ⟨j, rfl⟩ : ∃ k, j = k + 1 := ⟨j - 1, by omega⟩
  have hcast : ((j + 1 : Nat) : Int) = (j : Int) + 1 := by omega
  have hj1 : j + 1 < n := by omega
  have hj0 : j < n := by omega
  have ew1 : ((j : Int) + 1 - 1) = (j : Int) := by omega
  have ew3 : IntKind.i64.wrap (j : Int) = (j : Int) := IntWalk.i64_in _ (by omega)
  have i0 : (0 : Int) ≤ (j : Int) := by omega
  have i1 : (0 : Int) ≤ (j : Int) + 1 := by omega
  have i2 : (j : Int) < (n : Int) := by omega
  have i3 : (j : Int) + 1 < (n : Int) := by omega
  have i4 : ((j : Int) + 1).toNat = j + 1 := by omega
  have i5 : (0 : Int) < (j : Int) + 1 := by omega
  rw [hcast]
  obtain ⟨x, hx⟩ : ∃ x, d.getD (j + 1) 0 = x := ⟨_, rfl⟩
  obtain ⟨y, hy⟩ : ∃ y, d.getD j 0 = y := ⟨_, rfl⟩
  have HX := Lib.hid (And.intro hx hy)
  have SD := Lib.hid K.out.1.drew
  clear hx hy
  by_cases hxy : x < y
  ·go_upto_region 4 with fail
   refine wp_region_held_drew (S := fun w' => Hid (SK w base g c n l d w')) (by kernel_rfl) (SD) (fun hHeld => ?_)
   refine wpAnyH_take (i := 0) (oi := { dst := some 16, op := Op.move (Operand.tmp 7), type := 3, pos := _, after := _, guard := none }) (v := ?_) rfl (by kernel_rfl) (by kernel_rfl) (by kernel_rfl) (fun _ _ _ h => h) (Or.inl ⟨by rfl, ?_⟩) hHeld ?_
   rotate_left 1
   ·intro u hSu
    have y0 := hSu.out.at1_ hj1
    have y1 := hSu.out.at1_ hj0
    rw [HX.out.1] at y0
    rw [HX.out.2] at y1
    go_simp
    first | done | with_reducible rfl
   (try simp only [Act.put, zA, zB, zC])
   refine wpAnyH_take (i := 1) (oi := { dst := some 17, op := Op.move (Operand.tmp 1), type := 3, pos := _, after := _, guard := none }) (v := ?_) rfl (by kernel_rfl) (by kernel_rfl) (by kernel_rfl) (fun _ _ _ h => h) (Or.inl ⟨by rfl, ?_⟩) hHeld ?_
   rotate_left 1
   ·intro u hSu
    have y0 := hSu.out.at1_ hj1
    have y1 := hSu.out.at1_ hj0
    rw [HX.out.1] at y0
    rw [HX.out.2] at y1
    go_simp
    first | done | with_reducible rfl
   (try simp only [Act.put, zA, zB, zC])
   refine wpAnyH_take (i := 2) (oi := { dst := some 18, op := Op.binOp BinOp.gtr 3 (Operand.tmp 16) (Operand.tmp 17) 3, type := 4, pos := _, after := _, guard := none }) (v := ?_) rfl (by kernel_rfl) (by kernel_rfl) (by kernel_rfl) (fun _ _ _ h => h) (Or.inl ⟨by rfl, ?_⟩) hHeld ?_
   rotate_left 1
   ·intro u hSu
    have y0 := hSu.out.at1_ hj1
    have y1 := hSu.out.at1_ hj0
    rw [HX.out.1] at y0
    rw [HX.out.2] at y1
    go_simp
    first | done | with_reducible rfl
   (try simp only [Act.put, zA, zB, zC])
   refine wpAnyH_take (i := 3) (oi := { dst := some 19, op := Op.move (Operand.tmp 18), type := 4, pos := _, after := _, guard := none }) (v := ?_) rfl (by kernel_rfl) (by kernel_rfl) (by kernel_rfl) (fun _ _ _ h => h) (Or.inl ⟨by rfl, ?_⟩) hHeld ?_
   rotate_left 1
   ·intro u hSu
    have y0 := hSu.out.at1_ hj1
    have y1 := hSu.out.at1_ hj0
    rw [HX.out.1] at y0
    rw [HX.out.2] at y1
    go_simp
    first | done | with_reducible rfl
   (try simp only [Act.put, zA, zB, zC])
   refine wpAnyH_take (i := 4) (oi := { dst := some 20, op := Op.move (Operand.tmp 0), type := 22, pos := _, after := _, guard := some (3, true) }) (v := ?_) rfl (by kernel_rfl) (by kernel_rfl) (by kernel_rfl) (fun _ _ _ h => h) (Or.inl ⟨by rfl, ?_⟩) hHeld ?_
   rotate_left 1
   ·intro u hSu
    have y0 := hSu.out.at1_ hj1
    have y1 := hSu.out.at1_ hj0
    rw [HX.out.1] at y0
    rw [HX.out.2] at y1
    go_simp
    first | done | with_reducible rfl
   (try simp only [Act.put, zA, zB, zC])
   refine wpAnyH_take (i := 5) (oi := { dst := some 21, op := Op.move (Operand.tmp 7), type := 3, pos := _, after := _, guard := some (3, true) }) (v := ?_) rfl (by kernel_rfl) (by kernel_rfl) (by kernel_rfl) (fun _ _ _ h => h) (Or.inl ⟨by rfl, ?_⟩) hHeld ?_
   rotate_left 1
   ·intro u hSu
    have y0 := hSu.out.at1_ hj1
    have y1 := hSu.out.at1_ hj0
    rw [HX.out.1] at y0
    rw [HX.out.2] at y1
    go_simp
    first | done | with_reducible rfl
   (try simp only [Act.put, zA, zB, zC])
   refine wpAnyH_take (i := 6) (oi := { dst := some 22, op := Op.indexAddr 22 (Operand.tmp 20) (Operand.tmp 21), type := 0, pos := _, after := _, guard := some (3, true) }) (v := ?_) rfl (by kernel_rfl) (by kernel_rfl) (by kernel_rfl) (fun _ _ _ h => h) (Or.inl ⟨by rfl, ?_⟩) hHeld ?_
   rotate_left 1
   ·intro u hSu
    have y0 := hSu.out.at1_ hj1
    have y1 := hSu.out.at1_ hj0
    rw [HX.out.1] at y0
    rw [HX.out.2] at y1
    go_simp
    first | done | with_reducible rfl
   (try simp only [Act.put, zA, zB, zC])
   refine wpAnyH_take (i := 7) (oi := { dst := some 23, op := Op.load 3 (Operand.tmp 22), type := 3, pos := _, after := _, guard := some (3, true) }) (v := ?_) rfl (by kernel_rfl) (by kernel_rfl) (by kernel_rfl) (fun _ _ _ h => h) (Or.inl ⟨by rfl, ?_⟩) hHeld ?_
   rotate_left 1
   ·intro u hSu
    have y0 := hSu.out.at1_ hj1
    have y1 := hSu.out.at1_ hj0
    rw [HX.out.1] at y0
    rw [HX.out.2] at y1
    go_simp
    first | done | with_reducible rfl
   (try simp only [Act.put, zA, zB, zC])
   refine wpAnyH_take (i := 8) (oi := { dst := some 24, op := Op.move (Operand.tmp 0), type := 22, pos := _, after := _, guard := some (3, true) }) (v := ?_) rfl (by kernel_rfl) (by kernel_rfl) (by kernel_rfl) (fun _ _ _ h => h) (Or.inl ⟨by rfl, ?_⟩) hHeld ?_
   rotate_left 1
   ·intro u hSu
    have y0 := hSu.out.at1_ hj1
    have y1 := hSu.out.at1_ hj0
    rw [HX.out.1] at y0
    rw [HX.out.2] at y1
    go_simp
    first | done | with_reducible rfl
   (try simp only [Act.put, zA, zB, zC])
   refine wpAnyH_take (i := 9) (oi := { dst := some 25, op := Op.move (Operand.tmp 7), type := 3, pos := _, after := _, guard := some (3, true) }) (v := ?_) rfl (by kernel_rfl) (by kernel_rfl) (by kernel_rfl) (fun _ _ _ h => h) (Or.inl ⟨by rfl, ?_⟩) hHeld ?_
   rotate_left 1
   ·intro u hSu
    have y0 := hSu.out.at1_ hj1
    have y1 := hSu.out.at1_ hj0
    rw [HX.out.1] at y0
    rw [HX.out.2] at y1
    go_simp
    first | done | with_reducible rfl
   (try simp only [Act.put, zA, zB, zC])
   refine wpAnyH_take (i := 10) (oi := { dst := some 26, op := Op.binOp BinOp.sub 3 (Operand.tmp 25) (Operand.const (Value.int IntKind.i64 1)) 3, type := 3, pos := _, after := _, guard := some (3, true) }) (v := ?_) rfl (by kernel_rfl) (by kernel_rfl) (by kernel_rfl) (fun _ _ _ h => h) (Or.inl ⟨by rfl, ?_⟩) hHeld ?_
   rotate_left 1
   ·intro u hSu
    have y0 := hSu.out.at1_ hj1
    have y1 := hSu.out.at1_ hj0
    rw [HX.out.1] at y0
    rw [HX.out.2] at y1
    go_simp
    first | done | with_reducible rfl
   (try simp only [Act.put, zA, zB, zC])
   refine wpAnyH_take (i := 11) (oi := { dst := some 27, op := Op.indexAddr 22 (Operand.tmp 24) (Operand.tmp 26), type := 0, pos := _, after := _, guard := some (3, true) }) (v := ?_) rfl (by kernel_rfl) (by kernel_rfl) (by kernel_rfl) (fun _ _ _ h => h) (Or.inl ⟨by rfl, ?_⟩) hHeld ?_
   rotate_left 1
   ·intro u hSu
    have y0 := hSu.out.at1_ hj1
    have y1 := hSu.out.at1_ hj0
    rw [HX.out.1] at y0
    rw [HX.out.2] at y1
    go_simp
    first | done | with_reducible rfl
   (try simp only [Act.put, zA, zB, zC])
   refine wpAnyH_take (i := 12) (oi := { dst := some 28, op := Op.load 3 (Operand.tmp 27), type := 3, pos := _, after := _, guard := some (3, true) }) (v := ?_) rfl (by kernel_rfl) (by kernel_rfl) (by kernel_rfl) (fun _ _ _ h => h) (Or.inl ⟨by rfl, ?_⟩) hHeld ?_
   rotate_left 1
   ·intro u hSu
    have y0 := hSu.out.at1_ hj1
    have y1 := hSu.out.at1_ hj0
    rw [HX.out.1] at y0
    rw [HX.out.2] at y1
    go_simp
    first | done | with_reducible rfl
   (try simp only [Act.put, zA, zB, zC])
   refine wpAnyH_ready (rs := [13]) (by kernel_rfl) (by simp) ?_
   refine AllReadyH.cons (o := { dst := some 29, op := Op.call { callee := Callee.value (Operand.func 131), args := #[Operand.tmp 23, Operand.tmp 28], argTypes := #[3, 3] }, type := 4, pos := _, after := _, guard := some (3, true) }) rfl (fun K hK => ?_) AllReadyH.nil
   go_simp
   go_at_call 131
   refine (tless_any x y _).mono ?_
   rintro e w' ⟨rfl, rfl⟩
   refine hK.out _ _ (hHeld) (fun hH2 => ?_)
   clear hK K hHeld
   have hHeld := hH2
   clear hH2
   (try simp only [Act.put, zA, zB, zC])
   refine wpAnyH_take (i := 14) (oi := { dst := some 30, op := Op.pick (Operand.tmp 19) (Operand.tmp 29) (Operand.const (Value.bool false)), type := 4, pos := _, after := _, guard := none }) (v := ?_) rfl (by kernel_rfl) (by kernel_rfl) (by kernel_rfl) (fun _ _ _ h => h) (Or.inl ⟨by rfl, ?_⟩) hHeld ?_
   rotate_left 1
   ·intro u hSu
    have y0 := hSu.out.at1_ hj1
    have y1 := hSu.out.at1_ hj0
    rw [HX.out.1] at y0
    rw [HX.out.2] at y1
    go_simp
    first | done | with_reducible rfl
   (try simp only [Act.put, zA, zB, zC])
   refine wpAnyH_done (by kernel_rfl) ?_ _
   have SE := hHeld
   clear hHeld
   rw [decide_eq_true hxy]
   have y0 := K.out.1.at1_ hj1
   have y1 := K.out.1.at1_ hj0
   rw [HX.out.1] at y0
   rw [HX.out.2] at y1
   have z0 := K.out.1.own.frozenAt (j + 1)
   have z1 := K.out.1.own.frozenAt j
   go_upto_region 6 with fail
   have SW : Hid (SK w base g c n l (swp d j) ((wr.setCell ⟨g, j + 1, none⟩ (.int .i64 y)).setCell ⟨g, j, none⟩ (.int .i64 x)).drew.drew ∧ almS (swp d j) i j) := Lib.hid ⟨by have h := K.out.1.swap hj1; rw [HX.out.1, HX.out.2] at h; exact h.drew.drew, swp_alm (by omega) (by have := K.out.1.len; omega) K.out.2 (by rw [HX.out.1, HX.out.2]; exact hxy)⟩
   clear K SE
   go_region_law fail
   all_goals
    clear y0 y1 z0 z1
    go_wp2_with fail
    exact ⟨⟨j, by omega, rfl, swp d j, SW⟩, by simp only [RowKit.intOf]; omega⟩
  ·have hnd : decide (x < y) = false := decide_eq_false hxy
   have H := FIN.out (Lib.hid (Or.inr (by show d.getD j 0 ≤ d.getD (j + 1) 0; rw [HX.out.1, HX.out.2]; omega)))
   clear FIN
   go_upto_region 4 with fail
   refine wp_region_held_drew (S := fun w' => Hid (SK w base g c n l d w')) (by kernel_rfl) (SD) (fun hHeld => ?_)
   refine wpAnyH_take (i := 0) (oi := { dst := some 16, op := Op.move (Operand.tmp 7), type := 3, pos := _, after := _, guard := none }) (v := ?_) rfl (by kernel_rfl) (by kernel_rfl) (by kernel_rfl) (fun _ _ _ h => h) (Or.inl ⟨by rfl, ?_⟩) hHeld ?_
   rotate_left 1
   ·intro u hSu
    have y0 := hSu.out.at1_ hj1
    have y1 := hSu.out.at1_ hj0
    rw [HX.out.1] at y0
    rw [HX.out.2] at y1
    go_simp
    first | done | with_reducible rfl
   (try simp only [Act.put, zA, zB, zC])
   refine wpAnyH_take (i := 1) (oi := { dst := some 17, op := Op.move (Operand.tmp 1), type := 3, pos := _, after := _, guard := none }) (v := ?_) rfl (by kernel_rfl) (by kernel_rfl) (by kernel_rfl) (fun _ _ _ h => h) (Or.inl ⟨by rfl, ?_⟩) hHeld ?_
   rotate_left 1
   ·intro u hSu
    have y0 := hSu.out.at1_ hj1
    have y1 := hSu.out.at1_ hj0
    rw [HX.out.1] at y0
    rw [HX.out.2] at y1
    go_simp
    first | done | with_reducible rfl
   (try simp only [Act.put, zA, zB, zC])
   refine wpAnyH_take (i := 2) (oi := { dst := some 18, op := Op.binOp BinOp.gtr 3 (Operand.tmp 16) (Operand.tmp 17) 3, type := 4, pos := _, after := _, guard := none }) (v := ?_) rfl (by kernel_rfl) (by kernel_rfl) (by kernel_rfl) (fun _ _ _ h => h) (Or.inl ⟨by rfl, ?_⟩) hHeld ?_
   rotate_left 1
   ·intro u hSu
    have y0 := hSu.out.at1_ hj1
    have y1 := hSu.out.at1_ hj0
    rw [HX.out.1] at y0
    rw [HX.out.2] at y1
    go_simp
    first | done | with_reducible rfl
   (try simp only [Act.put, zA, zB, zC])
   refine wpAnyH_take (i := 3) (oi := { dst := some 19, op := Op.move (Operand.tmp 18), type := 4, pos := _, after := _, guard := none }) (v := ?_) rfl (by kernel_rfl) (by kernel_rfl) (by kernel_rfl) (fun _ _ _ h => h) (Or.inl ⟨by rfl, ?_⟩) hHeld ?_
   rotate_left 1
   ·intro u hSu
    have y0 := hSu.out.at1_ hj1
    have y1 := hSu.out.at1_ hj0
    rw [HX.out.1] at y0
    rw [HX.out.2] at y1
    go_simp
    first | done | with_reducible rfl
   (try simp only [Act.put, zA, zB, zC])
   refine wpAnyH_take (i := 4) (oi := { dst := some 20, op := Op.move (Operand.tmp 0), type := 22, pos := _, after := _, guard := some (3, true) }) (v := ?_) rfl (by kernel_rfl) (by kernel_rfl) (by kernel_rfl) (fun _ _ _ h => h) (Or.inl ⟨by rfl, ?_⟩) hHeld ?_
   rotate_left 1
   ·intro u hSu
    have y0 := hSu.out.at1_ hj1
    have y1 := hSu.out.at1_ hj0
    rw [HX.out.1] at y0
    rw [HX.out.2] at y1
    go_simp
    first | done | with_reducible rfl
   (try simp only [Act.put, zA, zB, zC])
   refine wpAnyH_take (i := 5) (oi := { dst := some 21, op := Op.move (Operand.tmp 7), type := 3, pos := _, after := _, guard := some (3, true) }) (v := ?_) rfl (by kernel_rfl) (by kernel_rfl) (by kernel_rfl) (fun _ _ _ h => h) (Or.inl ⟨by rfl, ?_⟩) hHeld ?_
   rotate_left 1
   ·intro u hSu
    have y0 := hSu.out.at1_ hj1
    have y1 := hSu.out.at1_ hj0
    rw [HX.out.1] at y0
    rw [HX.out.2] at y1
    go_simp
    first | done | with_reducible rfl
   (try simp only [Act.put, zA, zB, zC])
   refine wpAnyH_take (i := 6) (oi := { dst := some 22, op := Op.indexAddr 22 (Operand.tmp 20) (Operand.tmp 21), type := 0, pos := _, after := _, guard := some (3, true) }) (v := ?_) rfl (by kernel_rfl) (by kernel_rfl) (by kernel_rfl) (fun _ _ _ h => h) (Or.inl ⟨by rfl, ?_⟩) hHeld ?_
   rotate_left 1
   ·intro u hSu
    have y0 := hSu.out.at1_ hj1
    have y1 := hSu.out.at1_ hj0
    rw [HX.out.1] at y0
    rw [HX.out.2] at y1
    go_simp
    first | done | with_reducible rfl
   (try simp only [Act.put, zA, zB, zC])
   refine wpAnyH_take (i := 7) (oi := { dst := some 23, op := Op.load 3 (Operand.tmp 22), type := 3, pos := _, after := _, guard := some (3, true) }) (v := ?_) rfl (by kernel_rfl) (by kernel_rfl) (by kernel_rfl) (fun _ _ _ h => h) (Or.inl ⟨by rfl, ?_⟩) hHeld ?_
   rotate_left 1
   ·intro u hSu
    have y0 := hSu.out.at1_ hj1
    have y1 := hSu.out.at1_ hj0
    rw [HX.out.1] at y0
    rw [HX.out.2] at y1
    go_simp
    first | done | with_reducible rfl
   (try simp only [Act.put, zA, zB, zC])
   refine wpAnyH_take (i := 8) (oi := { dst := some 24, op := Op.move (Operand.tmp 0), type := 22, pos := _, after := _, guard := some (3, true) }) (v := ?_) rfl (by kernel_rfl) (by kernel_rfl) (by kernel_rfl) (fun _ _ _ h => h) (Or.inl ⟨by rfl, ?_⟩) hHeld ?_
   rotate_left 1
   ·intro u hSu
    have y0 := hSu.out.at1_ hj1
    have y1 := hSu.out.at1_ hj0
    rw [HX.out.1] at y0
    rw [HX.out.2] at y1
    go_simp
    first | done | with_reducible rfl
   (try simp only [Act.put, zA, zB, zC])
   refine wpAnyH_take (i := 9) (oi := { dst := some 25, op := Op.move (Operand.tmp 7), type := 3, pos := _, after := _, guard := some (3, true) }) (v := ?_) rfl (by kernel_rfl) (by kernel_rfl) (by kernel_rfl) (fun _ _ _ h => h) (Or.inl ⟨by rfl, ?_⟩) hHeld ?_
   rotate_left 1
   ·intro u hSu
    have y0 := hSu.out.at1_ hj1
    have y1 := hSu.out.at1_ hj0
    rw [HX.out.1] at y0
    rw [HX.out.2] at y1
    go_simp
    first | done | with_reducible rfl
   (try simp only [Act.put, zA, zB, zC])
   refine wpAnyH_take (i := 10) (oi := { dst := some 26, op := Op.binOp BinOp.sub 3 (Operand.tmp 25) (Operand.const (Value.int IntKind.i64 1)) 3, type := 3, pos := _, after := _, guard := some (3, true) }) (v := ?_) rfl (by kernel_rfl) (by kernel_rfl) (by kernel_rfl) (fun _ _ _ h => h) (Or.inl ⟨by rfl, ?_⟩) hHeld ?_
   rotate_left 1
   ·intro u hSu
    have y0 := hSu.out.at1_ hj1
    have y1 := hSu.out.at1_ hj0
    rw [HX.out.1] at y0
    rw [HX.out.2] at y1
    go_simp
    first | done | with_reducible rfl
   (try simp only [Act.put, zA, zB, zC])
   refine wpAnyH_take (i := 11) (oi := { dst := some 27, op := Op.indexAddr 22 (Operand.tmp 24) (Operand.tmp 26), type := 0, pos := _, after := _, guard := some (3, true) }) (v := ?_) rfl (by kernel_rfl) (by kernel_rfl) (by kernel_rfl) (fun _ _ _ h => h) (Or.inl ⟨by rfl, ?_⟩) hHeld ?_
   rotate_left 1
   ·intro u hSu
    have y0 := hSu.out.at1_ hj1
    have y1 := hSu.out.at1_ hj0
    rw [HX.out.1] at y0
    rw [HX.out.2] at y1
    go_simp
    first | done | with_reducible rfl
   (try simp only [Act.put, zA, zB, zC])
   refine wpAnyH_take (i := 12) (oi := { dst := some 28, op := Op.load 3 (Operand.tmp 27), type := 3, pos := _, after := _, guard := some (3, true) }) (v := ?_) rfl (by kernel_rfl) (by kernel_rfl) (by kernel_rfl) (fun _ _ _ h => h) (Or.inl ⟨by rfl, ?_⟩) hHeld ?_
   rotate_left 1
   ·intro u hSu
    have y0 := hSu.out.at1_ hj1
    have y1 := hSu.out.at1_ hj0
    rw [HX.out.1] at y0
    rw [HX.out.2] at y1
    go_simp
    first | done | with_reducible rfl
   (try simp only [Act.put, zA, zB, zC])
   refine wpAnyH_ready (rs := [13]) (by kernel_rfl) (by simp) ?_
   refine AllReadyH.cons (o := { dst := some 29, op := Op.call { callee := Callee.value (Operand.func 131), args := #[Operand.tmp 23, Operand.tmp 28], argTypes := #[3, 3] }, type := 4, pos := _, after := _, guard := some (3, true) }) rfl (fun K hK => ?_) AllReadyH.nil
   go_simp
   go_at_call 131
   refine (tless_any x y _).mono ?_
   rintro e w' ⟨rfl, rfl⟩
   refine hK.out _ _ (hHeld) (fun hH2 => ?_)
   clear hK K hHeld
   have hHeld := hH2
   clear hH2
   (try simp only [Act.put, zA, zB, zC])
   refine wpAnyH_take (i := 14) (oi := { dst := some 30, op := Op.pick (Operand.tmp 19) (Operand.tmp 29) (Operand.const (Value.bool false)), type := 4, pos := _, after := _, guard := none }) (v := ?_) rfl (by kernel_rfl) (by kernel_rfl) (by kernel_rfl) (fun _ _ _ h => h) (Or.inl ⟨by rfl, ?_⟩) hHeld ?_
   rotate_left 1
   ·intro u hSu
    have y0 := hSu.out.at1_ hj1
    have y1 := hSu.out.at1_ hj0
    rw [HX.out.1] at y0
    rw [HX.out.2] at y1
    go_simp
    first | done | with_reducible rfl
   (try simp only [Act.put, zA, zB, zC])
   refine wpAnyH_done (by kernel_rfl) ?_ _
   have H2 := H _ hHeld
   clear hHeld H
   rw [hnd]
   go_wp2_with fail
   exact ⟨⟨i + 1, by omega, Or.inl (by omega), congrArg _ (by omega), d, H2⟩, by simp only [RowKit.intOf]; omega⟩
end Go.Proofs.YtahafijpcmphaaaGreat

/- slices.Sort of at most twelve numbers. -/
namespace Go.Proofs.YtahafijpcmphaaaGreat
set_option maxRecDepth 100000
open Go.RowKit Bs
def SomeI (w : World) (e : Ending) (w' : World) : Prop := ∃ k : Int, e = .returned (.int .i64 k) ∧ w = w'
set_option maxHeartbeats 3200000 in
theorem tlen64_any (n : Nat) (hn : n ≤ 12) (w : World) : Calls Tryz.prog 135 #[.int .u64 (n : Int)] w fun e w' => SomeI w e w' := by
 rcases (show n = 0 ∨ n = 1 ∨ n = 2 ∨ n = 3 ∨ n = 4 ∨ n = 5 ∨ n = 6 ∨ n = 7 ∨ n = 8 ∨ n = 9 ∨ n = 10 ∨ n = 11 ∨ n = 12 by omega) with rfl | rfl | rfl | rfl | rfl | rfl | rfl | rfl | rfl | rfl | rfl | rfl | rfl
 all_goals
  go_enter Tryz.func135, Tryz.ntmps135
  go_wp2_with fail
  go_ret
  exact ⟨_, rfl, rfl⟩
set_option maxHeartbeats 3200000 in
theorem tlen_any (n : Nat) (hn : n ≤ 12) (w : World) : Calls Tryz.prog 107 #[.int .u64 (n : Int)] w fun e w' => SomeI w e w' := by
 go_enter Tryz.func107, Tryz.ntmps107
 go_wp2_with fail
 refine (tlen64_any n hn w).mono ?_
 rintro e w' ⟨k, rfl, rfl⟩
 go_wp2_with fail
 go_ret
 exact ⟨k, rfl, rfl⟩
set_option maxHeartbeats 3200000 in
theorem tpdq_any (base g c n : Nat) (l : List Int) (k : Int) (w : World) (hO : w.ownsRow base 3 1 (.slice (some ⟨g, 0, none⟩) n c) n (l.map tv)) (hl : l.length = n) (hn : n ≤ 12) :
  Calls Tryz.prog 106 #[.slice (some ⟨g, 0, none⟩) n c, .int .i64 0, .int .i64 (n : Int), .int .i64 k] w fun e w' => SrtPost base g c n l w e w' := by
 have C := tins_any base g c n l w hO hl hn
 have HC := Lib.hid C
 clear C hO hl
 have h12 : (n : Int) ≤ 12 := by omega
 go_enter Tryz.func106, Tryz.ntmps106
 go_wp2_with fail
 refine wp_loop_rounds 1 ?_
 rw [rounds_succ]
 go_wp2_with fail
 refine HC.out.mono ?_
 rintro e w' ⟨d, hd, rfl⟩
 go_wp2_with fail
 exact bodyPost_ret (results_none rfl _ _ _) rfl ⟨d, hd, rfl⟩
set_option maxHeartbeats 3200000 in
theorem tsort_any (base g c n : Nat) (l : List Int) (w : World) (hO : w.ownsRow base 3 1 (.slice (some ⟨g, 0, none⟩) n c) n (l.map tv)) (hl : l.length = n) (hn : n ≤ 12) :
  Calls Tryz.prog 76 #[.slice (some ⟨g, 0, none⟩) n c] w fun e w' => SrtPost base g c n l w e w' := by
 have HC := Lib.hid (fun k => tpdq_any base g c n l k w hO hl hn)
 clear hO hl
 have hz : IntKind.u64.wrap (n : Int) = (n : Int) := by rw [IntKind.wrap_u64]; omega
 go_enter Tryz.func76, Tryz.ntmps76
 go_wp2_with fail
 refine (tlen_any n hn w).mono ?_
 rintro e w' ⟨k, rfl, rfl⟩
 go_wp2_with fail
 refine (HC.out k).mono ?_
 rintro e w' ⟨d, hd, rfl⟩
 go_wp2_with fail
 first | exact bodyPost_end (results_none rfl _ _ _) rfl ⟨d, hd, rfl⟩ | exact bodyPost_ret (results_none rfl _ _ _) rfl ⟨d, hd, rfl⟩
end Go.Proofs.YtahafijpcmphaaaGreat

/- shortest.nearest. -/
namespace Go.Proofs.YtahafijpcmphaaaGreat
set_option maxRecDepth 100000
open Go.RowKit Go.Maps Bs
def LeastAt (l : List Int) (g : Int → Int) (i : Nat) : Prop := ∃ r, l[i]? = some r ∧ ∀ x ∈ l, g r ≤ g x
theorem leastq_ex (g : Int → Int) : ∀ l : List Int, l ≠ [] → ∃ r ∈ l, ∀ x ∈ l, g r ≤ g x
 | [], h => absurd rfl h
 | [a], _ => ⟨a, by simp, fun x hx => by rw [List.mem_singleton.1 hx]; exact Int.le_refl _⟩
 | a :: b :: t, _ => by
  obtain ⟨r, hr, hm⟩ := leastq_ex g (b :: t) (by simp)
  rcases Int.le_total (g a) (g r) with h | h
  ·refine ⟨a, by simp, fun x hx => ?_⟩
   rcases List.mem_cons.1 hx with rfl | hx
   ·exact Int.le_refl _
   ·exact Int.le_trans h (hm x hx)
  ·refine ⟨r, List.mem_cons_of_mem _ hr, fun x hx => ?_⟩
   rcases List.mem_cons.1 hx with rfl | hx
   ·exact h
   ·exact hm x hx
def NoneLeast (l : List Int) (g : Int → Int) (k : Nat) : Prop := ∀ j x, j < k → l[j]? = some x → ∃ y ∈ l, g y < g x
theorem NoneLeast.next {l : List Int} {g : Int → Int} {k : Nat} {x y : Int} (h : NoneLeast l g k) (hx : l[k]? = some x) (hy : y ∈ l) (hlt : g y < g x) : NoneLeast l g (k + 1) := fun j z hj hz => by
 rcases Nat.lt_or_ge j k with h1 | h1
 ·exact h j z h1 hz
 ·obtain rfl : j = k := by omega
  rw [hx] at hz
  obtain rfl := Option.some.inj hz
  exact ⟨y, hy, hlt⟩
theorem NoneLeast.all {l : List Int} {g : Int → Int} (h : NoneLeast l g l.length) : l = [] := by
 cases hl : l with
 | nil => rfl
 | cons a t =>
  obtain ⟨r, hr, hm⟩ := leastq_ex g l (by rw [hl]; simp)
  obtain ⟨j, hj, he⟩ := List.mem_iff_getElem.1 hr
  obtain ⟨y, hy, hlt⟩ := h j r hj (by rw [List.getElem?_eq_getElem hj, he])
  have := hm y hy
  omega
def NstPost (l : List Int) (g : Int → Int) (w : World) (e : Ending) (w' : World) : Prop := w = w' ∧ ((l = [] ∧ e = .returned (.tuple #[.int .i64 0, .bool false])) ∨ ∃ i : Nat, LeastAt l g i ∧ e = .returned (.tuple #[.int .i64 (i : Int), .bool true]))
set_option maxHeartbeats 3200000 in
theorem tnst_any (l : List Int) (f : Int → Option Int) (v : Value) (p : Option Addr) (c : Nat) (q q2 : Nat → Prop) (w : World) (hR : Rd w q (.slice p l.length c) (l.map tv)) (hM : MV w q2 v f) (hI : ∀ x ∈ l, I64 x) (hm : l.length ≤ 1000) :
  Calls Tryz.prog 152 #[.slice p l.length c, v] w fun e w' => NstPost l (fun x => (f x).getD 0) w e w' := by
 obtain ⟨g, hg⟩ : ∃ g : Int → Int, (fun x => (f x).getD 0) = g := ⟨_, rfl⟩
 have HL : Hid (∀ x ∈ l, (Instr.lookup 114 v (.int .i64 x) false).run Tryz.prog w = .ok (.int .i64 (g x)) w) := Lib.hid (fun x hx => by rw [← hg]; exact (hM.look (hI x hx)).1)
 have HR := Lib.hid hR
 have HN0 : Hid (NoneLeast l g 0) := Lib.hid (fun j x hj => absurd hj (by omega))
 rw [hg]
 clear hR hM hI hg
 go_enter Tryz.func152, Tryz.ntmps152
 go_wp2_with fail
 go_step3
 go_wp2_with fail
 go_step3
 go_wp2_with fail
 go_loopw [12] (fun a wr => ∃ k : Nat, k ≤ l.length ∧ a = .int .i64 (k : Int) ∧ Hid (NoneLeast l g k) ∧ wr = w) (fun a _ => l.length - (RowKit.intOf a).toNat)
 case atStart => exact ⟨0, Nat.zero_le _, rfl, HN0, rfl⟩
 case round =>
  obtain ⟨k, hk, rfl, HN, rfl⟩ := hrel
  clear HN0
  by_cases hlt : k < l.length
  ·obtain ⟨-, b, off, rfl, -, hc⟩ := rdi_at HR.out (by omega)
   obtain ⟨x, hx⟩ : ∃ x, l[k]? = some x := ⟨_, List.getElem?_eq_getElem hlt⟩
   have d0 := hc k x hx
   have HX := Lib.hid hx
   have HC := Lib.hid hc
   have q0 := HL.out x (List.mem_of_getElem? hx)
   have HJ0 : Hid (∀ j y, j < 0 → l[j]? = some y → g x ≤ g y) := Lib.hid (fun j y hj => absurd hj (by omega))
   clear hc hx
   go_wp2_with fail
   go_loopw [19] (fun a wq => ∃ j : Nat, j ≤ l.length ∧ a = .int .i64 (j : Int) ∧ Hid (∀ i y, i < j → l[i]? = some y → g x ≤ g y) ∧ wq = wr) (fun a _ => l.length - (RowKit.intOf a).toNat)
   case atStart => exact ⟨0, Nat.zero_le _, rfl, HJ0, rfl⟩
   case round =>
    obtain ⟨j, hj, rfl, HJ, rfl⟩ := hrel
    clear HJ0
    by_cases hlt2 : j < l.length
    ·obtain ⟨y, hy⟩ : ∃ y, l[j]? = some y := ⟨_, List.getElem?_eq_getElem hlt2⟩
     have d1 := HC.out j y hy
     have HY := Lib.hid hy
     have q1 := HL.out y (List.mem_of_getElem? hy)
     clear hy
     by_cases hgt : g y < g x
     ·have HN2 := Lib.hid (HN.out.next HX.out (List.mem_of_getElem? HY.out) hgt)
      go_wp2_with fail
      exact ⟨⟨k + 1, by omega, congrArg _ (by omega), HN2, (by first | rfl | trivial)⟩, by simp only [RowKit.intOf]; omega⟩
     ·have HJ2 : Hid (∀ i y, i < j + 1 → l[i]? = some y → g x ≤ g y) := Lib.hid (fun i z hi hz => by
       rcases Nat.lt_or_ge i j with h1 | h1
       ·exact HJ.out i z h1 hz
       ·obtain rfl : i = j := by omega
        rw [HY.out] at hz
        obtain rfl := Option.some.inj hz
        omega)
      go_wp2_with fail
      exact ⟨⟨j + 1, by omega, congrArg _ (by omega), HJ2, (by first | rfl | trivial)⟩, by simp only [RowKit.intOf]; omega⟩
    ·obtain rfl : j = l.length := by omega
     go_wp2_with fail
     rw [Exit.noGoto_ret]
     go_ret2
     exact ⟨rfl, Or.inr ⟨k, ⟨x, HX.out, fun y hy => by
      obtain ⟨i, hi, he⟩ := List.mem_iff_getElem.1 hy
      exact HJ.out i y hi (by rw [List.getElem?_eq_getElem hi, he])⟩, rfl⟩⟩
  ·obtain rfl : k = l.length := by omega
   have HE := Lib.hid HN.out.all
   go_wp2_with fail
   rw [Exit.noGoto_ret]
   go_ret2
   exact ⟨rfl, Or.inl ⟨HE.out, rfl⟩⟩
end Go.Proofs.YtahafijpcmphaaaGreat

/- slices.Delete of one number. -/
namespace Go.Proofs.YtahafijpcmphaaaGreat
set_option maxRecDepth 100000
open Go.RowKit Bs
theorem zero_in : (Builtin.zeroCells (Value.int .i64 0).cells 1).toList = [.int .i64 0] := by kernel_rfl
theorem erase_map (L : List Int) (i : Nat) : (L.eraseIdx i).map tv = (L.map tv).take i ++ (L.map tv).drop (i + 1) := by
 rw [List.eraseIdx_eq_take_drop_succ, List.map_append, List.map_take, List.map_drop]
theorem deli_cells (xs zs : List Value) (N i : Nat) (hx : xs.length = N) (hz : zs.length = 1) (hi : i < N) : (setAt (setAt xs i (xs.drop (i + 1))) (N - 1) zs).take (N - 1) = xs.take i ++ xs.drop (i + 1) := by
 have hd : (xs.drop (i + 1)).length = N - (i + 1) := by rw [List.length_drop, hx]
 have hl1 : (setAt xs i (xs.drop (i + 1))).length = N := by rw [setAt_len, hx]
 refine list_eq ?_ (fun j hj => ?_)
 ·rw [List.length_take, setAt_len, hl1, List.length_append, List.length_take, hd, hx]
  omega
 ·rw [List.length_take, setAt_len, hl1] at hj
  rw [List.getElem?_take_of_lt (by omega), setAt_get _ _ _ _ (by rw [hl1, hz]; omega), if_neg (by omega), setAt_get _ _ _ _ (by rw [hd, hx]; omega)]
  by_cases h1 : j < i
  ·rw [if_neg (by omega), List.getElem?_append_left (by rw [List.length_take, hx]; omega), List.getElem?_take_of_lt h1]
  ·rw [if_pos (by rw [hd]; omega), List.getElem?_append_right (by rw [List.length_take, hx]; omega), List.length_take, hx, Nat.min_eq_left (by omega)]
set_option maxHeartbeats 3200000 in
theorem tdeli_any (L : List Int) (g cap base i : Nat) (w : World) (h : w.ownsRow base 3 1 (.slice (some ⟨g, 0, none⟩) L.length cap) L.length (L.map tv)) (hi : i < L.length) (hm : L.length ≤ 1000) :
  Calls Tryz.prog 153 #[.slice (some ⟨g, 0, none⟩) L.length cap, .int .i64 (i : Int), .int .i64 ((i : Int) + 1)] w fun e w' => ∃ N, N = (L.eraseIdx i).length ∧ e = .returned (.slice (some ⟨g, 0, none⟩) N cap) ∧ w'.ownsRow base 3 1 (.slice (some ⟨g, 0, none⟩) N cap) N ((L.eraseIdx i).map tv) ∧ w.grownBy w' (some g) := by
 obtain ⟨ii, hii, hi0, hi1, hi2⟩ := info_parts info_int
 have hcap : L.length ≤ cap ∧ cap ≤ 9223372036854775807 := by
  obtain ⟨p', c', e, k1, k2⟩ := own_shape h
  injection e with e1 e2 e3
  subst e3
  exact ⟨k1, k2⟩
 obtain ⟨N, hN⟩ : ∃ N, L.length = N := ⟨_, rfl⟩
 obtain ⟨K, hK⟩ : ∃ K, i + (N - (i + 1)) = K := ⟨_, rfl⟩
 have hlf : (L.map tv).length = L.length := List.length_map _
 rw [hN] at h hi hm hcap hlf ⊢
 have HN := Lib.hid (And.intro hN hK)
 have hKN : Hid (K = N - 1 ∧ N - K = 1) := Lib.hid (by omega)
 obtain ⟨xs, hxs⟩ : ∃ xs, L.map tv = xs := ⟨_, rfl⟩
 have HXS := Lib.hid (And.intro hxs (show xs.length = N by rw [← hxs]; exact hlf))
 rw [hxs] at h
 have hdl : (xs.drop (i + 1)).length = N - (i + 1) := by rw [List.length_drop, HXS.out.2]
 have H := Lib.hid h
 obtain ⟨o, HQ, HO⟩ : ∃ o, Hid ((if cap = i + 1 then some (⟨g, 0, none⟩ : Addr) else some ⟨g, (i + 1), none⟩) = some ⟨g, o, none⟩) ∧ (N - (i + 1) = 0 ∨ o = (i + 1)) := by
  by_cases hc : cap = i + 1
  ·exact ⟨0, Lib.hid (by rw [if_pos hc]), Or.inl (by omega)⟩
  ·exact ⟨_, Lib.hid (by rw [if_neg hc]), Or.inr rfl⟩
 -- the append
 have hone : ∀ u ∈ xs, u.oneCell' = true := fun u hu => by
  rw [← hxs] at hu
  obtain ⟨y, -, rfl⟩ := List.mem_map.1 hu
  rfl
 have hrun : ∀ ty, (Builtin.append_ #[22, 22] ty #[.slice (some ⟨g, 0, none⟩) i cap, .slice (some ⟨g, o, none⟩) (N - (i + 1)) (cap - (i + 1))]).run Tryz.prog w.drew = .ok (.slice (some ⟨g, 0, none⟩) (i + (N - (i + 1))) cap) (w.drew.setCells g (0 + i) (xs.drop (i + 1))) := fun ty => by
  have hr := run_append_room_cells (P := Tryz.prog) w.drew 22 ty 3 ii Tryz.underlying22 hii g 0 i cap ⟨g, o, none⟩ (N - (i + 1)) (cap - (i + 1)) (xs.drop (i + 1)) (by rw [hi1, Nat.mul_one]; exact hdl) (fun j u hj => by
   have hjl : j < N - (i + 1) := by rw [← hdl]; exact (List.getElem?_eq_some_iff.1 hj).1
   rw [add_plain, show o = (i + 1) by omega]
   rw [List.getElem?_drop] at hj
   have := h.drew.cells (g := g) rfl _ u hj
   rw [add_plain, Nat.zero_add] at this
   exact this) (fun u hu => hone u (List.mem_of_mem_drop hu)) (by omega) (fun j hj => (own_cellOk h.drew _ (by rw [hi1, hdl] at *; omega)).1) (fun j hj => (own_cellOk h.drew _ (by rw [hi1, hdl] at *; omega)).2)
  rw [hi1, Nat.mul_one] at hr
  exact hr
 obtain ⟨s1, s2⟩ := own_setCells (xs.drop (i + 1)) i w.drew xs h.drew
 have HS1 := Lib.hid (And.intro s1 (grown_trans (grown_drew (grown_refl w (some g))) s2))
 obtain ⟨w1, hw1⟩ : ∃ w1, w1 = w.drew.setCells g i (xs.drop (i + 1)) := ⟨_, rfl⟩
 rw [← hw1] at HS1
 rw [Nat.zero_add, ← hw1, hK] at hrun
 have HRUN := Lib.hid hrun
 have hclr : ∀ ty c, (Builtin.clear_ #[22] ty #[.slice (some ⟨g, K, none⟩) (N - K) c]).run Tryz.prog w1 = .ok (.tuple #[]) (w1.setCells g (K) (Builtin.zeroCells (Value.int .i64 0).cells 1).toList) := fun ty c => by
  rw [hKN.out.2]
  exact run_clear_k Tryz.underlying22 hii w1 ty _ hi0 (by rw [zero_in]; intro v hv; simp at hv; subst hv; rfl) g (K) c (fun j hj => (own_cellOk HS1.out.1 _ (by rw [zero_in] at hj; simp at hj; have := hKN.out; omega)).1) (fun j hj => (own_cellOk HS1.out.1 _ (by rw [zero_in] at hj; simp at hj; have := hKN.out; omega)).2)
 have HCLR := Lib.hid hclr
 obtain ⟨t1, t2⟩ := own_setCells (Builtin.zeroCells (Value.int .i64 0).cells 1).toList (K) w1 _ HS1.out.1
 have HT : Hid ((w1.setCells g (K) (Builtin.zeroCells (Value.int .i64 0).cells 1).toList).ownsRow base 3 1 (.slice (some ⟨g, 0, none⟩) K cap) K ((L.eraseIdx i).map tv) ∧ w.grownBy (w1.setCells g (K) (Builtin.zeroCells (Value.int .i64 0).cells 1).toList) (some g)) := Lib.hid (by
  obtain ⟨ys, hy1, hy2⟩ := own_len t1 K (by have := hKN.out; omega)
  refine ⟨?_, grown_trans HS1.out.2 t2⟩
  have e1 : min N K = K := by have := hKN.out; omega
  have hyl : ys.length = K := by have := hy2.1; omega
  rw [e1, Nat.mul_one, List.take_of_length_le (by omega), hKN.out.1, deli_cells xs _ N i HXS.out.2 (by rw [zero_in]; rfl) hi, ← HXS.out.1, ← erase_map L i] at hy1
  rw [← hy1]
  exact hy2)
 have HL : Hid (K = (L.eraseIdx i).length) := Lib.hid (by rw [List.length_eraseIdx, if_pos (by rw [HN.out.1]; exact hi), HN.out.1]; exact hKN.out.1)
 have n1 : K ≤ cap := by have := hKN.out; omega
 have n2 : (K : Int) ≤ (N : Int) := by have := hKN.out; omega
 have n3 : (N : Int) ≤ (cap : Int) := by omega
 have n4 : ¬ cap - K = 0 := by have := hKN.out; omega
 have n5 : ¬ (i : Int) = (i : Int) + 1 := by omega
 have n6 : i ≤ cap := by omega
 have n7 : (0 : Int) ≤ (i : Int) + 1 := by omega
 have n8 : (i : Int) + 1 ≤ (N : Int) := by omega
 have n9 : (i : Int) ≤ (cap : Int) := by omega
 clear HO hrun hclr s1 s2 t1 t2 hw1 h hone hdl hlf hxs hN hK
 go_enter Tryz.func153, Tryz.ntmps153
 go_upto_region 5 with fail
 refine wp_region_held_drew (S := fun _ => True) (by kernel_rfl) (trivial) (fun hHeld => ?_)
 refine wpAnyH_take (i := 0) (oi := { dst := some 20, op := Op.move (Operand.tmp 0), type := 22, pos := _, after := _, guard := none }) (v := ?_) rfl (by kernel_rfl) (by kernel_rfl) (by kernel_rfl) (fun _ _ _ h => h) (Or.inl ⟨by rfl, ?_⟩) hHeld ?_
 rotate_left 1
 ·intro u hSu
  go_simp
  first | done | with_reducible rfl
 (try simp only [Act.put, zA, zB, zC])
 refine wpAnyH_take (i := 1) (oi := { dst := some 21, op := Op.move (Operand.tmp 1), type := 3, pos := _, after := _, guard := none }) (v := ?_) rfl (by kernel_rfl) (by kernel_rfl) (by kernel_rfl) (fun _ _ _ h => h) (Or.inl ⟨by rfl, ?_⟩) hHeld ?_
 rotate_left 1
 ·intro u hSu
  go_simp
  first | done | with_reducible rfl
 (try simp only [Act.put, zA, zB, zC])
 refine wpAnyH_take (i := 2) (oi := { dst := some 22, op := Op.slice 22 (Operand.tmp 20) none (some (Operand.tmp 21)) none, type := 22, pos := _, after := _, guard := none }) (v := ?_) rfl (by kernel_rfl) (by kernel_rfl) (by kernel_rfl) (fun _ _ _ h => h) (Or.inl ⟨by rfl, ?_⟩) hHeld ?_
 rotate_left 1
 ·intro u hSu
  go_simp
  first | done | with_reducible rfl
 (try simp only [Act.put, zA, zB, zC])
 refine wpAnyH_take (i := 3) (oi := { dst := some 23, op := Op.move (Operand.tmp 0), type := 22, pos := _, after := _, guard := none }) (v := ?_) rfl (by kernel_rfl) (by kernel_rfl) (by kernel_rfl) (fun _ _ _ h => h) (Or.inl ⟨by rfl, ?_⟩) hHeld ?_
 rotate_left 1
 ·intro u hSu
  go_simp
  first | done | with_reducible rfl
 (try simp only [Act.put, zA, zB, zC])
 refine wpAnyH_take (i := 4) (oi := { dst := some 24, op := Op.move (Operand.tmp 2), type := 3, pos := _, after := _, guard := none }) (v := ?_) rfl (by kernel_rfl) (by kernel_rfl) (by kernel_rfl) (fun _ _ _ h => h) (Or.inl ⟨by rfl, ?_⟩) hHeld ?_
 rotate_left 1
 ·intro u hSu
  go_simp
  first | done | with_reducible rfl
 (try simp only [Act.put, zA, zB, zC])
 refine wpAnyH_take (i := 5) (oi := { dst := some 25, op := Op.slice 22 (Operand.tmp 23) (some (Operand.tmp 24)) none none, type := 22, pos := _, after := _, guard := none }) (v := (Value.slice (some ⟨g, o, none⟩) (N - (i + 1)) (cap - (i + 1)))) rfl (by kernel_rfl) (by kernel_rfl) (by kernel_rfl) (fun _ _ _ h => h) (Or.inl ⟨by rfl, ?_⟩) hHeld ?_
 ·intro u hSu
  go_simp
  rw [HQ.out]
 (try simp only [Act.put, zA, zB, zC])
 refine wpAnyH_ready (rs := [6]) (by kernel_rfl) (by simp) ?_
 refine AllReadyH.cons (o := { dst := some 26, op := Op.call { callee := Callee.builtin Builtin.append, args := #[Operand.tmp 22, Operand.tmp 25], argTypes := #[22, 22] }, type := 22, pos := _, after := _, guard := none }) rfl (fun Kz hK => ?_) AllReadyH.nil
 refine step_append_run rfl _ _ _ _ rfl _ _ rfl rfl (HRUN.out _) ?_
 refine hK.out _ _ (trivial) (fun hH2 => ?_)
 clear hK Kz hHeld
 have hHeld := hH2
 clear hH2
 (try simp only [Act.put, zA, zB, zC])
 refine wpAnyH_take (i := 7) (oi := { dst := some 0, op := Op.assign (Operand.tmp 26), type := 22, pos := _, after := _, guard := none }) (v := ?_) rfl (by kernel_rfl) (by kernel_rfl) (by kernel_rfl) (fun _ _ _ h => h) (Or.inl ⟨by rfl, ?_⟩) hHeld ?_
 rotate_left 1
 ·intro u hSu
  go_simp
  first | done | with_reducible rfl
 (try simp only [Act.put, zA, zB, zC])
 refine wpAnyH_done (by kernel_rfl) ?_ _
 clear hHeld
 go_wp2_with (refine wpList_clear_run rfl _ 22 rfl _ rfl (HCLR.out _ _) ?_)
 go_wp2_with fail
 go_ret
 exact ⟨K, HL.out, rfl, HT.out⟩
end Go.Proofs.YtahafijpcmphaaaGreat

/- The neighbours with which least walks go on; flipped links. -/
namespace Go.Proofs.YtahafijpcmphaaaGreat
set_option maxRecDepth 100000
def flipL (L : List Lk) : List Lk := L.map fun l => ⟨l.a, l.b, l.cb, l.ca, l.cp⟩
theorem edg_flip {L : List Lk} {u v c : Int} : edg (flipL L) u v c ↔ edg L v u c := by
 unfold edg flipL
 constructor
 ·rintro ⟨m, hm, h⟩
  obtain ⟨l, hl, rfl⟩ := List.mem_map.1 hm
  rcases h with ⟨e1, e2, e3⟩ | ⟨e1, e2, e3⟩
  ·exact ⟨l, hl, .inr ⟨e2, e1, e3⟩⟩
  ·exact ⟨l, hl, .inl ⟨e2, e1, e3⟩⟩
 ·rintro ⟨l, hl, h⟩
  refine ⟨_, List.mem_map.2 ⟨l, hl, rfl⟩, ?_⟩
  rcases h with ⟨e1, e2, e3⟩ | ⟨e1, e2, e3⟩
  ·exact .inr ⟨e2, e1, e3⟩
  ·exact .inl ⟨e2, e1, e3⟩
theorem Pos.flip {L : List Lk} (h : Pos L) : Pos (flipL L) := fun m hm => by
 obtain ⟨l, hl, rfl⟩ := List.mem_map.1 hm
 exact ⟨(h l hl).2, (h l hl).1⟩
theorem Ends.flip {L : List Lk} {V : List Int} (h : Ends L V) : Ends (flipL L) V := fun m hm => by
 obtain ⟨l, hl, rfl⟩ := List.mem_map.1 hm
 exact h l hl
def nextV (L : List Lk) (f : Int → Option Int) (r : Int) : List Int :=
 ((nbD L r).filter fun n => match f n.1 with
  | some x => decide (n.2 + x = (f r).getD 0)
  | none => false).map (·.1)
theorem nbD_fst (L : List Lk) (r : Int) : (nbD L r).map (·.1) = nbL L r := by
 unfold nbD nbL
 rw [List.map_flatMap]
 refine congrArg (fun g => List.flatMap g L) (funext fun l => ?_)
 unfold nb1
 rw [List.map_append]
 by_cases h1 : l.b = r <;> by_cases h2 : l.a = r <;> simp [h1, h2]
theorem next_lt {L : List Lk} (hp : Pos L) {f : Int → Option Int} {r d u : Int} (hr : f r = some d) (hu : u ∈ nextV L f r) : ∃ x c, f u = some x ∧ edg L r u c ∧ c + x = d ∧ x < d := by
 unfold nextV at hu
 obtain ⟨⟨v, c⟩, hm, rfl⟩ := List.mem_map.1 hu
 obtain ⟨h1, h2⟩ := List.mem_filter.1 hm
 simp only at h2 ⊢
 cases hv : f v with
 | none => rw [hv] at h2; cases h2
 | some x =>
  rw [hv, hr] at h2
  have h3 := of_decide_eq_true h2
  have he := nbD_mem.1 h1
  have hc := hp.edg he
  simp only [Option.getD_some] at h3
  exact ⟨x, c, rfl, he, h3, by omega⟩
theorem next_end {L : List Lk} (hp : Pos L) {f : Int → Option Int} (hf0 : ∀ v x, f v = some x → 0 ≤ x) {r : Int} (hr : f r = some 0) : nextV L f r = [] := by
 cases h : nextV L f r with
 | nil => rfl
 | cons u t =>
  obtain ⟨x, c, hx, -, -, hlt⟩ := next_lt hp hr (u := u) (by rw [h]; simp)
  have := hf0 u x hx
  omega
theorem next_none {L : List Lk} (hp : Pos L) {f : Int → Option Int} (hf0 : ∀ v x, f v = some x → 0 ≤ x) {r : Int} (hr : f r = none) : nextV L f r = [] := by
 unfold nextV
 rw [List.filter_eq_nil_iff.2]
 ·rfl
 ·rintro ⟨v, c⟩ hm h
  simp only at h
  cases hv : f v with
  | none => rw [hv] at h; cases h
  | some x =>
   rw [hv, hr] at h
   have h3 := of_decide_eq_true h
   have hc := hp.edg (nbD_mem.1 hm)
   have := hf0 v x hv
   simp only [Option.getD_none] at h3
   omega
end Go.Proofs.YtahafijpcmphaaaGreat

/- topology: what Components' join visits; what memory holds while it runs. -/
namespace Go.Proofs.YtahafijpcmphaaaGreat
set_option maxRecDepth 100000
open Go.RowKit Bs
theorem hasI_app (S T : List Int) (x : Int) : hasI (S ++ T) x = (hasI S x || hasI T x) := by
 unfold hasI
 rw [List.any_append]
def sn (S : List Int) : List Value := (List.range 100).map fun i : Nat => .bool (hasI S (i : Int))
theorem sn_at {S : List Int} {i : Nat} (hi : i < 100) : (sn S)[i]? = some (.bool (hasI S (i : Int))) := by
 unfold sn
 rw [List.getElem?_map, List.getElem?_eq_getElem (by simpa using hi), List.getElem_range]; rfl
theorem sn_snoc {S : List Int} {n : Nat} (hn : n < 100) : (sn S).set n (.bool true) = sn (S ++ [(n : Int)]) := by
 apply List.ext_getElem?
 intro i
 rw [List.getElem?_set]
 have hl : (sn S).length = 100 := by unfold sn; simp
 by_cases hi : i < 100
 ·rw [sn_at hi, sn_at hi, hasI_app]
  have h1 : hasI [(n : Int)] (i : Int) = decide ((n : Int) = (i : Int)) := by unfold hasI; simp
  rw [h1]
  by_cases e : n = i
  ·subst e
   rw [if_pos rfl, if_pos (by omega), decide_eq_true rfl, Bool.or_true]
  ·rw [if_neg e]
   have : decide ((n : Int) = (i : Int)) = false := decide_eq_false (by omega)
   rw [this, Bool.or_false]
 ·have e1 : (sn (S ++ [(n : Int)]))[i]? = none := List.getElem?_eq_none (by unfold sn; simp; omega)
  have e2 : (sn S)[i]? = none := List.getElem?_eq_none (by omega)
  rw [e1, e2, if_neg (by omega)]
structure JF (H : Nat) (w : World) (vc : Value) (w' : World) (vc' : Value) : Prop where
 os : w'.os = w.os
 tape : w'.tape = w.tape
 output : w'.output = w.output
 size : w.heap.size ≤ w'.heap.size
 block : ∀ b, b < w.heap.size → b ≠ H + 1 → b ≠ H + 2 → vc.ownBlock ≠ some b → w'.heap[b]? = w.heap[b]?
 row : vc'.ownBlock = vc.ownBlock ∨ ∃ g, vc'.ownBlock = some g ∧ w.heap.size ≤ g
theorem JF.refl (H : Nat) (w : World) (vc : Value) : JF H w vc w vc := ⟨rfl, rfl, rfl, Nat.le_refl _, fun _ _ _ _ _ => rfl, .inl rfl⟩
theorem JF.trans {H : Nat} {w w1 w2 : World} {v v1 v2 : Value} (h : JF H w v w1 v1) (k : JF H w1 v1 w2 v2) : JF H w v w2 v2 := by
 refine ⟨k.os.trans h.os, k.tape.trans h.tape, k.output.trans h.output, Nat.le_trans h.size k.size, fun b hb h1 h2 h3 => ?_, ?_⟩
 ·refine (k.block b (Nat.lt_of_lt_of_le hb h.size) h1 h2 (fun e => ?_)).trans (h.block b hb h1 h2 h3)
  rcases h.row with hr | ⟨g, hr, hg⟩
  ·exact h3 (hr ▸ e)
  ·rw [hr] at e
   have := Option.some.inj e
   omega
 ·rcases k.row with hr | ⟨g, hr, hg⟩
  ·rw [hr]; exact h.row
  ·exact .inr ⟨g, hr, Nat.le_trans h.size hg⟩
theorem JF.grown {H : Nat} {w w1 : World} (v : Value) (g : w.grownBy w1 none) : JF H w v w1 v := ⟨g.os, g.tape, g.output, g.size, fun b hb _ _ _ => g.block b hb (by simp), .inl rfl⟩
theorem JF.to {H : Nat} {w w1 : World} {v v1 : Value} (h : JF H w v w1 v1) (w0 : World) (g : w0.grownBy w none) (h0 : w0.heap.size ≤ H) (hv : ∀ g, v.ownBlock = some g → H ≤ g) : w0.grownBy w1 none :=
 ⟨h.os.trans g.os, h.tape.trans g.tape, h.output.trans g.output, Nat.le_trans g.size h.size, fun b hb _ => (h.block b (Nat.lt_of_lt_of_le hb g.size) (by omega) (by omega) (fun e => by have := hv b e; omega)).trans (g.block b hb (by simp))⟩
theorem Rd.jf {H : Nat} {w w1 : World} {v v1 x : Value} {q : Nat → Prop} {vs : List Value} (hr : Rd w q x vs) (h : JF H w v w1 v1) (hq : ∀ b, q b → b < w.heap.size → b ≠ H + 1 ∧ b ≠ H + 2 ∧ v.ownBlock ≠ some b) : Rd w1 q x vs := by
 obtain ⟨p, c, hv, hc⟩ := hr
 refine ⟨p, c, hv, fun hne => ?_⟩
 obtain ⟨b, off, hp, hb, hx⟩ := hc hne
 refine ⟨b, off, hp, hb, fun i x hi => ?_⟩
 have hcell := hx i x hi
 have hlt : b < w.heap.size := by
  rcases Nat.lt_or_ge b w.heap.size with h1 | h1
  ·exact h1
  ·unfold World.cell? at hcell
   rw [Array.getElem?_eq_none h1] at hcell
   cases hcell
 obtain ⟨h1, h2, h3⟩ := hq b hb hlt
 rw [World.cell?_of_block (h.block b hlt h1 h2 h3)]
 exact hcell
theorem RdF.jf {H : Nat} {w w1 : World} {v v1 x : Value} {q : Nat → Prop} {n : Nat} {vs : List Value} (hr : RdF w q x n vs) (h : JF H w v w1 v1) (hq : ∀ b, q b → b < w.heap.size → b ≠ H + 1 ∧ b ≠ H + 2 ∧ v.ownBlock ≠ some b) : RdF w1 q x n vs := by
 obtain ⟨p, c, hv, hc⟩ := hr
 refine ⟨p, c, hv, fun hne => ?_⟩
 obtain ⟨b, off, hp, hb, hx⟩ := hc hne
 refine ⟨b, off, hp, hb, fun i x hi => ?_⟩
 have hcell := hx i x hi
 have hlt : b < w.heap.size := by
  rcases Nat.lt_or_ge b w.heap.size with h1 | h1
  ·exact h1
  ·unfold World.cell? at hcell
   rw [Array.getElem?_eq_none h1] at hcell
   cases hcell
 obtain ⟨h1, h2, h3⟩ := hq b hb hlt
 rw [World.cell?_of_block (h.block b hlt h1 h2 h3)]
 exact hcell
end Go.Proofs.YtahafijpcmphaaaGreat

/- empty -/
namespace Go.Proofs.YtahafijpcmphaaaGreat
set_option maxRecDepth 100000
end Go.Proofs.YtahafijpcmphaaaGreat

/- empty -/
namespace Go.Proofs.YtahafijpcmphaaaGreat
set_option maxRecDepth 100000
end Go.Proofs.YtahafijpcmphaaaGreat

/- topology: Components: the mathematics; what memory holds while it runs. -/
namespace Go.Proofs.YtahafijpcmphaaaGreat
set_option maxRecDepth 100000
open Go.RowKit Bs
theorem Rd.lt {w : World} {q : Nat → Prop} {v : Value} {vs : List Value} (h : Rd w q v vs) : Rd w (fun b => q b ∧ b < w.heap.size) v vs := by
 obtain ⟨p, c, hv, hc⟩ := h
 refine ⟨p, c, hv, fun hne => ?_⟩
 obtain ⟨b, off, hp, hb, hx⟩ := hc hne
 refine ⟨b, off, hp, ⟨hb, ?_⟩, hx⟩
 cases vs with
 | nil => exact absurd rfl hne
 | cons x vs =>
  have hcell := hx 0 x rfl
  rcases Nat.lt_or_ge b w.heap.size with h1 | h1
  ·exact h1
  ·unfold World.cell? at hcell
   rw [Array.getElem?_eq_none h1] at hcell
   cases hcell
theorem JF.sort {H : Nat} {w w1 w2 : World} {g n c : Nat} (h : JF H w (.slice none 0 0) w1 (.slice (some ⟨g, 0, none⟩) n c)) (k : w1.grownBy w2 (some g)) : JF H w (.slice none 0 0) w2 (.slice (some ⟨g, 0, none⟩) n c) := by
 have hg : w.heap.size ≤ g := by
  rcases h.row with e | ⟨g', e, hg⟩
  ·cases e
  ·have : g = g' := Option.some.inj e
   omega
 exact ⟨k.os.trans h.os, k.tape.trans h.tape, k.output.trans h.output, Nat.le_trans h.size k.size, fun b hb h1 h2 h3 => (k.block b (Nat.lt_of_lt_of_le hb h.size) (fun e => by have := Option.some.inj e; omega)).trans (h.block b hb h1 h2 h3), h.row⟩
end Go.Proofs.YtahafijpcmphaaaGreat

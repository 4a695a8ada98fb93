/- Parts of the proof, packed: DbRs, DbMgM, DbPlM, DbPlLaw, AdOpn, DbOpn. -/
import Derived.Test.YtnpkihioklpnmaaPu16
import Derived.Test.YtnpkihioklpnmaaPu18
import Derived.Deep.CutBlock
import Derived.Deep.CutRange
import Derived.Test.YtnpkihioklpnmaaPu1
import Derived.Test.YtnpkihioklpnmaaPu4
import Derived.Test.YtnpkihioklpnmaaPu3
import Derived.Test.YtnpkihioklpnmaaPu7
/- The reference's Same of databases. -/
namespace Go.Proofs.Ytnpkihioklpnmaa
open Go.RowKit Bs
/-- Two databases and their boxes. -/
structure D2 (W : World) (s : List Ad) (p1 : Option Addr) (c1 : Nat) (t : List Ad) (p2 : Option Addr) (c2 : Nat) (w : World) : Prop where
  b1 : w.heap[W.heap.size]? = some (.cells #[.slice p1 s.length c1] 25 (0, 0))
  b2 : w.heap[W.heap.size + 1]? = some (.cells #[.slice p2 t.length c2] 25 (0, 0))
  r1 : RdA w (· < W.heap.size) (.slice p1 s.length c1) s
  r2 : RdA w (· < W.heap.size) (.slice p2 t.length c2) t
  gr : W.grownBy w none
set_option maxRecDepth 100000 in
theorem D2.keep {W w w1 : World} {s t : List Ad} {p1 p2 : Option Addr} {c1 c2 : Nat} (h : D2 W s p1 c1 t p2 c2 w) (g : w.grownBy w1 none) : D2 W s p1 c1 t p2 c2 w1 := ⟨kept_row h.b1 g (by simp), kept_row h.b2 g (by simp), h.r1.keep g, h.r2.keep g, grown_trans h.gr g⟩
set_option maxRecDepth 100000 in
theorem d2_start {w : World} {s t : List Ad} {p1 p2 : Option Addr} {c1 c2 : Nat} {q1 q2 : Nat → Prop} (h1 : RdA w q1 (.slice p1 s.length c1) s) (h2 : RdA w q2 (.slice p2 t.length c2) t) : D2 w s p1 c1 t p2 c2 ((w.alloc (.cells #[.slice p1 s.length c1] 25)).alloc (.cells #[.slice p2 t.length c2] 25)) := by
  obtain ⟨k1, k2, k3, -⟩ := two_boxes w #[.slice p1 s.length c1] #[.slice p2 t.length c2] 25 25
  exact ⟨k1, k2, (RdA.old h1).keep k3, (RdA.old h2).keep k3, k3⟩
set_option maxRecDepth 100000 in
theorem D2.e1 {W w : World} {s t : List Ad} {p1 p2 : Option Addr} {c1 c2 : Nat} (h : D2 W s p1 c1 t p2 c2 w) : w.cell? ⟨W.heap.size, 0, none⟩ = some (.slice p1 s.length c1) := cell_of_row _ _ _ _ _ _ h.b1
set_option maxRecDepth 100000 in
theorem D2.e2 {W w : World} {s t : List Ad} {p1 p2 : Option Addr} {c1 c2 : Nat} (h : D2 W s p1 c1 t p2 c2 w) : w.cell? ⟨W.heap.size + 1, 0, none⟩ = some (.slice p2 t.length c2) := cell_of_row _ _ _ _ _ _ h.b2
set_option maxRecDepth 100000 in
set_option maxHeartbeats 6400000 in
theorem rsame8_any (s t : List Ad) (p1 p2 : Option Addr) (c1 c2 : Nat) (q1 q2 : Nat → Prop) (w : World) (h1 : RdA w q1 (.slice p1 s.length c1) s) (h2 : RdA w q2 (.slice p2 t.length c2) t) (hm : s.length ≤ 9223372036854775807 ∧ t.length ≤ 9223372036854775807) :
    Calls Try.prog 17 #[.agg #[.slice p1 s.length c1], .agg #[.slice p2 t.length c2]] w fun e w' => e = .returned (.bool (smD s t)) ∧ w.grownBy w' none := by
  have H0 := Lib.hid (d2_start h1 h2)
  have hm1 := hm.1
  have hm2 := hm.2
  clear h1 h2 hm
  obtain ⟨X, hX⟩ : ∃ X, smD s t = X := ⟨_, rfl⟩
  have HX := Lib.hid hX
  rw [hX]
  clear hX
  by_cases hlen : s.length = t.length
  · have hli : (s.length : Int) = (t.length : Int) := by omega
    have HLEN := Lib.hid hlen
    have HX0 : Hid (smD (s.drop 0) (t.drop 0) = X) := Lib.hid HX.out
    clear hlen
    go_enter Try.func17, Try.ntmps17
    go_upto_region 1 with fail
    generalize (w.alloc _).alloc _ = wa at *
    have c0 : wa.cell? ⟨w.heap.size, 0, none⟩ = some (.slice p1 s.length c1) := cell_of_row _ _ _ _ _ _ H0.out.b1
    have c0' : wa.cell? ⟨w.heap.size + 1, 0, none⟩ = some (.slice p2 t.length c2) := cell_of_row _ _ _ _ _ _ H0.out.b2
    go_wp2_with fail
    clear c0 c0'
    go_loopw [5] (fun a wr => ∃ k : Nat, k ≤ s.length ∧ a = .int .i64 (k : Int) ∧ Hid (smD (s.drop k) (t.drop k) = X) ∧ Hid (D2 w s p1 c1 t p2 c2 wr)) (fun a _ => s.length - (RowKit.intOf a).toNat)
    case atStart => exact ⟨0, Nat.zero_le _, rfl, HX0, H0⟩
    case round =>
    obtain ⟨k, hk, rfl, HI, K⟩ := hrel
    clear HX0 H0
    have hkt : k ≤ t.length := by have := HLEN.out; omega
    have c0 : wr.cell? ⟨w.heap.size, 0, none⟩ = some (.slice p1 s.length c1) := cell_of_row _ _ _ _ _ _ K.out.b1
    by_cases hlt : k < s.length
    · have hltt : k < t.length := by have := HLEN.out; omega
      have hltI : (k : Int) < (t.length : Int) := by omega
      have hltS : (k : Int) < (s.length : Int) := by omega
      obtain ⟨-, a1, off1, rfl, -, -⟩ := rda_cells K.out.r1 (by omega)
      obtain ⟨-, a2, off2, rfl, -, -⟩ := rda_cells K.out.r2 (by omega)
      obtain ⟨x, hx⟩ : ∃ x, s[k]? = some x := ⟨_, List.getElem?_eq_getElem hlt⟩
      obtain ⟨y, hy⟩ : ∃ y, t[k]? = some y := ⟨_, List.getElem?_eq_getElem hltt⟩
      have HST := Lib.hid (HI.out.symm.trans (smD_step hx hy))
      have HM := Lib.hid (And.intro (List.mem_of_getElem? hx) (List.mem_of_getElem? hy))
      have HXY := Lib.hid (And.intro hx hy)
      clear hx hy HI
      obtain ⟨z, hz⟩ : ∃ z, decide (cmpA x y = 0) = z := ⟨_, rfl⟩
      rw [hz] at HST
      have HZ := Lib.hid hz
      clear hz
      go_upto_region 6 with fail
      clear c0
      have HD := Lib.hid (K.out.keep (grown_drew (grown_refl wr none)))
      clear K
      refine wp_region_held_drew (S := fun w' => Hid (D2 w s (some ⟨a1, off1, none⟩) c1 t (some ⟨a2, off2, none⟩) c2 w')) (by kernel_rfl) (HD) (fun hHeld => ?_)
      refine wpAnyH_take (i := 0) (oi := { dst := some 20, op := Op.fieldAddr 25 (Operand.tmp 2) 0, type := 0, pos := "ref.go:35", after := #[], guard := none }) (v := ?_) rfl (by kernel_rfl) (by kernel_rfl) (by kernel_rfl) (fun _ _ _ h => h) (Or.inl ⟨by rfl, ?_⟩) hHeld ?_
      rotate_left 1
      · intro u hSu
        have c0 := hSu.out.e1
        have c0' := hSu.out.e2
        obtain ⟨d0, d1, d2, d3, d4⟩ := rda_at hSu.out.r1 HXY.out.1
        obtain ⟨e0, e1, e2, e3, e4⟩ := rda_at hSu.out.r2 HXY.out.2
        go_simp
        first | done | with_reducible rfl
      (try simp only [Act.put, List.setIfInBounds_toArray, List.set_cons_zero, List.set_cons_succ])
      refine wpAnyH_take (i := 1) (oi := { dst := some 21, op := Op.load 23 (Operand.tmp 20), type := 23, pos := "ref.go:35", after := #[{ on := 0, ground := Ground.data }], guard := none }) (v := ?_) rfl (by kernel_rfl) (by kernel_rfl) (by kernel_rfl) (fun _ _ _ h => h) (Or.inl ⟨by rfl, ?_⟩) hHeld ?_
      rotate_left 1
      · intro u hSu
        have c0 := hSu.out.e1
        have c0' := hSu.out.e2
        obtain ⟨d0, d1, d2, d3, d4⟩ := rda_at hSu.out.r1 HXY.out.1
        obtain ⟨e0, e1, e2, e3, e4⟩ := rda_at hSu.out.r2 HXY.out.2
        go_simp
        first | done | with_reducible rfl
      (try simp only [Act.put, List.setIfInBounds_toArray, List.set_cons_zero, List.set_cons_succ])
      refine wpAnyH_take (i := 2) (oi := { dst := some 22, op := Op.move (Operand.tmp 5), type := 3, pos := "ref.go:35", after := #[], guard := none }) (v := ?_) rfl (by kernel_rfl) (by kernel_rfl) (by kernel_rfl) (fun _ _ _ h => h) (Or.inl ⟨by rfl, ?_⟩) hHeld ?_
      rotate_left 1
      · intro u hSu
        have c0 := hSu.out.e1
        have c0' := hSu.out.e2
        obtain ⟨d0, d1, d2, d3, d4⟩ := rda_at hSu.out.r1 HXY.out.1
        obtain ⟨e0, e1, e2, e3, e4⟩ := rda_at hSu.out.r2 HXY.out.2
        go_simp
        first | done | with_reducible rfl
      (try simp only [Act.put, List.setIfInBounds_toArray, List.set_cons_zero, List.set_cons_succ])
      refine wpAnyH_take (i := 3) (oi := { dst := some 23, op := Op.indexAddr 23 (Operand.tmp 21) (Operand.tmp 22), type := 0, pos := "ref.go:35", after := #[{ on := 1, ground := Ground.data }, { on := 2, ground := Ground.data }], guard := none }) (v := ?_) rfl (by kernel_rfl) (by kernel_rfl) (by kernel_rfl) (fun _ _ _ h => h) (Or.inl ⟨by rfl, ?_⟩) hHeld ?_
      rotate_left 1
      · intro u hSu
        have c0 := hSu.out.e1
        have c0' := hSu.out.e2
        obtain ⟨d0, d1, d2, d3, d4⟩ := rda_at hSu.out.r1 HXY.out.1
        obtain ⟨e0, e1, e2, e3, e4⟩ := rda_at hSu.out.r2 HXY.out.2
        go_simp
        first | done | with_reducible rfl
      (try simp only [Act.put, List.setIfInBounds_toArray, List.set_cons_zero, List.set_cons_succ])
      refine wpAnyH_take (i := 4) (oi := { dst := some 24, op := Op.load 38 (Operand.tmp 23), type := 38, pos := "ref.go:35", after := #[{ on := 3, ground := Ground.data }], guard := none }) (v := ?_) rfl (by kernel_rfl) (by kernel_rfl) (by kernel_rfl) (fun _ _ _ h => h) (Or.inl ⟨by rfl, ?_⟩) hHeld ?_
      rotate_left 1
      · intro u hSu
        have c0 := hSu.out.e1
        have c0' := hSu.out.e2
        obtain ⟨d0, d1, d2, d3, d4⟩ := rda_at hSu.out.r1 HXY.out.1
        obtain ⟨e0, e1, e2, e3, e4⟩ := rda_at hSu.out.r2 HXY.out.2
        go_simp
        first | done | with_reducible rfl
      (try simp only [Act.put, List.setIfInBounds_toArray, List.set_cons_zero, List.set_cons_succ])
      refine wpAnyH_take (i := 5) (oi := { dst := some 25, op := Op.fieldAddr 25 (Operand.tmp 3) 0, type := 0, pos := "ref.go:35", after := #[], guard := none }) (v := ?_) rfl (by kernel_rfl) (by kernel_rfl) (by kernel_rfl) (fun _ _ _ h => h) (Or.inl ⟨by rfl, ?_⟩) hHeld ?_
      rotate_left 1
      · intro u hSu
        have c0 := hSu.out.e1
        have c0' := hSu.out.e2
        obtain ⟨d0, d1, d2, d3, d4⟩ := rda_at hSu.out.r1 HXY.out.1
        obtain ⟨e0, e1, e2, e3, e4⟩ := rda_at hSu.out.r2 HXY.out.2
        go_simp
        first | done | with_reducible rfl
      (try simp only [Act.put, List.setIfInBounds_toArray, List.set_cons_zero, List.set_cons_succ])
      refine wpAnyH_take (i := 6) (oi := { dst := some 26, op := Op.load 23 (Operand.tmp 25), type := 23, pos := "ref.go:35", after := #[{ on := 5, ground := Ground.data }], guard := none }) (v := ?_) rfl (by kernel_rfl) (by kernel_rfl) (by kernel_rfl) (fun _ _ _ h => h) (Or.inl ⟨by rfl, ?_⟩) hHeld ?_
      rotate_left 1
      · intro u hSu
        have c0 := hSu.out.e1
        have c0' := hSu.out.e2
        obtain ⟨d0, d1, d2, d3, d4⟩ := rda_at hSu.out.r1 HXY.out.1
        obtain ⟨e0, e1, e2, e3, e4⟩ := rda_at hSu.out.r2 HXY.out.2
        go_simp
        first | done | with_reducible rfl
      (try simp only [Act.put, List.setIfInBounds_toArray, List.set_cons_zero, List.set_cons_succ])
      refine wpAnyH_take (i := 7) (oi := { dst := some 27, op := Op.move (Operand.tmp 5), type := 3, pos := "ref.go:35", after := #[], guard := none }) (v := ?_) rfl (by kernel_rfl) (by kernel_rfl) (by kernel_rfl) (fun _ _ _ h => h) (Or.inl ⟨by rfl, ?_⟩) hHeld ?_
      rotate_left 1
      · intro u hSu
        have c0 := hSu.out.e1
        have c0' := hSu.out.e2
        obtain ⟨d0, d1, d2, d3, d4⟩ := rda_at hSu.out.r1 HXY.out.1
        obtain ⟨e0, e1, e2, e3, e4⟩ := rda_at hSu.out.r2 HXY.out.2
        go_simp
        first | done | with_reducible rfl
      (try simp only [Act.put, List.setIfInBounds_toArray, List.set_cons_zero, List.set_cons_succ])
      refine wpAnyH_take (i := 8) (oi := { dst := some 28, op := Op.indexAddr 23 (Operand.tmp 26) (Operand.tmp 27), type := 0, pos := "ref.go:35", after := #[{ on := 6, ground := Ground.data }, { on := 7, ground := Ground.data }], guard := none }) (v := ?_) rfl (by kernel_rfl) (by kernel_rfl) (by kernel_rfl) (fun _ _ _ h => h) (Or.inl ⟨by rfl, ?_⟩) hHeld ?_
      rotate_left 1
      · intro u hSu
        have c0 := hSu.out.e1
        have c0' := hSu.out.e2
        obtain ⟨d0, d1, d2, d3, d4⟩ := rda_at hSu.out.r1 HXY.out.1
        obtain ⟨e0, e1, e2, e3, e4⟩ := rda_at hSu.out.r2 HXY.out.2
        go_simp
        first | done | with_reducible rfl
      (try simp only [Act.put, List.setIfInBounds_toArray, List.set_cons_zero, List.set_cons_succ])
      refine wpAnyH_take (i := 9) (oi := { dst := some 29, op := Op.load 38 (Operand.tmp 28), type := 38, pos := "ref.go:35", after := #[{ on := 8, ground := Ground.data }], guard := none }) (v := ?_) rfl (by kernel_rfl) (by kernel_rfl) (by kernel_rfl) (fun _ _ _ h => h) (Or.inl ⟨by rfl, ?_⟩) hHeld ?_
      rotate_left 1
      · intro u hSu
        have c0 := hSu.out.e1
        have c0' := hSu.out.e2
        obtain ⟨d0, d1, d2, d3, d4⟩ := rda_at hSu.out.r1 HXY.out.1
        obtain ⟨e0, e1, e2, e3, e4⟩ := rda_at hSu.out.r2 HXY.out.2
        go_simp
        first | done | with_reducible rfl
      (try simp only [Act.put, List.setIfInBounds_toArray, List.set_cons_zero, List.set_cons_succ])
      refine wpAnyH_ready (rs := [10]) (by kernel_rfl) (by simp) ?_
      refine AllReadyH.cons (o := { dst := some 30, op := Op.call { callee := Callee.value (Operand.func 21), args := #[Operand.tmp 24, Operand.tmp 29], argTypes := #[38, 38] }, type := 4, pos := "ref.go:35", after := #[{ on := 4, ground := Ground.data }, { on := 9, ground := Ground.data }], guard := none }) rfl (fun Kz hK => ?_) AllReadyH.nil
      go_simp
      go_at_call 21
      have hcall := rsame_any x y _ _ _ (hHeld.out.r1.ok x HM.out.1) (hHeld.out.r2.ok y HM.out.2)
      rw [HZ.out] at hcall
      unfold Ad.val at hcall
      refine hcall.mono ?_
      rintro e w5 ⟨rfl, hg⟩
      clear hcall
      have hHn := Lib.hid (hHeld.out.keep hg)
      clear hg
      refine hK.out _ _ (hHn) (fun hH2 => ?_)
      clear hK Kz hHeld
      have hHeld := hH2
      clear hH2
      (try simp only [Act.put, List.setIfInBounds_toArray, List.set_cons_zero, List.set_cons_succ])
      refine wpAnyH_take (i := 11) (oi := { dst := some 31, op := Op.unOp UnOp.not 4 (Operand.tmp 30), type := 4, pos := "ref.go:35", after := #[{ on := 10, ground := Ground.data }], guard := none }) (v := ?_) rfl (by kernel_rfl) (by kernel_rfl) (by kernel_rfl) (fun _ _ _ h => h) (Or.inl ⟨by rfl, ?_⟩) hHeld ?_
      rotate_left 1
      · intro u hSu
        have c0 := hSu.out.e1
        have c0' := hSu.out.e2
        obtain ⟨d0, d1, d2, d3, d4⟩ := rda_at hSu.out.r1 HXY.out.1
        obtain ⟨e0, e1, e2, e3, e4⟩ := rda_at hSu.out.r2 HXY.out.2
        go_simp
        first | done | with_reducible rfl
      (try simp only [Act.put, List.setIfInBounds_toArray, List.set_cons_zero, List.set_cons_succ])
      refine wpAnyH_done (by kernel_rfl) ?_ _
      clear HD
      cases z with
      | false =>
        have hX : X = false := by rw [HST.out]; rfl
        subst hX
        go_wp2_with fail
        go_ret
        exact ⟨rfl, hHeld.out.gr⟩
      | true =>
        have HI2 : Hid (smD (s.drop (k + 1)) (t.drop (k + 1)) = X) := Lib.hid (by rw [HST.out]; rfl)
        go_wp2_with fail
        exact ⟨⟨k + 1, by omega, congrArg _ (by omega), HI2, hHeld⟩, by simp only [RowKit.intOf]; omega⟩
    · obtain rfl : k = s.length := by omega
      have hX : X = true := by rw [← HI.out]; exact smD_end HLEN.out
      subst hX
      go_wp2_with fail
      go_ret
      exact ⟨rfl, K.out.gr⟩
  · have hX : X = false := by rw [← HX.out]; exact smD_len s t hlen
    subst hX
    have hli : ¬ (s.length : Int) = (t.length : Int) := by omega
    have hlb : ((s.length : Int) == (t.length : Int)) = false := beq_false_of_ne hli
    go_enter Try.func17, Try.ntmps17
    go_upto_region 1 with fail
    generalize (w.alloc _).alloc _ = wa at *
    have c0 : wa.cell? ⟨w.heap.size, 0, none⟩ = some (.slice p1 s.length c1) := cell_of_row _ _ _ _ _ _ H0.out.b1
    have c0' : wa.cell? ⟨w.heap.size + 1, 0, none⟩ = some (.slice p2 t.length c2) := cell_of_row _ _ _ _ _ _ H0.out.b2
    go_wp2_with fail
    go_ret
    exact ⟨rfl, H0.out.gr⟩
end Go.Proofs.Ytnpkihioklpnmaa

/- The law DatabaseMerges: the mathematics, what memory holds. -/
namespace Go.Proofs.Ytnpkihioklpnmaa
open Go.RowKit Bs
set_option maxRecDepth 100000 in
theorem intsIn_grown {w w' : World} {v : Value} (h : IntsIn w v) (g : w.grownBy w' none) : IntsIn w' v := by
  obtain ⟨p, n, c, rfl, h1, h2, h3⟩ := h
  refine ⟨p, n, c, rfl, h1, h2, fun hn => ?_⟩
  obtain ⟨b, off, hp, hb, hx⟩ := h3 hn
  refine ⟨b, off, hp, Nat.lt_of_lt_of_le hb g.size, fun i hi => ?_⟩
  obtain ⟨x, hx1, hx2⟩ := hx i hi
  exact ⟨x, hx1, g.cell hx2 (by simp)⟩
/-- A database that lies in memory. -/
structure DM (w : World) (q : Nat → Prop) (l : List Ad) (p : Option Addr) (c : Nat) : Prop where
  r : RdA w q (.slice p l.length c) l
  n : p = none → c = 0
  c : l.length ≤ c ∧ c ≤ 9223372036854775807
  m : l.length ≤ 900
  s : ∀ A ∈ l, A.L.length ≤ 1000 ∧ A.C.length ≤ 1000
section
variable {w w' : World} {q q' : Nat → Prop} {l m a b : List Ad} {p : Option Addr} {c n : Nat}
set_option maxRecDepth 100000 in
theorem DM.grown {r : Option Nat} (h : DM w q l p c) (g : w.grownBy w' r) (hq : ∀ b, q b → some b ≠ r) : DM w' q l p c := ⟨h.r.grown g hq, h.n, h.c, h.m, h.s⟩
set_option maxRecDepth 100000 in
theorem DM.keep (h : DM w q l p c) (g : w.grownBy w' none) : DM w' q l p c := h.grown g (fun _ _ => by simp)
set_option maxRecDepth 100000 in
theorem DM.mono (h : DM w q l p c) (hq : ∀ b, q b → q' b) : DM w q' l p c := ⟨h.r.mono hq, h.n, h.c, h.m, h.s⟩
set_option maxRecDepth 100000 in
theorem dm_of (h1 : l.length ≤ 7) (h2 : DL l) (h3 : RdA w q (.slice p l.length c) l) (h4 : l.length ≤ c ∧ c ≤ 9223372036854775807) (h5 : p = none → c = 0) : DM w q l p c := ⟨h3, h5, h4, by omega, fun A hA => by have := h2 A hA; omega⟩
end
/-! Merge is commutative, associative, idempotent. -/
set_option maxRecDepth 100000 in
theorem OkD.fz {l : List Ad} (h : OkD l) : OkD (l.map fz) := okD_OkD (by rw [okD_fz]; exact h.ok)
section
variable {a b c a' b' : List Ad}
end
end Go.Proofs.Ytnpkihioklpnmaa

/- The law DatabasePuts: what memory holds. -/
namespace Go.Proofs.Ytnpkihioklpnmaa
open Go.RowKit Bs
/-- The arguments, in their boxes. -/
structure PP (W : World) (rl : List Ad) (rp : Option Addr) (rc : Nat) (A : Ad) (w : World) : Prop where
  r : w.heap[W.heap.size]? = some (.cells #[.slice rp rl.length rc] 25 (0, 0))
  s : w.heap[W.heap.size + 1]? = some (.cells #[.int .i64 A.r, .int .i64 A.q, .bool A.cp, .slice A.pL A.L.length A.cL, .slice A.pC A.C.length A.cC] 38 (0, 0))
  d : RdA w (· < W.heap.size) (.slice rp rl.length rc) rl
  ok : AdOk w (· < W.heap.size) A
  g : W.grownBy w none
/-- The tape's database and an advert, in boxes. -/
structure PZ (W : World) (a n8 n9 : Nat) (l : List Ad) (p : Option Addr) (c : Nat) (X : Ad) (w : World) : Prop where
  b : w.heap[n8]? = some (.cells #[.slice p l.length c] 25 (0, 0))
  dm : DM w (fun b => b ≠ a ∧ b < n9) l p c
  x : w.heap[n9]? = some (.cells #[.int .i64 X.r, .int .i64 X.q, .bool X.cp, .slice X.pL X.L.length X.cL, .slice X.pC X.C.length X.cC] 38 (0, 0))
  ok : AdOk w (fun b => b ≠ a ∧ b < n9) X
  nl : AdNl X
  sz : X.L.length ≤ 1000 ∧ X.C.length ≤ 1000
  tp : Tp w a
  lo : W.heap.size + 2 ≤ a ∧ a < n8 ∧ n8 < n9
section
variable {W w w1 : World} {rl l : List Ad} {rp p : Option Addr} {rc c a n8 n9 : Nat} {A X B : Ad}
set_option maxRecDepth 100000 in
theorem PP.grown {r : Option Nat} (h : PP W rl rp rc A w) (g : w.grownBy w1 r) (hr : ∀ x, r = some x → W.heap.size + 2 ≤ x) : PP W rl rp rc A w1 := by
  have hne : ∀ x, x < W.heap.size + 2 → some x ≠ r := fun x hx e => by have := hr x e.symm; omega
  refine ⟨kept_row h.r g (hne _ (by omega)), kept_row h.s g (hne _ (by omega)), h.d.grown g (fun x hx => hne _ (by omega)), h.ok.grown g (fun x hx => hne _ (by omega)), ?_⟩
  cases hvb : r with
  | none => rw [hvb] at g; exact grown_trans h.g g
  | some x => rw [hvb] at g; exact grown_new h.g g (by have := hr x hvb; omega)
set_option maxRecDepth 100000 in
theorem PP.keep (h : PP W rl rp rc A w) (g : w.grownBy w1 none) : PP W rl rp rc A w1 := h.grown g (fun _ e => by cases e)
set_option maxRecDepth 100000 in
theorem PP.tape (h : PP W rl rp rc A w) (k : St a w w1) (ha : W.heap.size + 2 ≤ a) : PP W rl rp rc A w1 := h.grown k.1 (fun x e => by have := Option.some.inj e; omega)
set_option maxRecDepth 100000 in
theorem PZ.keep (h : PZ W a n8 n9 l p c X w) (g : w.grownBy w1 none) : PZ W a n8 n9 l p c X w1 := ⟨kept_row h.b g (by simp), h.dm.keep g, kept_row h.x g (by simp), h.ok.keep g, h.nl, h.sz, h.tp.keep g, h.lo⟩
set_option maxRecDepth 100000 in
theorem PZ.tape (h : PZ W a n8 n9 l p c X w) (k : St a w w1) : PZ W a n8 n9 l p c X w1 :=
  ⟨kept_row h.b k.1 (fun e => by have := Option.some.inj e; have := h.lo; omega), h.dm.grown k.1 (fun _ hb e => hb.1 (Option.some.inj e)), kept_row h.x k.1 (fun e => by have := Option.some.inj e; have := h.lo; omega), h.ok.grown k.1 (fun _ hb e => hb.1 (Option.some.inj e)), h.nl, h.sz, k.2, h.lo⟩
set_option maxRecDepth 100000 in
theorem PZ.cell (h : PZ W a n8 n9 l p c X w) : w.cell? ⟨n8, 0, none⟩ = some (.slice p l.length c) := cell_of_row _ _ _ _ _ _ h.b
set_option maxRecDepth 100000 in
/-- A store behind the tape leaves it a tape. -/
theorem tp_other {b : Nat} (h : Tp w a) (g : w.grownBy w1 (some b)) (hab : a < b) : Tp w1 a := by
  obtain ⟨v, n, i, T⟩ := h
  have hlt : a < w.heap.size := Tp.lt ⟨v, n, i, T⟩
  have hk : w1.heap[a]? = w.heap[a]? := g.block a hlt (fun e => by have := Option.some.inj e; omega)
  refine ⟨v, n, i, (World.cell?_of_block (a := ⟨a, 0, none⟩) hk).trans T.l, (World.cell?_of_block (a := ⟨a, 1, none⟩) hk).trans T.p, (World.frozen?_of_block (a := ⟨a, 1, none⟩) hk).trans T.fr, ?_, T.le, T.len⟩
  obtain ⟨p, c, hv, hc⟩ := T.ints
  refine ⟨p, c, hv, fun hn => ?_⟩
  obtain ⟨b1, off, hp, hb1, hx⟩ := hc hn
  refine ⟨b1, off, hp, hb1, fun i hi => ?_⟩
  obtain ⟨x, hx1, hcell⟩ := hx i hi
  exact ⟨x, hx1, g.cell hcell (fun e => by have : b1 = b := Option.some.inj e; omega)⟩
set_option maxRecDepth 100000 in
/-- An advert of the database comes into the box. -/
theorem PZ.set (h : PZ W a n8 n9 l p c X w) (hB : B ∈ l) :
    PZ W a n8 n9 l p c B (((((w.setCell ⟨n9, 0, none⟩ (.int .i64 B.r)).setCell ⟨n9, 1, none⟩ (.int .i64 B.q)).setCell ⟨n9, 2, none⟩ (.bool B.cp)).setCell ⟨n9, 3, none⟩ (.slice B.pL B.L.length B.cL)).setCell ⟨n9, 4, none⟩ (.slice B.pC B.C.length B.cC)) := by
  obtain ⟨t1, t2⟩ := store5 (.int .i64 B.r) (.int .i64 B.q) (.bool B.cp) (.slice B.pL B.L.length B.cL) (.slice B.pC B.C.length B.cC) h.x
  have hne : ∀ b, (b ≠ a ∧ b < n9) → some b ≠ some n9 := fun b hb e => by have := Option.some.inj e; omega
  exact ⟨kept_row h.b t2 (fun e => by have := Option.some.inj e; have := h.lo; omega), h.dm.grown t2 hne, t1, (h.dm.r.ok B hB).grown t2 hne, h.dm.r.nl B hB, h.dm.s B hB, tp_other h.tp t2 (by have := h.lo; omega), h.lo⟩
set_option maxRecDepth 100000 in
theorem PZ.at0 {k : Nat} {b off : Nat} (h : PZ W a n8 n9 l (some ⟨b, off, none⟩) c X w) (hB : l[k]? = some B) : w.cell? ⟨b, off + k * 5, none⟩ = some (.int .i64 B.r) ∧ w.cell? ⟨b, off + k * 5 + 1, none⟩ = some (.int .i64 B.q) ∧ w.cell? ⟨b, off + k * 5 + 2, none⟩ = some (.bool B.cp) ∧ w.cell? ⟨b, off + k * 5 + 3, none⟩ = some (.slice B.pL B.L.length B.cL) ∧ w.cell? ⟨b, off + k * 5 + 4, none⟩ = some (.slice B.pC B.C.length B.cC) := rda_at h.dm.r hB
end
end Go.Proofs.Ytnpkihioklpnmaa

/- The law DatabasePuts. -/
namespace Go.Proofs.Ytnpkihioklpnmaa
open Go.RowKit Bs
set_option maxRecDepth 100000 in
set_option maxHeartbeats 25600000 in
theorem puts_walk (v : Value) (rl : List Ad) (rp : Option Addr) (rc : Nat) (A : Ad) (w : World) (hv : IntsIn w v) (hR : RdA w (· < w.heap.size) (.slice rp rl.length rc) rl) (hnR : rp = none → rc = 0) (hcR : rl.length ≤ rc ∧ rc ≤ 9223372036854775807) (hA : AdOk w (· < w.heap.size) A) (hnA : AdNl A) :
    Calls Try.prog 4 #[v, .agg #[.slice rp rl.length rc], .agg #[.int .i64 A.r, .int .i64 A.q, .bool A.cp, .slice A.pL A.L.length A.cL, .slice A.pC A.C.length A.cC]] w fun e w' => e = .returned (.bool true) ∧ w.grownBy w' none := by
  obtain ⟨k1, k2, k3, k4⟩ := two_boxes w #[.slice rp rl.length rc] #[.int .i64 A.r, .int .i64 A.q, .bool A.cp, .slice A.pL A.L.length A.cL, .slice A.pC A.C.length A.cC] 25 38
  have H0 : Hid (PP w rl rp rc A _) := Lib.hid ⟨k1, k2, hR.keep k3, hA.keep k3, k3⟩
  have HVV := Lib.hid (And.intro (intsIn_grown hv k3) (Nat.le_of_eq k4.symm))
  have HST := Lib.hid (And.intro hnR (And.intro hcR hnA))
  have hlA : A.L.length ≤ 9223372036854775807 ∧ A.C.length ≤ 9223372036854775807 := ⟨Nat.le_trans hA.hl.1 hA.hl.2, Nat.le_trans hA.hc.1 hA.hc.2⟩
  clear k1 k2 k3 k4 hR hA hv hnR hcR hnA
  go_enter Try.func4, Try.ntmps4
  go_upto_region 1 with fail
  generalize (w.alloc _).alloc _ = w0 at *
  go_wp2_with fail
  refine (new_any v w0 HVV.out.1).mono ?_
  rintro e w1 ⟨rfl, hg1, hT1⟩
  have H1 := Lib.hid (And.intro (H0.out.keep hg1) (And.intro hT1 HVV.out.2))
  clear hg1 hT1 H0 HVV
  obtain ⟨a, ha⟩ : ∃ a, w0.heap.size = a := ⟨_, rfl⟩
  rw [ha] at H1 ⊢
  clear ha
  go_wp2_with fail
  refine (tdb_any a 6 (by unfold I64; omega) _ H1.out.2.1).mono ?_
  rintro e w2 ⟨l, p, c, rfl, h7, hdl, -, hrd, hc, hn, hs⟩
  have h2 := dm_of h7 hdl hrd hc hn
  obtain ⟨n1, n2⟩ := tone_box w2 #[.slice p l.length c] 25
  have hlt := H1.out.2.1.lt
  have H2 : Hid (PP w rl rp rc A _ ∧ Tp _ a ∧ w.heap.size + 2 ≤ a ∧ _ ∧ DM _ (fun b => b ≠ a ∧ b < w2.heap.size) l p c ∧ a < w2.heap.size) := Lib.hid ⟨(H1.out.1.tape hs H1.out.2.2).keep n2, hs.2.keep n2, H1.out.2.2, n1, (⟨h2.r.and.mono (fun b hb => ⟨by omega, hb.2⟩), h2.n, h2.c, h2.m, h2.s⟩ : DM w2 (fun b => b ≠ a ∧ b < w2.heap.size) l p c).keep n2, hs.2.lt⟩
  clear h7 hdl hrd hc hn hs h2 n1 n2 hlt H1
  go_upto_region 3 with fail
  generalize hw : w2.alloc _ = w3 at *
  generalize w2.heap.size = n8 at *
  clear hw w2
  go_wp2_with fail
  refine (range_any a 1 7 (by omega) (by omega) (by omega) (by omega) _ H2.out.2.1).mono ?_
  rintro e w4 ⟨R, rfl, hR, hs⟩
  have HR := Lib.hid hR
  have H3 : Hid (PP w rl rp rc A w4 ∧ Tp w4 a ∧ w.heap.size + 2 ≤ a ∧ w4.heap[n8]? = some (.cells #[.slice p l.length c] 25 (0, 0)) ∧ DM w4 (fun b => b ≠ a ∧ b < n8) l p c ∧ a < n8 ∧ n8 < w4.heap.size) := Lib.hid ⟨H2.out.1.tape hs H2.out.2.2.1, hs.2, H2.out.2.2.1, kept_row H2.out.2.2.2.1 hs.1 (fun e => by have := Option.some.inj e; have := H2.out.2.2.2.2.2; omega), H2.out.2.2.2.2.1.grown hs.1 (fun _ hb e => hb.1 (Option.some.inj e)), H2.out.2.2.2.2.2, Nat.lt_of_lt_of_le (World.lt_of_row' H2.out.2.2.2.1) hs.1.size⟩
  clear hR hs H2
  go_wp2_with fail
  refine (adv3_any a R 5 (by have := HR.out.1; have := HR.out.2.1 (by omega); unfold I64; omega) (by unfold I64; omega) _ H3.out.2.1).mono ?_
  rintro e w5 ⟨X0, rfl, hta, hok, hs, hnl⟩
  rw [show X0.val = .agg #[.int .i64 X0.r, .int .i64 X0.q, .bool X0.cp, .slice X0.pL X0.L.length X0.cL, .slice X0.pC X0.C.length X0.cC] from rfl]
  obtain ⟨n1, n2⟩ := tone_box w5 #[.int .i64 X0.r, .int .i64 X0.q, .bool X0.cp, .slice X0.pL X0.L.length X0.cL, .slice X0.pC X0.C.length X0.cC] 38
  have hlt := H3.out.2.1.lt
  have H4 : Hid (PP w rl rp rc A _ ∧ PZ w a n8 w5.heap.size l p c X0 _) := Lib.hid ⟨(H3.out.1.tape hs H3.out.2.2.1).keep n2, ⟨kept_row (kept_row H3.out.2.2.2.1 hs.1 (fun e => by have := Option.some.inj e; have := H3.out.2.2.2.2.2.1; omega)) n2 (by simp), ((H3.out.2.2.2.2.1.grown hs.1 (fun _ hb e => hb.1 (Option.some.inj e))).keep n2).mono (fun b hb => ⟨hb.1, by have := H3.out.2.2.2.2.2.2; have := hs.1.size; omega⟩), n1, (hok.and.keep n2).mono (fun b hb => ⟨by omega, hb.2⟩), hnl, by have := hta.ll; have := hta.cl; omega, hs.2.keep n2, H3.out.2.2.1, H3.out.2.2.2.2.2.1, by have := H3.out.2.2.2.2.2.2; have := hs.1.size; omega⟩⟩
  clear hta hok hs hnl n1 n2 hlt H3 HR
  go_upto_region 4 with fail
  generalize hw : w5.alloc _ = w6 at *
  generalize w5.heap.size = n9 at *
  clear hw w5
  have HLN : l.length ≤ 900 := H4.out.2.dm.m
  go_cut [29] from 22 to 29 (fun u wx => ∃ b : Bool, u = .bool b ∧ (b = true → 0 < l.length) ∧ Hid (PP w rl rp rc A wx ∧ PZ w a n8 n9 l p c X0 wx))
  case first =>
    have q8 := H4.out.2.cell
    by_cases hl0 : 0 < l.length
    · have hl0I : (0 : Int) < (l.length : Int) := by omega
      have hd0 : decide ((0 : Int) < (l.length : Int)) = true := decide_eq_true hl0I
      go_wp2_with fail
      refine (one_any a 4 (by unfold I64; omega) w6 H4.out.2.tp).mono ?_
      rintro e w7 ⟨b, rfl, hs⟩
      have H5 := Lib.hid (And.intro (H4.out.1.tape hs H4.out.2.lo.1) (H4.out.2.tape hs))
      clear hs H4 q8
      go_wp2_with fail
      go_meet
      exact ⟨b, rfl, fun _ => hl0, H5⟩
    · have hl0I : ¬ (0 : Int) < (l.length : Int) := by omega
      have hd0 : decide ((0 : Int) < (l.length : Int)) = false := decide_eq_false hl0I
      go_wp2_with fail
      go_meet
      exact ⟨false, rfl, (fun h => by cases h), H4⟩
  case rest =>
  obtain ⟨b, rfl, hb, H5⟩ := hcut
  clear H4
  go_upto_if 29 with fail
  go_cut [] from 30 to 38 (fun wx => ∃ X : Ad, Hid (PP w rl rp rc A wx ∧ PZ w a n8 n9 l p c X wx))
  case first =>
    cases b with
    | false =>
      go_wp2_with fail
      go_meet
      exact ⟨X0, H5⟩
    | true =>
      have hl0 := hb rfl
      go_upto_region 5 with fail
      have HD := Lib.hid (And.intro (H5.out.1.keep (grown_drew (grown_refl _ none))) (H5.out.2.keep (grown_drew (grown_refl _ none))))
      clear H5 hb
      refine region_until (S := fun w' => Hid (PP w rl rp rc A w' ∧ PZ w a n8 n9 l p c X0 w')) (fun j => j == 9) (by kernel_rfl) (HD) (fun hHeld => ?_)
      refine anyU_take (i := 0) (oi := { dst := some 30, op := Op.fieldAddr 25 (Operand.tmp 8) 0, type := 0, pos := "law.go:62", after := #[], guard := none }) (v := ?_) rfl (by kernel_rfl) (by kernel_rfl) (by kernel_rfl) (by kernel_rfl) (by kernel_rfl) (fun _ _ _ h => h) (Or.inl ⟨by rfl, ?_⟩) hHeld ?_
      rotate_left 1
      · intro u hSu
        have q8 := hSu.out.2.cell
        try obtain ⟨a0, a1, a2, a3, a4⟩ := hSu.out.2.at0 HB.out
        go_simp
        first | done | with_reducible rfl
      (try simp only [Act.put, List.setIfInBounds_toArray, List.set_cons_zero, List.set_cons_succ])
      refine anyU_take (i := 1) (oi := { dst := some 31, op := Op.load 23 (Operand.tmp 30), type := 23, pos := "law.go:62", after := #[{ on := 0, ground := Ground.data }], guard := none }) (v := ?_) rfl (by kernel_rfl) (by kernel_rfl) (by kernel_rfl) (by kernel_rfl) (by kernel_rfl) (fun _ _ _ h => h) (Or.inl ⟨by rfl, ?_⟩) hHeld ?_
      rotate_left 1
      · intro u hSu
        have q8 := hSu.out.2.cell
        try obtain ⟨a0, a1, a2, a3, a4⟩ := hSu.out.2.at0 HB.out
        go_simp
        first | done | with_reducible rfl
      (try simp only [Act.put, List.setIfInBounds_toArray, List.set_cons_zero, List.set_cons_succ])
      refine anyU_take (i := 2) (oi := { dst := some 32, op := Op.move (Operand.tmp 7), type := 26, pos := "law.go:62", after := #[], guard := none }) (v := ?_) rfl (by kernel_rfl) (by kernel_rfl) (by kernel_rfl) (by kernel_rfl) (by kernel_rfl) (fun _ _ _ h => h) (Or.inl ⟨by rfl, ?_⟩) hHeld ?_
      rotate_left 1
      · intro u hSu
        have q8 := hSu.out.2.cell
        try obtain ⟨a0, a1, a2, a3, a4⟩ := hSu.out.2.at0 HB.out
        go_simp
        first | done | with_reducible rfl
      (try simp only [Act.put, List.setIfInBounds_toArray, List.set_cons_zero, List.set_cons_succ])
      refine anyU_take (i := 3) (oi := { dst := some 33, op := Op.fieldAddr 25 (Operand.tmp 8) 0, type := 0, pos := "law.go:62", after := #[], guard := none }) (v := ?_) rfl (by kernel_rfl) (by kernel_rfl) (by kernel_rfl) (by kernel_rfl) (by kernel_rfl) (fun _ _ _ h => h) (Or.inl ⟨by rfl, ?_⟩) hHeld ?_
      rotate_left 1
      · intro u hSu
        have q8 := hSu.out.2.cell
        try obtain ⟨a0, a1, a2, a3, a4⟩ := hSu.out.2.at0 HB.out
        go_simp
        first | done | with_reducible rfl
      (try simp only [Act.put, List.setIfInBounds_toArray, List.set_cons_zero, List.set_cons_succ])
      refine anyU_take (i := 4) (oi := { dst := some 34, op := Op.load 23 (Operand.tmp 33), type := 23, pos := "law.go:62", after := #[{ on := 3, ground := Ground.data }], guard := none }) (v := ?_) rfl (by kernel_rfl) (by kernel_rfl) (by kernel_rfl) (by kernel_rfl) (by kernel_rfl) (fun _ _ _ h => h) (Or.inl ⟨by rfl, ?_⟩) hHeld ?_
      rotate_left 1
      · intro u hSu
        have q8 := hSu.out.2.cell
        try obtain ⟨a0, a1, a2, a3, a4⟩ := hSu.out.2.at0 HB.out
        go_simp
        first | done | with_reducible rfl
      (try simp only [Act.put, List.setIfInBounds_toArray, List.set_cons_zero, List.set_cons_succ])
      refine anyU_take (i := 5) (oi := { dst := some 35, op := Op.call { callee := Callee.builtin Builtin.len, args := #[Operand.tmp 34], argTypes := #[23] }, type := 3, pos := "law.go:62", after := #[{ on := 4, ground := Ground.data }], guard := none }) (v := ?_) rfl (by kernel_rfl) (by kernel_rfl) (by kernel_rfl) (by kernel_rfl) (by kernel_rfl) (fun _ _ _ h => h) (Or.inl ⟨by rfl, ?_⟩) hHeld ?_
      rotate_left 1
      · intro u hSu
        have q8 := hSu.out.2.cell
        try obtain ⟨a0, a1, a2, a3, a4⟩ := hSu.out.2.at0 HB.out
        go_simp
        first | done | with_reducible rfl
      (try simp only [Act.put, List.setIfInBounds_toArray, List.set_cons_zero, List.set_cons_succ])
      refine anyU_ready (rs := [6]) (by kernel_rfl) (by simp) ?_
      refine EachU.cons (o := { dst := some 36, op := Op.call { callee := Callee.value (Operand.func 25), args := #[Operand.tmp 32, Operand.tmp 35], argTypes := #[26, 3] }, type := 3, pos := "law.go:62", after := #[{ on := 2, ground := Ground.data }, { on := 5, ground := Ground.data }], guard := none }) rfl (fun Kz hK => ?_) EachU.nil
      go_simp
      go_at_call 25
      refine (next_any a (l.length : Int) (by unfold I64; omega) _ hHeld.out.2.tp).mono ?_
      rintro e w7 ⟨R, rfl, hR, hs⟩
      have h0R := hR.1
      have h1R := hR.2.1 (by omega)
      obtain ⟨k, rfl⟩ := Int.eq_ofNat_of_zero_le h0R
      have hkl : k < l.length := by omega
      obtain ⟨B, hB⟩ : ∃ B, l[k]? = some B := ⟨_, List.getElem?_eq_getElem hkl⟩
      have HB := Lib.hid hB
      have HDn := Lib.hid (And.intro (hHeld.out.1.tape hs hHeld.out.2.lo.1) (hHeld.out.2.tape hs))
      obtain ⟨-, g, off, rfl, -, -⟩ := rda_cells hHeld.out.2.dm.r (by omega)
      clear hR hs h0R h1R hB
      refine hK.out _ _ (fun _ => HDn) (fun hH2 => ?_)
      clear hK Kz hHeld
      have hHeld := hH2 rfl
      clear hH2
      (try simp only [Act.put, List.setIfInBounds_toArray, List.set_cons_zero, List.set_cons_succ])
      refine anyU_take (i := 7) (oi := { dst := some 37, op := Op.indexAddr 23 (Operand.tmp 31) (Operand.tmp 36), type := 0, pos := "law.go:62", after := #[{ on := 1, ground := Ground.data }, { on := 6, ground := Ground.data }], guard := none }) (v := ?_) rfl (by kernel_rfl) (by kernel_rfl) (by kernel_rfl) (by kernel_rfl) (by kernel_rfl) (fun _ _ _ h => h) (Or.inl ⟨by rfl, ?_⟩) hHeld ?_
      rotate_left 1
      · intro u hSu
        have q8 := hSu.out.2.cell
        try obtain ⟨a0, a1, a2, a3, a4⟩ := hSu.out.2.at0 HB.out
        go_simp
        first | done | with_reducible rfl
      (try simp only [Act.put, List.setIfInBounds_toArray, List.set_cons_zero, List.set_cons_succ])
      refine anyU_take (i := 8) (oi := { dst := some 38, op := Op.load 38 (Operand.tmp 37), type := 38, pos := "law.go:62", after := #[{ on := 7, ground := Ground.data }], guard := none }) (v := ?_) rfl (by kernel_rfl) (by kernel_rfl) (by kernel_rfl) (by kernel_rfl) (by kernel_rfl) (fun _ _ _ h => h) (Or.inl ⟨by rfl, ?_⟩) hHeld ?_
      rotate_left 1
      · intro u hSu
        have q8 := hSu.out.2.cell
        try obtain ⟨a0, a1, a2, a3, a4⟩ := hSu.out.2.at0 HB.out
        go_simp
        first | done | with_reducible rfl
      (try simp only [Act.put, List.setIfInBounds_toArray, List.set_cons_zero, List.set_cons_succ])
      refine anyU_ready (rs := [9]) (by kernel_rfl) (by simp) ?_
      refine EachU.cons (o := { dst := none, op := Op.store 38 (Operand.tmp 9) (Operand.tmp 38), type := 0, pos := "law.go:62", after := #[{ on := 8, ground := Ground.data }, { on := 6, ground := Ground.chain }, { on := 0, ground := Ground.phase }, { on := 1, ground := Ground.phase }, { on := 2, ground := Ground.phase }, { on := 3, ground := Ground.phase }, { on := 4, ground := Ground.phase }, { on := 5, ground := Ground.phase }, { on := 6, ground := Ground.phase }, { on := 7, ground := Ground.phase }, { on := 8, ground := Ground.phase }], guard := none }) rfl (fun Kz hK => ?_) EachU.nil
      obtain ⟨x0, x1, x2, x3, x4⟩ := row5 hHeld.out.2.x
      have f0 := frozen_of_row _ _ 0 _ _ hHeld.out.2.x
      have f1 := frozen_of_row _ _ 1 _ _ hHeld.out.2.x
      have f2 := frozen_of_row _ _ 2 _ _ hHeld.out.2.x
      have f3 := frozen_of_row _ _ 3 _ _ hHeld.out.2.x
      have f4 := frozen_of_row _ _ 4 _ _ hHeld.out.2.x
      have HE := Lib.hid (And.intro (hHeld.out.1.grown (store5 (.int .i64 B.r) (.int .i64 B.q) (.bool B.cp) (.slice B.pL B.L.length B.cL) (.slice B.pC B.C.length B.cC) hHeld.out.2.x).2 (fun x e => by have e2 : n9 = x := Option.some.inj e; have := hHeld.out.2.lo; omega)) (hHeld.out.2.set (List.mem_of_getElem? HB.out)))
      go_simp
      refine hK.out _ _ (fun h => by cases h) (fun _ => ?_)
      clear hK Kz
      (try simp only [Act.put, List.setIfInBounds_toArray, List.set_cons_zero, List.set_cons_succ])
      refine anyU_done (by kernel_rfl) ?_ _
      clear HD hHeld HDn
      go_wp2_with fail
      go_meet
      exact ⟨B, HE⟩
  case rest =>
  obtain ⟨X, H6⟩ := hcut
  clear H5 hb
  have HPP := Lib.hid H6.out.1
  have HPZ := Lib.hid (And.intro H6.out.2.b (And.intro (H6.out.2.dm.mono (q' := fun _ => True) (fun _ _ => trivial)) (And.intro H6.out.2.x (And.intro (H6.out.2.ok.mono (q' := fun _ => True) (fun _ _ => trivial)) (And.intro H6.out.2.nl H6.out.2.sz)))))
  clear H6
  have q8 := cell_of_row _ _ 0 _ _ _ HPZ.out.1
  obtain ⟨x0, x1, x2, x3, x4⟩ := row5 HPZ.out.2.2.1
  go_wp2_with fail
  refine (dput_any l X p c _ _ HPZ.out.2.1.r HPZ.out.2.1.n HPZ.out.2.1.c HPZ.out.2.1.m HPZ.out.2.1.s HPZ.out.2.2.2.1 HPZ.out.2.2.2.2.1 HPZ.out.2.2.2.2.2).mono ?_
  rintro e w7 ⟨m1, p1, c1, rfl, hf, hrd, hc, hn, hg⟩
  obtain ⟨pz, hpz⟩ : ∃ z, pD l X = z := ⟨_, rfl⟩
  rw [hpz]
  obtain ⟨n1, n2⟩ := tone_box w7 #[.slice p1 m1.length c1] 25
  have F1 := Lib.hid (And.intro hf (And.intro n1 (hrd.keep n2)))
  have HM1 : Hid (m1.length ≤ c1 ∧ c1 ≤ 9223372036854775807) := Lib.hid hc
  have P7 := Lib.hid ((HPP.out.keep hg).keep n2)
  have Z7 := Lib.hid (And.intro (kept_row (kept_row HPZ.out.1 hg (by simp)) n2 (by simp)) (And.intro ((HPZ.out.2.1.keep hg).keep n2) (And.intro (kept_row (kept_row HPZ.out.2.2.1 hg (by simp)) n2 (by simp)) (And.intro ((HPZ.out.2.2.2.1.keep hg).keep n2) (And.intro HPZ.out.2.2.2.2.1 (by have := P7.out.g.size; have := HPP.out.g.size; have := World.lt_of_row' HPP.out.s; have := hg.size; exact (by omega : w.heap.size + 2 ≤ w7.heap.size)))))))
  clear hf hrd hc hn hg n1 n2 HPP HPZ q8 x0 x1 x2 x3 x4
  go_upto_region 7 with fail
  generalize hw : w7.alloc _ = w8 at *
  generalize w7.heap.size = n10 at *
  clear hw w7
  have q8 := cell_of_row _ _ 0 _ _ _ Z7.out.1
  obtain ⟨x0, x1, x2, x3, x4⟩ := row5 Z7.out.2.2.1
  go_wp2_with fail
  refine (rputD_any l X p c (fun x => True ∧ x < w8.heap.size) w8 Z7.out.2.1.r.and Z7.out.2.1.n Z7.out.2.1.c Z7.out.2.1.m Z7.out.2.2.2.1.and Z7.out.2.2.2.2.1 (fun _ h => h.2)).mono ?_
  rintro e w9 ⟨m2, p2, c2, rfl, hf, hrd, hc, hn, hg⟩
  rw [hpz]
  have HSM : Hid (smD m1 m2 = true) := Lib.hid (smD_fz.2 (F1.out.1.trans hf.symm))
  obtain ⟨n1, n2⟩ := tone_box w9 #[.slice p2 m2.length c2] 25
  have F2 := Lib.hid (And.intro n1 ((hrd.keep n2).mono (q' := fun _ => True) (fun _ _ => trivial)))
  have HM2 : Hid (m2.length ≤ c2 ∧ c2 ≤ 9223372036854775807) := Lib.hid hc
  have F3 := Lib.hid (And.intro (kept_row (kept_row F1.out.2.1 hg (by simp)) n2 (by simp)) ((F1.out.2.2.keep hg).keep n2))
  have HN := Lib.hid (And.intro Z7.out.2.2.2.2.2 (And.intro (Nat.lt_of_lt_of_le (World.lt_of_row' F1.out.2.1) hg.size) (show w.heap.size + 2 ≤ w9.heap.size by have := Z7.out.2.2.2.2.2; have := World.lt_of_row' F1.out.2.1; have := hg.size; omega)))
  have P8 := Lib.hid ((P7.out.keep hg).keep n2)
  clear hf hrd hc hn hg n1 n2 hpz F1 Z7 P7 q8 x0 x1 x2 x3 x4
  go_upto_region 8 with fail
  generalize hw : w9.alloc _ = w10 at *
  generalize w9.heap.size = n12 at *
  clear hw w9 w8
  have q10 := cell_of_row _ _ 0 _ _ _ F3.out.1
  have q12 := cell_of_row _ _ 0 _ _ _ F2.out.1
  go_wp2_with fail
  refine (rsame8_any m1 m2 p1 p2 c1 c2 _ _ _ F3.out.2 F2.out.2 ⟨by have := HM1.out; omega, by have := HM2.out; omega⟩).mono ?_
  rintro e w11 ⟨rfl, hg⟩
  rw [HSM.out]
  have P9 := Lib.hid (P8.out.keep hg)
  have B10 := Lib.hid (kept_row F3.out.1 hg (by simp))
  have B12 := Lib.hid (kept_row F2.out.1 hg (by simp))
  have HN2 := Lib.hid (And.intro HN.out.1 (And.intro HN.out.2.1 HN.out.2.2))
  clear hg P8 F2 F3 HSM HM1 HM2 q10 q12 HN
  have hpe : (pz == pz) = true := by simp
  have q4 := cell_of_row _ _ 0 _ _ _ P9.out.r
  go_wp2_with fail
  refine (dbig_any rl rp rc _ w11 P9.out.d (by have := HST.out.2.1; omega)).mono ?_
  rintro e w12 ⟨rfl, hg⟩
  have P10 := Lib.hid (P9.out.keep hg)
  have C10 := Lib.hid (kept_row B10.out hg (by simp))
  have C12 := Lib.hid (kept_row B12.out hg (by simp))
  clear hg P9 B10 B12 q4
  obtain ⟨bg, hbg⟩ : ∃ z, bigD rl = z := ⟨_, rfl⟩
  rw [hbg]
  have HBG := Lib.hid hbg
  clear hbg
  have HAWK : Hid (∀ wz : World, Hid (w.grownBy wz none) → Calls Try.prog 22 #[] wz fun e w' => e = .returned (.bool true) ∧ w.grownBy w' none) := Lib.hid (fun wz hz => (dawake_any wz).mono (fun e w' h => ⟨h.1, grown_trans hz.out h.2⟩))
  cases bg with
  | true =>
    go_wp2_with fail
    refine (HAWK.out w12 (Lib.hid P10.out.g)).mono ?_
    rintro e w13 ⟨rfl, hg⟩
    have HG := Lib.hid hg
    clear hg P10 C10 C12
    go_wp2_with fail
    go_ret
    exact ⟨rfl, HG.out⟩
  | false =>
    have HSZ := Lib.hid (big_sm HBG.out)
    obtain ⟨s0, s1, s2, s3, s4⟩ := row5 P10.out.s
    by_cases hL : (60 : Int) < (A.L.length : Int)
    · have hd : decide ((60 : Int) < (A.L.length : Int)) = true := decide_eq_true hL
      go_wp2_with fail
      refine (HAWK.out w12 (Lib.hid P10.out.g)).mono ?_
      rintro e w13 ⟨rfl, hg⟩
      have HG := Lib.hid hg
      clear hg P10 C10 C12
      go_wp2_with fail
      go_ret
      exact ⟨rfl, HG.out⟩
    have hd : decide ((60 : Int) < (A.L.length : Int)) = false := decide_eq_false hL
    by_cases hC : (60 : Int) < (A.C.length : Int)
    · have hd2 : decide ((60 : Int) < (A.C.length : Int)) = true := decide_eq_true hC
      go_wp2_with fail
      refine (HAWK.out w12 (Lib.hid P10.out.g)).mono ?_
      rintro e w13 ⟨rfl, hg⟩
      have HG := Lib.hid hg
      clear hg P10 C10 C12
      go_wp2_with fail
      go_ret
      exact ⟨rfl, HG.out⟩
    have hd2 : decide ((60 : Int) < (A.C.length : Int)) = false := decide_eq_false hC
    have q4 := cell_of_row _ _ 0 _ _ _ P10.out.r
    have HSA : Hid (A.L.length ≤ 1000 ∧ A.C.length ≤ 1000) := Lib.hid (by omega)
    have HSR : Hid (∀ B ∈ rl, B.L.length ≤ 1000 ∧ B.C.length ≤ 1000) := Lib.hid (fun B hB => by have := HSZ.out.2 B hB; omega)
    go_wp2_with fail
    refine (dput_any rl A rp rc _ w12 P10.out.d HST.out.1 HST.out.2.1 (by have := HSZ.out.1; omega) HSR.out P10.out.ok HST.out.2.2 HSA.out).mono ?_
    rintro e w13 ⟨m3, p3, c3, rfl, hf, hrd, hc, hn, hg⟩
    obtain ⟨py, hpy⟩ : ∃ z, pD rl A = z := ⟨_, rfl⟩
    rw [hpy]
    have hb10 := kept_row C10.out hg (by simp)
    have gs := grown_setCell w13 ⟨n10, 0, none⟩ (.slice p3 m3.length c3)
    have D10 := Lib.hid (And.intro hf (And.intro (d1_set (.slice p3 m3.length c3) hb10) (hrd.grown gs (fun b hb e => by have e2 : b = n10 := Option.some.inj e; have := World.lt_of_row' C10.out; omega))))
    have HM3 : Hid (m3.length ≤ c3 ∧ c3 ≤ 9223372036854775807) := Lib.hid hc
    have P11 := Lib.hid ((P10.out.keep hg).grown gs (fun x e => by have e2 : n10 = x := Option.some.inj e; have := HN2.out.1; omega))
    have D12 := Lib.hid (And.intro (kept_row (kept_row C12.out hg (by simp)) gs (fun e => by have e2 : n12 = n10 := Option.some.inj e; have := HN2.out.2.1; omega)) (And.intro (World.lt_of_row' C12.out) hg.size))
    have u0 := cell_of_row _ _ 0 _ _ _ hb10
    have u1 := frozen_of_row _ _ 0 _ _ hb10
    clear hf hrd hc hn hg hb10 gs P10 C10 C12 q4 s0 s1 s2 s3 s4
    go_upto_region 13 with fail
    clear u0 u1
    generalize World.setCell w13 _ _ = w14 at *
    obtain ⟨s0, s1, s2, s3, s4⟩ := row5 P11.out.s
    have q4 := cell_of_row _ _ 0 _ _ _ P11.out.r
    go_wp2_with fail
    refine (rputD_any rl A rp rc (· < w.heap.size) w14 P11.out.d HST.out.1 HST.out.2.1 (by have := HSZ.out.1; omega) P11.out.ok HST.out.2.2 (fun b hb => Nat.lt_of_lt_of_le hb P11.out.g.size)).mono ?_
    rintro e w15 ⟨m4, p4, c4, rfl, hf, hrd, hc, hn, hg⟩
    rw [hpy]
    clear hpy
    have HSM : Hid (smD m3 m4 = true) := Lib.hid (smD_fz.2 (D10.out.1.trans hf.symm))
    have hb12 := kept_row D12.out.1 hg (by simp)
    have gs := grown_setCell w15 ⟨n12, 0, none⟩ (.slice p4 m4.length c4)
    have E12 := Lib.hid (And.intro (d1_set (.slice p4 m4.length c4) hb12) (hrd.grown gs (fun b hb e => by have e2 : b = n12 := Option.some.inj e; have := HN2.out.2.2; have := World.lt_of_row' D12.out.1; omega)))
    have HM4 : Hid (m4.length ≤ c4 ∧ c4 ≤ 9223372036854775807) := Lib.hid hc
    have P12 := Lib.hid ((P11.out.keep hg).grown gs (fun x e => by have e2 : n12 = x := Option.some.inj e; have := HN2.out.2.2; omega))
    have E10 := Lib.hid (And.intro (kept_row (kept_row D10.out.2.1 hg (by simp)) gs (fun e => by have e2 : n10 = n12 := Option.some.inj e; have := HN2.out.2.1; omega)) ((D10.out.2.2.keep hg).grown gs (fun b hb e => by have e2 : b = n12 := Option.some.inj e; have := D12.out.2.1; omega)))
    have u0 := cell_of_row _ _ 0 _ _ _ hb12
    have u1 := frozen_of_row _ _ 0 _ _ hb12
    clear hf hrd hc hn hg hb12 gs P11 D10 D12 q4 s0 s1 s2 s3 s4
    go_upto_region 14 with fail
    clear u0 u1
    generalize World.setCell w15 _ _ = w16 at *
    have q10 := cell_of_row _ _ 0 _ _ _ E10.out.1
    have q12 := cell_of_row _ _ 0 _ _ _ E12.out.1
    have hpf : (py == py) = true := by simp
    go_wp2_with fail
    refine (rsame8_any m3 m4 p3 p4 c3 c4 _ _ _ E10.out.2 E12.out.2 ⟨by have := HM3.out; omega, by have := HM4.out; omega⟩).mono ?_
    rintro e w17 ⟨rfl, hg⟩
    rw [HSM.out]
    have HG := Lib.hid (grown_trans P12.out.g hg)
    clear hg P12 E10 E12 q10 q12 HSM
    go_wp2_with fail
    refine (HAWK.out w17 HG).mono ?_
    rintro e w18 ⟨rfl, hg⟩
    have HG2 := Lib.hid hg
    clear hg
    go_wp2_with fail
    go_ret
    exact ⟨rfl, HG2.out⟩
end Go.Proofs.Ytnpkihioklpnmaa

/- An advert that comes in as an argument. -/
namespace Go.Proofs.Ytnpkihioklpnmaa
open Go.ChangeShapes Go.WideShapes Go.ChangeAt Go.RowKit Go.Joins Bs
set_option maxRecDepth 100000 in
theorem tlist3 {A : Type} {xs : List A} (h : xs.length = 3) : ∃ x0 x1 x2, xs = [x0, x1, x2] := by
  match xs, h with
  | [x0, x1, x2], _ => exact ⟨x0, x1, x2, rfl⟩
set_option maxRecDepth 100000 in
theorem tlistA5 {A : Type} {xs : List A} (h : xs.length = 5) : ∃ x0 x1 x2 x3 x4, xs = [x0, x1, x2, x3, x4] := by
  match xs, h with
  | [x0, x1, x2, x3, x4], _ => exact ⟨x0, x1, x2, x3, x4, rfl⟩
set_option maxRecDepth 100000 in
theorem kit_cellsre : Try.prog.cellsOf 73 = 3 := by kernel_rfl
set_option maxRecDepth 100000 in
theorem kit_cellscm : Try.prog.cellsOf 62 = 3 := by kernel_rfl
set_option maxRecDepth 100000 in
theorem kit_cellsBoolA : Try.prog.cellsOf 4 = 1 := by kernel_rfl
set_option maxRecDepth 100000 in
theorem kit_cellsres : Try.prog.cellsOf 35 = 1 := by kernel_rfl
set_option maxRecDepth 100000 in
theorem kit_cellscms : Try.prog.cellsOf 36 = 1 := by kernel_rfl
section
variable {H : Type} {enc : TypeId × Value → H} {W : World} {base : Nat} {v : Value} {d : DataW H} {ps : List MemPlace}
set_option maxRecDepth 100000 in
theorem re_trod {fuel : Nat} {cs : List Value} {y : DataW H × List MemPlace} (h : DataW.trod enc Try.prog W 0 (fun _ => true) true fuel 73 cs = some y) : ∃ l : T3, cs = t3C l := by
  have hs := Try.underlying73
  obtain ⟨xs, n, _, _, hl, hlen, hf⟩ := DataW.trod_struct hs h
  rw [kit_cellsre] at hl
  obtain ⟨c0, c1, c2, rfl⟩ := tlist3 hl
  obtain ⟨x0, x1, x2, rfl⟩ := tlist3 hlen
  have h0 : DataW.trod enc Try.prog W 0 (fun _ => true) true n 3 [c0] = some x0 := by simpa [Value.cells, kit_cellsInt] using hf 0 _ rfl
  have h1 : DataW.trod enc Try.prog W 0 (fun _ => true) true n 3 [c1] = some x1 := by simpa [Value.cells, kit_cellsInt] using hf 1 _ rfl
  have h2 : DataW.trod enc Try.prog W 0 (fun _ => true) true n 3 [c2] = some x2 := by simpa [Value.cells, kit_cellsInt] using hf 2 _ rfl
  obtain ⟨m0, e0, _, w0⟩ := DataW.trod_int Try.underlying3 h0
  obtain rfl : c0 = .int .i64 m0 := by simpa using e0
  obtain ⟨m1, e1, _, w1⟩ := DataW.trod_int Try.underlying3 h1
  obtain rfl : c1 = .int .i64 m1 := by simpa using e1
  obtain ⟨m2, e2, _, w2⟩ := DataW.trod_int Try.underlying3 h2
  obtain rfl : c2 = .int .i64 m2 := by simpa using e2
  exact ⟨⟨m0, m1, m2⟩, rfl⟩
set_option maxRecDepth 100000 in
theorem cm_trod {fuel : Nat} {cs : List Value} {y : DataW H × List MemPlace} (h : DataW.trod enc Try.prog W 0 (fun _ => true) true fuel 62 cs = some y) : ∃ l : T3, cs = t3C l := by
  have hs := Try.underlying62
  obtain ⟨xs, n, _, _, hl, hlen, hf⟩ := DataW.trod_struct hs h
  rw [kit_cellscm] at hl
  obtain ⟨c0, c1, c2, rfl⟩ := tlist3 hl
  obtain ⟨x0, x1, x2, rfl⟩ := tlist3 hlen
  have h0 : DataW.trod enc Try.prog W 0 (fun _ => true) true n 3 [c0] = some x0 := by simpa [Value.cells, kit_cellsInt] using hf 0 _ rfl
  have h1 : DataW.trod enc Try.prog W 0 (fun _ => true) true n 3 [c1] = some x1 := by simpa [Value.cells, kit_cellsInt] using hf 1 _ rfl
  have h2 : DataW.trod enc Try.prog W 0 (fun _ => true) true n 3 [c2] = some x2 := by simpa [Value.cells, kit_cellsInt] using hf 2 _ rfl
  obtain ⟨m0, e0, _, w0⟩ := DataW.trod_int Try.underlying3 h0
  obtain rfl : c0 = .int .i64 m0 := by simpa using e0
  obtain ⟨m1, e1, _, w1⟩ := DataW.trod_int Try.underlying3 h1
  obtain rfl : c1 = .int .i64 m1 := by simpa using e1
  obtain ⟨m2, e2, _, w2⟩ := DataW.trod_int Try.underlying3 h2
  obtain rfl : c2 = .int .i64 m2 := by simpa using e2
  exact ⟨⟨m0, m1, m2⟩, rfl⟩
end
end Go.Proofs.Ytnpkihioklpnmaa

/- A database that comes in as an argument. -/
namespace Go.Proofs.Ytnpkihioklpnmaa
open Go.ChangeShapes Go.WideShapes Go.ChangeAt Go.RowKit Go.Joins Bs
set_option maxRecDepth 100000 in
theorem kit_cellsad : Try.prog.cellsOf 38 = 5 := by kernel_rfl
set_option maxRecDepth 100000 in
theorem kit_cellsads : Try.prog.cellsOf 23 = 1 := by kernel_rfl
set_option maxRecDepth 100000 in
theorem tlist1 {A : Type} {xs : List A} (h : xs.length = 1) : ∃ x0, xs = [x0] := by
  match xs, h with
  | [x0], _ => exact ⟨x0, rfl⟩
section
variable {H : Type} {enc : TypeId × Value → H} {W : World} {base : Nat} {v : Value} {d : DataW H} {ps : List MemPlace}
set_option maxRecDepth 100000 in
/-- A slice of structs of k cells. -/
theorem rowsP_trod {α : Type} (f : α → List Value) (P : α → Prop) (k : Nat) (hk : 0 < k) (hf : ∀ x, (f x).length = k) (x0 : α) {E T : TypeId} (hT : Try.prog.underlying T = some (.slice E)) (hc : Try.prog.cellsOf E = k)
    (hE : ∀ {fuel : Nat} {cs : List Value} {y : DataW H × List MemPlace}, DataW.trod enc Try.prog W 0 (fun _ => true) true fuel E cs = some y → ∃ r : α, cs = f r ∧ P r)
    {fuel : Nat} {c0 : Value} {y : DataW H × List MemPlace} (h : DataW.trod enc Try.prog W 0 (fun _ => true) true fuel T [c0] = some y) :
    ∃ (l : List α) (p : Option Addr) (c : Nat), c0 = .slice p l.length c ∧ RdF W (· < W.heap.size) (.slice p l.length c) l.length (l.flatMap f) ∧ l.length ≤ c ∧ c ≤ 9223372036854775807 ∧ (p = none → c = 0) ∧ ∀ x ∈ l, P x := by
  rcases DataW.trod_slice hT h with ⟨hcs, _⟩ | ⟨a, len, cap, elems, rest, n, _, hcs, _, _, hl, hm, hlen, hel, _, _⟩
  · obtain rfl : c0 = .slice none 0 0 := by simpa using hcs
    exact ⟨[], none, 0, rfl, rdf_nil _ _ _ _, Nat.le_refl _, by omega, fun _ => rfl, fun x h => by cases h⟩
  · obtain rfl : c0 = .slice (some a) len cap := by simpa using hcs
    rw [hc] at hel
    have each : ∀ i, ∃ l : α, i < len → (∀ j, j < k → W.cell? ((a.add (i * k)).add j) = (f l)[j]?) ∧ P l := by
      intro i
      by_cases hi : i < len
      · have h1 := hel i hi
        rw [List.getElem?_eq_getElem (by omega)] at h1
        obtain ⟨cs, hc1, hc2⟩ := Option.bind_eq_some_iff.1 h1
        obtain ⟨l, rfl, hPl⟩ := hE hc2
        obtain ⟨_, _, hc3⟩ := World.cells?_some hc1
        exact ⟨l, fun _ => ⟨fun j hj => hc3 j hj, hPl⟩⟩
      · exact ⟨x0, fun h => absurd h hi⟩
    obtain ⟨g, hfn2⟩ := Classical.axiomOfChoice each
    have hfn : ∀ i, i < len → ∀ j, j < k → W.cell? ((a.add (i * k)).add j) = (f (g i))[j]? := fun i hi => (hfn2 i hi).1
    have hll : ((List.range len).map g).length = len := by simp
    refine ⟨(List.range len).map g, some a, cap, by rw [hll], ?_, by rw [hll]; exact hl, hm, (fun e => by cases e), fun x hx => by
      obtain ⟨i, hi, rfl⟩ := List.mem_map.1 hx
      exact (hfn2 i (List.mem_range.1 hi)).2⟩
    rw [hll]
    refine ⟨some a, cap, rfl, fun hne => ?_⟩
    have hpos : 0 < len := by
      rcases Nat.eq_zero_or_pos len with h0 | h0
      · subst h0
        exact absurd rfl hne
      · exact h0
    obtain ⟨b, off, spot⟩ := a
    have hget : ∀ i, i < len → ∀ j, j < k → ∃ u, (f (g i))[j]? = some u := fun i _ j hj => ⟨_, List.getElem?_eq_getElem (by rw [hf]; exact hj)⟩
    have hspot : spot = none := by
      obtain ⟨u, hu⟩ := hget 0 hpos 0 hk
      have := (hfn 0 hpos 0 hk).trans hu
      simpa [Addr.add] using World.cell?_spot this
    subst hspot
    have hcell : ∀ i j, i < len → j < k → W.cell? ⟨b, off + (i * k + j), none⟩ = (f (g i))[j]? := by
      intro i j hi hj
      have := hfn i hi j hj
      rw [Go.WideShapes.add_plain, Go.WideShapes.add_plain] at this
      rw [← this]
      congr 2
      omega
    refine ⟨b, off, rfl, ?_, fun j x hj => ?_⟩
    · obtain ⟨u, hu⟩ := hget 0 hpos 0 hk
      exact World.block_lt_of_cell? W ⟨b, off + (0 * k + 0), none⟩ ((hcell 0 0 hpos hk).trans hu)
    have hj2 : j < len * k := by
      have := (List.getElem?_eq_some_iff.1 hj).1
      rw [flat_len f k hf, hll] at this
      exact this
    have hm1 : j / k < len := (Nat.div_lt_iff_lt_mul hk).2 hj2
    have hm2 : j % k < k := Nat.mod_lt _ hk
    have hd : j = j / k * k + j % k := by rw [Nat.mul_comm]; exact (Nat.div_add_mod j k).symm
    have hat : ((List.range len).map g)[j / k]? = some (g (j / k)) := by
      rw [List.getElem?_map, List.getElem?_range hm1]; rfl
    rw [hd] at hj ⊢
    rw [flat_at f k hf _ _ _ _ hat hm2] at hj
    rw [hcell _ _ hm1 hm2]
    exact hj
set_option maxRecDepth 100000 in
theorem ad_trod {fuel : Nat} {cs : List Value} {y : DataW H × List MemPlace} (h : DataW.trod enc Try.prog W 0 (fun _ => true) true fuel 38 cs = some y) : ∃ A : Ad, cs = adL A ∧ AdOk W (· < W.heap.size) A ∧ AdNl A := by
  have hs := Try.underlying38
  obtain ⟨xs, n, _, _, hl, hlen, hf⟩ := DataW.trod_struct hs h
  rw [kit_cellsad] at hl
  obtain ⟨c0, c1, c2, c3, c4, rfl⟩ := tlistA5 hl
  obtain ⟨x0, x1, x2, x3, x4, rfl⟩ := tlistA5 hlen
  have h0 : DataW.trod enc Try.prog W 0 (fun _ => true) true n 3 [c0] = some x0 := by simpa [Value.cells, kit_cellsInt] using hf 0 _ rfl
  have h1 : DataW.trod enc Try.prog W 0 (fun _ => true) true n 3 [c1] = some x1 := by simpa [Value.cells, kit_cellsInt] using hf 1 _ rfl
  have h2 : DataW.trod enc Try.prog W 0 (fun _ => true) true n 4 [c2] = some x2 := by simpa [Value.cells, kit_cellsBoolA, kit_cellsInt] using hf 2 _ rfl
  have h3 : DataW.trod enc Try.prog W 0 (fun _ => true) true n 35 [c3] = some x3 := by simpa [Value.cells, kit_cellsres, kit_cellsBoolA, kit_cellsInt] using hf 3 _ rfl
  have h4 : DataW.trod enc Try.prog W 0 (fun _ => true) true n 36 [c4] = some x4 := by simpa [Value.cells, kit_cellsres, kit_cellscms, kit_cellsBoolA, kit_cellsInt] using hf 4 _ rfl
  obtain ⟨m0, e0, _, w0⟩ := DataW.trod_int Try.underlying3 h0
  obtain rfl : c0 = .int .i64 m0 := by simpa using e0
  obtain ⟨m1, e1, _, w1⟩ := DataW.trod_int Try.underlying3 h1
  obtain rfl : c1 = .int .i64 m1 := by simpa using e1
  obtain ⟨m2, e2, _⟩ := DataW.trod_bool Try.underlying4 h2
  obtain rfl : c2 = .bool m2 := by simpa using e2
  obtain ⟨L, pL, cL, rfl, hL, hl1, hl2, hn1, -⟩ := rowsP_trod t3C (fun _ => True) 3 (by decide) (fun _ => rfl) ⟨0, 0, 0⟩ Try.underlying35 kit_cellsre (fun h => by obtain ⟨r, hr⟩ := re_trod h; exact ⟨r, hr, trivial⟩) h3
  obtain ⟨C, pC, cC, rfl, hC, hr1, hr2, hn2, -⟩ := rowsP_trod t3C (fun _ => True) 3 (by decide) (fun _ => rfl) ⟨0, 0, 0⟩ Try.underlying36 kit_cellscm (fun h => by obtain ⟨r, hr⟩ := cm_trod h; exact ⟨r, hr, trivial⟩) h4
  exact ⟨⟨m0, m1, m2, L, C, pL, cL, pC, cC⟩, rfl, ⟨hL, hC, ⟨hl1, hl2⟩, ⟨hr1, hr2⟩⟩, ⟨hn1, hn2⟩⟩
set_option maxRecDepth 100000 in
theorem opn_database (hval : Value.okWide Try.prog W .any base 25 v) (h : DataW.Trod enc Try.prog W 0 (fun _ => true) true 25 v d ps) :
    ∃ (l : List Ad) (p : Option Addr) (c : Nat), v = .agg #[.slice p l.length c] ∧ RdA W (· < W.heap.size) (.slice p l.length c) l ∧ (p = none → c = 0) ∧ l.length ≤ c ∧ c ≤ 9223372036854775807 := by
  have hs := Try.underlying25
  obtain ⟨cs, rfl, hsz⟩ := okWide_struct hs hval
  obtain ⟨fuel, hf⟩ := h
  obtain ⟨xs, n, _, _, hl, hlen, hf⟩ := DataW.trod_struct hs hf
  have h5 : cs.toList.length = 1 := hsz.trans (by kernel_rfl)
  obtain ⟨c0, hct⟩ := tlist1 h5
  obtain ⟨x0, rfl⟩ := tlist1 hlen
  have h0 : DataW.trod enc Try.prog W 0 (fun _ => true) true n 23 [c0] = some x0 := by simpa [Value.cells, kit_cellsads, hct] using hf 0 _ rfl
  obtain ⟨l, p, c, rfl, hL, hl1, hl2, hn, hP⟩ := rowsP_trod adL (fun A => AdOk W (· < W.heap.size) A ∧ AdNl A) 5 (by decide) adL_len ⟨0, 0, false, [], [], none, 0, none, 0⟩ Try.underlying23 kit_cellsad ad_trod h0
  exact ⟨l, p, c, congrArg Value.agg (Array.ext' hct), ⟨hL, fun A hA => (hP A hA).1, fun A hA => (hP A hA).2⟩, hn, hl1, hl2⟩
end
end Go.Proofs.Ytnpkihioklpnmaa

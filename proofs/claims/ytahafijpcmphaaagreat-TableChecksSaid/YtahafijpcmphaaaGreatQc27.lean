/- Parts of the proof, packed: TaCkLaw. -/
import Derived.Test.YtahafijpcmphaaaGreatQc25
import Derived.Test.YtahafijpcmphaaaGreatQc26
import Derived.Test.YtahafijpcmphaaaGreatQc10
/- tables: the law of Check, Same and Row. -/
namespace Go.Proofs.YtahafijpcmphaaaGreat
set_option maxRecDepth 100000
open Go.RowKit Bs
set_option maxHeartbeats 12800000 in
theorem tchecksl_walk (v : Value) (rr rs rn : Int) (rL : List Rw) (rp : Option Addr) (rc : Nat) (id : Int) (w : World) (hv : IntsIn w v) (hR : RdW w (· < w.heap.size) rp rc rL) (hN : ∀ y ∈ rL, y.p = none → y.c = 0) (hm : rL.length ≤ 9223372036854775807) :
  Calls Tryz.prog 3 #[v, .agg #[.int .i64 rr, .int .i64 rs, .int .i64 rn, .slice rp rL.length rc], .int .i64 id] w fun e w' => e = .returned (.bool true) ∧ w.grownBy w' none := by
 obtain ⟨k1, k2⟩ := tone_box w #[.int .i64 rr, .int .i64 rs, .int .i64 rn, .slice rp rL.length rc] 25
 have HV := Lib.hid (ints_keepK hv k2)
 have HB := Lib.hid (And.intro k1 (And.intro k2 (hR.keep k2)))
 have HN := Lib.hid hN
 have HBT : Hid (bgT rL = false → CNt ⟨rr, rs, rn, rL, rp, rc⟩) := Lib.hid (fun h => ⟨HN.out, hm, fun y hy => Nat.le_trans ((bg_not h).2 y hy) (by decide)⟩)
 clear hv hR hN k1 k2
 go_enter Tryz.func3, Tryz.ntmps3
 go_upto_region 1 with fail
 generalize w.alloc _ = w0 at *
 go_wp2_with fail
 refine (new_any v w0 HV.out).mono ?_
 rintro e w1 ⟨rfl, hg1, hT1⟩
 have H1 : Hid (C0 w w0.heap.size ⟨rr, rs, rn, rL, rp, rc⟩ [] w1) := Lib.hid ⟨kept_row HB.out.1 hg1 (by simp), HB.out.2.2.keep hg1, fun x hx => (by cases hx), hT1, grown_trans HB.out.2.1 hg1, lt_rowB HB.out.1, hT1.lt⟩
 clear hg1 hT1 HV HB HN
 obtain ⟨a, ha⟩ : ∃ a, w0.heap.size = a := ⟨_, rfl⟩
 rw [ha] at H1 ⊢
 clear ha
 go_upto_region 2 with fail
 refine wp_region_held_drew (S := fun w' => Hid (C0 w a ⟨rr, rs, rn, rL, rp, rc⟩ [] w')) (by kernel_rfl) (Lib.hid (H1.out.keep (grown_drew (grown_refl _ none)))) (fun hHeld => ?_)
 refine wpAnyH_take (i := 0) (oi := { dst := some 19, op := Op.move (Operand.tmp 7), type := 26, pos := _, after := _, guard := none }) (v := ?_) rfl (by kernel_rfl) (by kernel_rfl) (by kernel_rfl) (fun _ _ _ h => h) (Or.inl ⟨by rfl, ?_⟩) hHeld ?_
 rotate_left 1
 ·intro u hSu
  go_simp
  first | done | with_reducible rfl
 (try simp only [Act.put, zA, zB, zC])
 refine wpAnyH_take (i := 2) (oi := { dst := some 21, op := Op.move (Operand.tmp 7), type := 26, pos := _, after := _, guard := none }) (v := ?_) rfl (by kernel_rfl) (by kernel_rfl) (by kernel_rfl) (fun _ _ _ h => h) (Or.inl ⟨by rfl, ?_⟩) hHeld ?_
 rotate_left 1
 ·intro u hSu
  go_simp
  first | done | with_reducible rfl
 (try simp only [Act.put, zA, zB, zC])
 refine wpAnyH_take (i := 4) (oi := { dst := some 23, op := Op.load 25 (Operand.tmp 4), type := 25, pos := _, after := _, guard := none }) (v := ?_) rfl (by kernel_rfl) (by kernel_rfl) (by kernel_rfl) (fun _ _ _ h => h) (Or.inl ⟨by rfl, ?_⟩) hHeld ?_
 rotate_left 1
 ·intro u hSu
  obtain ⟨z0u, z1u, z2u, z3u⟩ := row4T hSu.out.b0
  go_simp
  first | done | with_reducible rfl
 (try simp only [Act.put, zA, zB, zC])
 refine wpAnyH_ready (rs := [1]) (by kernel_rfl) (by simp) ?_
 refine AllReadyH.cons (o := { dst := some 20, op := Op.call { callee := Callee.value (Operand.func 11), args := #[Operand.tmp 19, Operand.const (Value.int IntKind.i64 2)], argTypes := #[26, 3] }, type := 25, pos := _, after := _, guard := none }) rfl (fun Kz hK => ?_) AllReadyH.nil
 go_simp
 go_at_call 11
 refine (ttab1_any a 2 (by omega) (by unfold I64; omega) _ hHeld.out.tp).mono ?_
 rintro e wx ⟨r1, s1, n1, L1, p1, c1, rfl, hRd, hn, hc, hy, -, hl, hnx, hs⟩
 have HT1 := Lib.hid (hHeld.out.add (x := ⟨r1, s1, n1, L1, p1, c1⟩) hs hRd)
 have HCN1 : Hid (CNt ⟨r1, s1, n1, L1, p1, c1⟩) := Lib.hid ⟨hy, by show L1.length ≤ _; omega, fun y hy => Nat.le_trans (hnx y hy) (by decide)⟩
 have HN := Lib.hid (hHeld.out.tape hs)
 clear hRd hn hc hy hl hnx hs
 simp only
 refine hK.out _ _ (HN) (fun hH2 => ?_)
 clear hK Kz hHeld
 have hHeld := hH2
 clear hH2
 (try simp only [Act.put, zA, zB, zC])
 refine wpAnyH_ready (rs := [3]) (by kernel_rfl) (by simp) ?_
 refine AllReadyH.cons (o := { dst := some 22, op := Op.call { callee := Callee.value (Operand.func 11), args := #[Operand.tmp 21, Operand.const (Value.int IntKind.i64 0)], argTypes := #[26, 3] }, type := 25, pos := _, after := _, guard := none }) rfl (fun Kz hK => ?_) AllReadyH.nil
 go_simp
 go_at_call 11
 refine (ttab0_any a 0 (Int.le_refl 0) (by unfold I64; omega) _ hHeld.out.tp).mono ?_
 rintro e wb ⟨r2, s2, n2, L2, p2, c2, rfl, hO, hck, hs⟩
 have HT2 := Lib.hid (HT1.out.add (x := ⟨r2, s2, n2, L2, p2, c2⟩) hs (own_rdw2 hO))
 have HCN2 : Hid (CNt ⟨r2, s2, n2, L2, p2, c2⟩) := Lib.hid ⟨(own_rdw hO).2.2.2, by have := (own_rdw hO).2.2.1; show L2.length ≤ _; omega, fun y hy => by have := (row_asc hck hy).2.1; omega⟩
 have HN := Lib.hid (hHeld.out.tape hs)
 clear hO hck hs HT1
 simp only
 refine hK.out _ _ (HN) (fun hH2 => ?_)
 clear hK Kz hHeld
 have hHeld := hH2
 clear hH2
 (try simp only [Act.put, zA, zB, zC])
 refine wpAnyH_ready (rs := [5]) (by kernel_rfl) (by simp) ?_
 refine AllReadyH.cons (o := { dst := some 24, op := Op.buildSlice 29 3 #[(0, Operand.tmp 20), (1, Operand.tmp 22), (2, Operand.tmp 23)], type := 29, pos := _, after := _, guard := none }) rfl (fun Kz hK => ?_) AllReadyH.nil
 go_simp
 have HCL : Hid (CL w a wb.heap.size (wb.heap.size + 1) ⟨rr, rs, rn, rL, rp, rc⟩ [⟨r1, s1, n1, L1, p1, c1⟩, ⟨r2, s2, n2, L2, p2, c2⟩, ⟨rr, rs, rn, rL, rp, rc⟩] (wb.alloc (.cells #[.int .i64 r1, .int .i64 s1, .int .i64 n1, .slice p1 L1.length c1, .int .i64 r2, .int .i64 s2, .int .i64 n2, .slice p2 L2.length c2, .int .i64 rr, .int .i64 rs, .int .i64 rn, .slice rp rL.length rc] 25))) := Lib.hid HT2.out.cl
 refine hK.out _ _ (Lib.hid (hHeld.out.keep (World.grownBy_alloc _ _ none))) (fun hH2 => ?_)
 clear hK Kz hHeld
 have hHeld := hH2
 clear hH2
 (try simp only [Act.put, zA, zB, zC])
 refine wpAnyH_take (i := 6) (oi := { dst := some 8, op := Op.assign (Operand.tmp 24), type := 29, pos := _, after := _, guard := none }) (v := ?_) rfl (by kernel_rfl) (by kernel_rfl) (by kernel_rfl) (fun _ _ _ h => h) (Or.inl ⟨by rfl, ?_⟩) hHeld ?_
 rotate_left 1
 ·intro u hSu
  go_simp
  first | done | with_reducible rfl
 (try simp only [Act.put, zA, zB, zC])
 refine wpAnyH_done (by kernel_rfl) ?_ _
 clear hHeld HT2
 generalize World.alloc _ _ = w9 at *
 obtain ⟨D, hD⟩ : ∃ D, wb.heap.size = D := ⟨_, rfl⟩
 rw [hD] at HCL ⊢
 clear hD
 generalize D + 1 = Z at *
 clear H1
 go_wp2_with fail
 go_loopw [9] (fun v wr => ∃ k : Nat, k ≤ 3 ∧ v = .int .i64 (k : Int) ∧ Hid (CL w a D Z ⟨rr, rs, rn, rL, rp, rc⟩ [⟨r1, s1, n1, L1, p1, c1⟩, ⟨r2, s2, n2, L2, p2, c2⟩, ⟨rr, rs, rn, rL, rp, rc⟩] wr)) (fun v _ => 3 - (RowKit.intOf v).toNat)
 case atStart => exact ⟨0, by omega, rfl, HCL⟩
 case round =>
 clear HCL
 obtain ⟨k, hk, rfl, K⟩ := hrel
 obtain ⟨w5, hw5⟩ : ∃ w5, w5 = wr := ⟨_, rfl⟩
 rw [← hw5] at K ⊢
 clear hw5
 by_cases hlt : k < 3
 case neg =>
  obtain rfl : k = 3 := by omega
  go_wp2_with fail
  refine (awk11_any w5).mono ?_
  rintro e w6 ⟨rfl, hg⟩
  have G := Lib.hid (grown_trans K.out.gr hg)
  clear hg K
  simp only
  go_wp2_with fail
  go_ret
  exact ⟨rfl, G.out⟩
 have hlt' : (k : Int) < 3 := by omega
 have hk0 : (0 : Int) ≤ (k : Int) := by omega
 obtain ⟨z0, z1, z2, z3⟩ := row4T K.out.b0
 go_wp2_with fail
 refine (big11_any rr rs rn rp rc rL _ w5 K.out.r0 hm).mono ?_
 rintro e w6 ⟨rfl, hg⟩
 have K6 := Lib.hid (K.out.keep hg)
 clear hg K z0 z1 z2 z3
 simp only
 obtain ⟨bg, hbg⟩ : ∃ bg, bgT rL = bg := ⟨_, rfl⟩
 have HBG := Lib.hid hbg
 rw [hbg]
 clear hbg
 cases bg
 case true =>
  go_wp2_with fail
  refine (awk11_any w6).mono ?_
  rintro e w7 ⟨rfl, hg⟩
  have G := Lib.hid (grown_trans K6.out.gr hg)
  clear hg K6
  simp only
  go_wp2_with fail
  go_ret
  exact ⟨rfl, G.out⟩
 obtain ⟨x, hx⟩ : ∃ x, ([⟨r1, s1, n1, L1, p1, c1⟩, ⟨r2, s2, n2, L2, p2, c2⟩, ⟨rr, rs, rn, rL, rp, rc⟩] : List Tb)[k]? = some x := ⟨_, List.getElem?_eq_getElem (by show k < 3; omega)⟩
 have HX := Lib.hid (List.mem_of_getElem? hx)
 have HC : Hid (∀ u, CL w a D Z ⟨rr, rs, rn, rL, rp, rc⟩ [⟨r1, s1, n1, L1, p1, c1⟩, ⟨r2, s2, n2, L2, p2, c2⟩, ⟨rr, rs, rn, rL, rp, rc⟩] u → u.cell? ⟨D, k * 4, none⟩ = some (.int .i64 x.r) ∧ u.cell? ⟨D, k * 4 + 1, none⟩ = some (.int .i64 x.s) ∧ u.cell? ⟨D, k * 4 + 2, none⟩ = some (.int .i64 x.n) ∧ u.cell? ⟨D, k * 4 + 3, none⟩ = some (.slice x.p x.L.length x.c)) := Lib.hid (fun u h => tb3_cell h.bD hx)
 have HCN : Hid (∀ y ∈ ([⟨r1, s1, n1, L1, p1, c1⟩, ⟨r2, s2, n2, L2, p2, c2⟩, ⟨rr, rs, rn, rL, rp, rc⟩] : List Tb), CNt y) := Lib.hid (fun y hy => by
  rcases List.mem_cons.1 hy with rfl | hy
  ·exact HCN1.out
  rcases List.mem_cons.1 hy with rfl | hy
  ·exact HCN2.out
  rw [List.mem_singleton.1 hy]
  exact HBT.out HBG.out)
 have HXN := Lib.hid (HCN.out x HX.out)
 clear hx
 go_upto_region 6 with fail
 have hxl : x.L.length ≤ 9223372036854775807 := HXN.out.hl
 refine wp_region_held_drew (S := fun w' => Hid (CL w a D Z ⟨rr, rs, rn, rL, rp, rc⟩ [⟨r1, s1, n1, L1, p1, c1⟩, ⟨r2, s2, n2, L2, p2, c2⟩, ⟨rr, rs, rn, rL, rp, rc⟩] w')) (by kernel_rfl) (Lib.hid (K6.out.keep (grown_drew (grown_refl _ none)))) (fun hHeld => ?_)
 refine wpAnyH_take (i := 0) (oi := { dst := some 36, op := Op.move (Operand.tmp 8), type := 29, pos := _, after := _, guard := none }) (v := ?_) rfl (by kernel_rfl) (by kernel_rfl) (by kernel_rfl) (fun _ _ _ h => h) (Or.inl ⟨by rfl, ?_⟩) hHeld ?_
 rotate_left 1
 ·intro u hSu
  go_simp
  first | done | with_reducible rfl
 (try simp only [Act.put, zA, zB, zC])
 refine wpAnyH_take (i := 1) (oi := { dst := some 37, op := Op.move (Operand.tmp 9), type := 3, pos := _, after := _, guard := none }) (v := ?_) rfl (by kernel_rfl) (by kernel_rfl) (by kernel_rfl) (fun _ _ _ h => h) (Or.inl ⟨by rfl, ?_⟩) hHeld ?_
 rotate_left 1
 ·intro u hSu
  go_simp
  first | done | with_reducible rfl
 (try simp only [Act.put, zA, zB, zC])
 refine wpAnyH_take (i := 2) (oi := { dst := some 38, op := Op.indexAddr 29 (Operand.tmp 36) (Operand.tmp 37), type := 0, pos := _, after := _, guard := none }) (v := ?_) rfl (by kernel_rfl) (by kernel_rfl) (by kernel_rfl) (fun _ _ _ h => h) (Or.inl ⟨by rfl, ?_⟩) hHeld ?_
 rotate_left 1
 ·intro u hSu
  go_simp
  first | done | with_reducible rfl
 (try simp only [Act.put, zA, zB, zC])
 refine wpAnyH_take (i := 3) (oi := { dst := some 39, op := Op.load 25 (Operand.tmp 38), type := 25, pos := _, after := _, guard := none }) (v := ?_) rfl (by kernel_rfl) (by kernel_rfl) (by kernel_rfl) (fun _ _ _ h => h) (Or.inl ⟨by rfl, ?_⟩) hHeld ?_
 rotate_left 1
 ·intro u hSu
  obtain ⟨a0u, a1u, a2u, a3u⟩ := HC.out u hSu.out
  go_simp
  first | done | with_reducible rfl
 (try simp only [Act.put, zA, zB, zC])
 refine wpAnyH_take (i := 5) (oi := { dst := some 41, op := Op.move (Operand.tmp 8), type := 29, pos := _, after := _, guard := none }) (v := ?_) rfl (by kernel_rfl) (by kernel_rfl) (by kernel_rfl) (fun _ _ _ h => h) (Or.inl ⟨by rfl, ?_⟩) hHeld ?_
 rotate_left 1
 ·intro u hSu
  go_simp
  first | done | with_reducible rfl
 (try simp only [Act.put, zA, zB, zC])
 refine wpAnyH_take (i := 6) (oi := { dst := some 42, op := Op.move (Operand.tmp 9), type := 3, pos := _, after := _, guard := none }) (v := ?_) rfl (by kernel_rfl) (by kernel_rfl) (by kernel_rfl) (fun _ _ _ h => h) (Or.inl ⟨by rfl, ?_⟩) hHeld ?_
 rotate_left 1
 ·intro u hSu
  go_simp
  first | done | with_reducible rfl
 (try simp only [Act.put, zA, zB, zC])
 refine wpAnyH_take (i := 7) (oi := { dst := some 43, op := Op.indexAddr 29 (Operand.tmp 41) (Operand.tmp 42), type := 0, pos := _, after := _, guard := none }) (v := ?_) rfl (by kernel_rfl) (by kernel_rfl) (by kernel_rfl) (fun _ _ _ h => h) (Or.inl ⟨by rfl, ?_⟩) hHeld ?_
 rotate_left 1
 ·intro u hSu
  go_simp
  first | done | with_reducible rfl
 (try simp only [Act.put, zA, zB, zC])
 refine wpAnyH_take (i := 8) (oi := { dst := some 44, op := Op.load 25 (Operand.tmp 43), type := 25, pos := _, after := _, guard := none }) (v := ?_) rfl (by kernel_rfl) (by kernel_rfl) (by kernel_rfl) (fun _ _ _ h => h) (Or.inl ⟨by rfl, ?_⟩) hHeld ?_
 rotate_left 1
 ·intro u hSu
  obtain ⟨a0u, a1u, a2u, a3u⟩ := HC.out u hSu.out
  go_simp
  first | done | with_reducible rfl
 (try simp only [Act.put, zA, zB, zC])
 refine wpAnyH_ready (rs := [4]) (by kernel_rfl) (by simp) ?_
 refine AllReadyH.cons (o := { dst := some 40, op := Op.call { callee := Callee.value (Operand.func 13), args := #[Operand.tmp 39], argTypes := #[25] }, type := 31, pos := _, after := _, guard := none }) rfl (fun Kz hK => ?_) AllReadyH.nil
 go_simp
 go_at_call 13
 refine (tcheckT_any x.r x.s x.n x.p x.c x.L _ _ (hHeld.out.rd x HX.out) hxl).mono ?_
 rintro e wx ⟨rfl, hg⟩
 have HN := Lib.hid (hHeld.out.keep hg)
 clear hg
 simp only
 refine hK.out _ _ (HN) (fun hH2 => ?_)
 clear hK Kz hHeld
 have hHeld := hH2
 clear hH2
 (try simp only [Act.put, zA, zB, zC])
 refine wpAnyH_ready (rs := [9]) (by kernel_rfl) (by simp) ?_
 refine AllReadyH.cons (o := { dst := some 45, op := Op.call { callee := Callee.value (Operand.func 14), args := #[Operand.tmp 44], argTypes := #[25] }, type := 31, pos := _, after := _, guard := none }) rfl (fun Kz hK => ?_) AllReadyH.nil
 go_simp
 go_at_call 14
 refine (rck11_any x.r x.s x.n x.p x.c x.L _ ((hHeld.out.rd x HX.out).mono (fun b hb => by have := hb.2; have := hHeld.out.lo; omega)) hxl).mono ?_
 rintro e wx ⟨rfl, hg⟩
 have HN := Lib.hid (hHeld.out.keep hg)
 clear hg
 simp only
 refine hK.out _ _ (HN) (fun hH2 => ?_)
 clear hK Kz hHeld
 have hHeld := hH2
 clear hH2
 (try simp only [Act.put, zA, zB, zC])
 refine wpAnyH_take (i := 10) (oi := { dst := some 46, op := Op.binOp BinOp.neq 31 (Operand.tmp 40) (Operand.tmp 45) 31, type := 4, pos := _, after := _, guard := none }) (v := ?_) rfl (by kernel_rfl) (by kernel_rfl) (by kernel_rfl) (fun _ _ _ h => h) (Or.inl ⟨by rfl, ?_⟩) hHeld ?_
 rotate_left 1
 ·intro u hSu
  go_simp
  first | done | with_reducible rfl
 (try simp only [Act.put, zA, zB, zC])
 refine wpAnyH_done (by kernel_rfl) ?_ _
 have K7 := hHeld
 clear hHeld
 generalize (ckT x.r x.s x.n x.L) = ck at *
 have hck : (ck != ck) = false := by simp
 go_wp2_with fail
 clear hck
 clear K6
 go_loopw [10] (fun v wr => ∃ j : Nat, j ≤ 3 ∧ v = .int .i64 (j : Int) ∧ Hid (CL w a D Z ⟨rr, rs, rn, rL, rp, rc⟩ [⟨r1, s1, n1, L1, p1, c1⟩, ⟨r2, s2, n2, L2, p2, c2⟩, ⟨rr, rs, rn, rL, rp, rc⟩] wr)) (fun v _ => 3 - (RowKit.intOf v).toNat)
 case atStart => exact ⟨0, by omega, rfl, K7⟩
 case round =>
 clear K7
 obtain ⟨j, hj, rfl, K⟩ := hrel
 obtain ⟨w8, hw8⟩ : ∃ w8, w8 = wr := ⟨_, rfl⟩
 rw [← hw8] at K ⊢
 clear hw8
 by_cases hltj : j < 3
 case pos =>
  have hltj' : (j : Int) < 3 := by omega
  have hj0 : (0 : Int) ≤ (j : Int) := by omega
  obtain ⟨y, hy⟩ : ∃ y, ([⟨r1, s1, n1, L1, p1, c1⟩, ⟨r2, s2, n2, L2, p2, c2⟩, ⟨rr, rs, rn, rL, rp, rc⟩] : List Tb)[j]? = some y := ⟨_, List.getElem?_eq_getElem (by show j < 3; omega)⟩
  have HY := Lib.hid (List.mem_of_getElem? hy)
  have HCY : Hid (∀ u, CL w a D Z ⟨rr, rs, rn, rL, rp, rc⟩ [⟨r1, s1, n1, L1, p1, c1⟩, ⟨r2, s2, n2, L2, p2, c2⟩, ⟨rr, rs, rn, rL, rp, rc⟩] u → u.cell? ⟨D, j * 4, none⟩ = some (.int .i64 y.r) ∧ u.cell? ⟨D, j * 4 + 1, none⟩ = some (.int .i64 y.s) ∧ u.cell? ⟨D, j * 4 + 2, none⟩ = some (.int .i64 y.n) ∧ u.cell? ⟨D, j * 4 + 3, none⟩ = some (.slice y.p y.L.length y.c)) := Lib.hid (fun u h => tb3_cell h.bD hy)
  have HYN := Lib.hid (HCN.out y HY.out)
  clear hy
  go_upto_region 11 with fail
  refine wp_region_held_drew (S := fun w' => Hid (CL w a D Z ⟨rr, rs, rn, rL, rp, rc⟩ [⟨r1, s1, n1, L1, p1, c1⟩, ⟨r2, s2, n2, L2, p2, c2⟩, ⟨rr, rs, rn, rL, rp, rc⟩] w')) (by kernel_rfl) (Lib.hid (K.out.keep (grown_drew (grown_refl _ none)))) (fun hHeld => ?_)
  refine wpAnyH_take (i := 0) (oi := { dst := some 53, op := Op.move (Operand.tmp 8), type := 29, pos := _, after := _, guard := none }) (v := ?_) rfl (by kernel_rfl) (by kernel_rfl) (by kernel_rfl) (fun _ _ _ h => h) (Or.inl ⟨by rfl, ?_⟩) hHeld ?_
  rotate_left 1
  ·intro u hSu
   go_simp
   first | done | with_reducible rfl
  (try simp only [Act.put, zA, zB, zC])
  refine wpAnyH_take (i := 1) (oi := { dst := some 54, op := Op.move (Operand.tmp 9), type := 3, pos := _, after := _, guard := none }) (v := ?_) rfl (by kernel_rfl) (by kernel_rfl) (by kernel_rfl) (fun _ _ _ h => h) (Or.inl ⟨by rfl, ?_⟩) hHeld ?_
  rotate_left 1
  ·intro u hSu
   go_simp
   first | done | with_reducible rfl
  (try simp only [Act.put, zA, zB, zC])
  refine wpAnyH_take (i := 2) (oi := { dst := some 55, op := Op.indexAddr 29 (Operand.tmp 53) (Operand.tmp 54), type := 0, pos := _, after := _, guard := none }) (v := ?_) rfl (by kernel_rfl) (by kernel_rfl) (by kernel_rfl) (fun _ _ _ h => h) (Or.inl ⟨by rfl, ?_⟩) hHeld ?_
  rotate_left 1
  ·intro u hSu
   go_simp
   first | done | with_reducible rfl
  (try simp only [Act.put, zA, zB, zC])
  refine wpAnyH_take (i := 3) (oi := { dst := some 56, op := Op.load 25 (Operand.tmp 55), type := 25, pos := _, after := _, guard := none }) (v := ?_) rfl (by kernel_rfl) (by kernel_rfl) (by kernel_rfl) (fun _ _ _ h => h) (Or.inl ⟨by rfl, ?_⟩) hHeld ?_
  rotate_left 1
  ·intro u hSu
   obtain ⟨a0u, a1u, a2u, a3u⟩ := HC.out u hSu.out
   obtain ⟨e0u, e1u, e2u, e3u⟩ := HCY.out u hSu.out
   go_simp
   first | done | with_reducible rfl
  (try simp only [Act.put, zA, zB, zC])
  refine wpAnyH_take (i := 4) (oi := { dst := some 57, op := Op.move (Operand.tmp 8), type := 29, pos := _, after := _, guard := none }) (v := ?_) rfl (by kernel_rfl) (by kernel_rfl) (by kernel_rfl) (fun _ _ _ h => h) (Or.inl ⟨by rfl, ?_⟩) hHeld ?_
  rotate_left 1
  ·intro u hSu
   go_simp
   first | done | with_reducible rfl
  (try simp only [Act.put, zA, zB, zC])
  refine wpAnyH_take (i := 5) (oi := { dst := some 58, op := Op.move (Operand.tmp 10), type := 3, pos := _, after := _, guard := none }) (v := ?_) rfl (by kernel_rfl) (by kernel_rfl) (by kernel_rfl) (fun _ _ _ h => h) (Or.inl ⟨by rfl, ?_⟩) hHeld ?_
  rotate_left 1
  ·intro u hSu
   go_simp
   first | done | with_reducible rfl
  (try simp only [Act.put, zA, zB, zC])
  refine wpAnyH_take (i := 6) (oi := { dst := some 59, op := Op.indexAddr 29 (Operand.tmp 57) (Operand.tmp 58), type := 0, pos := _, after := _, guard := none }) (v := ?_) rfl (by kernel_rfl) (by kernel_rfl) (by kernel_rfl) (fun _ _ _ h => h) (Or.inl ⟨by rfl, ?_⟩) hHeld ?_
  rotate_left 1
  ·intro u hSu
   go_simp
   first | done | with_reducible rfl
  (try simp only [Act.put, zA, zB, zC])
  refine wpAnyH_take (i := 7) (oi := { dst := some 60, op := Op.load 25 (Operand.tmp 59), type := 25, pos := _, after := _, guard := none }) (v := ?_) rfl (by kernel_rfl) (by kernel_rfl) (by kernel_rfl) (fun _ _ _ h => h) (Or.inl ⟨by rfl, ?_⟩) hHeld ?_
  rotate_left 1
  ·intro u hSu
   obtain ⟨a0u, a1u, a2u, a3u⟩ := HC.out u hSu.out
   obtain ⟨e0u, e1u, e2u, e3u⟩ := HCY.out u hSu.out
   go_simp
   first | done | with_reducible rfl
  (try simp only [Act.put, zA, zB, zC])
  refine wpAnyH_take (i := 9) (oi := { dst := some 62, op := Op.move (Operand.tmp 8), type := 29, pos := _, after := _, guard := none }) (v := ?_) rfl (by kernel_rfl) (by kernel_rfl) (by kernel_rfl) (fun _ _ _ h => h) (Or.inl ⟨by rfl, ?_⟩) hHeld ?_
  rotate_left 1
  ·intro u hSu
   go_simp
   first | done | with_reducible rfl
  (try simp only [Act.put, zA, zB, zC])
  refine wpAnyH_take (i := 10) (oi := { dst := some 63, op := Op.move (Operand.tmp 9), type := 3, pos := _, after := _, guard := none }) (v := ?_) rfl (by kernel_rfl) (by kernel_rfl) (by kernel_rfl) (fun _ _ _ h => h) (Or.inl ⟨by rfl, ?_⟩) hHeld ?_
  rotate_left 1
  ·intro u hSu
   go_simp
   first | done | with_reducible rfl
  (try simp only [Act.put, zA, zB, zC])
  refine wpAnyH_take (i := 11) (oi := { dst := some 64, op := Op.indexAddr 29 (Operand.tmp 62) (Operand.tmp 63), type := 0, pos := _, after := _, guard := none }) (v := ?_) rfl (by kernel_rfl) (by kernel_rfl) (by kernel_rfl) (fun _ _ _ h => h) (Or.inl ⟨by rfl, ?_⟩) hHeld ?_
  rotate_left 1
  ·intro u hSu
   go_simp
   first | done | with_reducible rfl
  (try simp only [Act.put, zA, zB, zC])
  refine wpAnyH_take (i := 12) (oi := { dst := some 65, op := Op.load 25 (Operand.tmp 64), type := 25, pos := _, after := _, guard := none }) (v := ?_) rfl (by kernel_rfl) (by kernel_rfl) (by kernel_rfl) (fun _ _ _ h => h) (Or.inl ⟨by rfl, ?_⟩) hHeld ?_
  rotate_left 1
  ·intro u hSu
   obtain ⟨a0u, a1u, a2u, a3u⟩ := HC.out u hSu.out
   obtain ⟨e0u, e1u, e2u, e3u⟩ := HCY.out u hSu.out
   go_simp
   first | done | with_reducible rfl
  (try simp only [Act.put, zA, zB, zC])
  refine wpAnyH_take (i := 13) (oi := { dst := some 66, op := Op.move (Operand.tmp 8), type := 29, pos := _, after := _, guard := none }) (v := ?_) rfl (by kernel_rfl) (by kernel_rfl) (by kernel_rfl) (fun _ _ _ h => h) (Or.inl ⟨by rfl, ?_⟩) hHeld ?_
  rotate_left 1
  ·intro u hSu
   go_simp
   first | done | with_reducible rfl
  (try simp only [Act.put, zA, zB, zC])
  refine wpAnyH_take (i := 14) (oi := { dst := some 67, op := Op.move (Operand.tmp 10), type := 3, pos := _, after := _, guard := none }) (v := ?_) rfl (by kernel_rfl) (by kernel_rfl) (by kernel_rfl) (fun _ _ _ h => h) (Or.inl ⟨by rfl, ?_⟩) hHeld ?_
  rotate_left 1
  ·intro u hSu
   go_simp
   first | done | with_reducible rfl
  (try simp only [Act.put, zA, zB, zC])
  refine wpAnyH_take (i := 15) (oi := { dst := some 68, op := Op.indexAddr 29 (Operand.tmp 66) (Operand.tmp 67), type := 0, pos := _, after := _, guard := none }) (v := ?_) rfl (by kernel_rfl) (by kernel_rfl) (by kernel_rfl) (fun _ _ _ h => h) (Or.inl ⟨by rfl, ?_⟩) hHeld ?_
  rotate_left 1
  ·intro u hSu
   go_simp
   first | done | with_reducible rfl
  (try simp only [Act.put, zA, zB, zC])
  refine wpAnyH_take (i := 16) (oi := { dst := some 69, op := Op.load 25 (Operand.tmp 68), type := 25, pos := _, after := _, guard := none }) (v := ?_) rfl (by kernel_rfl) (by kernel_rfl) (by kernel_rfl) (fun _ _ _ h => h) (Or.inl ⟨by rfl, ?_⟩) hHeld ?_
  rotate_left 1
  ·intro u hSu
   obtain ⟨a0u, a1u, a2u, a3u⟩ := HC.out u hSu.out
   obtain ⟨e0u, e1u, e2u, e3u⟩ := HCY.out u hSu.out
   go_simp
   first | done | with_reducible rfl
  (try simp only [Act.put, zA, zB, zC])
  refine wpAnyH_ready (rs := [8]) (by kernel_rfl) (by simp) ?_
  refine AllReadyH.cons (o := { dst := some 61, op := Op.call { callee := Callee.value (Operand.func 15), args := #[Operand.tmp 56, Operand.tmp 60], argTypes := #[25, 25] }, type := 4, pos := _, after := _, guard := none }) rfl (fun Kz hK => ?_) AllReadyH.nil
  go_simp
  go_at_call 15
  refine (tSame_any x.r x.s x.n x.p x.c x.L y.r y.s y.n y.p y.c y.L _ _ _ (hHeld.out.rd x HX.out) (hHeld.out.rd y HY.out) HXN.out.hl HYN.out.hl).mono ?_
  rintro e wx ⟨rfl, hg⟩
  have HN := Lib.hid (hHeld.out.keep hg)
  clear hg
  obtain ⟨sm, hsm⟩ : ∃ sm, smT x.r x.s x.n x.L y.r y.s y.n y.L = sm := ⟨_, rfl⟩
  have HSM := Lib.hid hsm
  rw [hsm]
  clear hsm
  simp only
  refine hK.out _ _ (HN) (fun hH2 => ?_)
  clear hK Kz hHeld
  have hHeld := hH2
  clear hH2
  (try simp only [Act.put, zA, zB, zC])
  refine wpAnyH_ready (rs := [17]) (by kernel_rfl) (by simp) ?_
  refine AllReadyH.cons (o := { dst := some 70, op := Op.call { callee := Callee.value (Operand.func 16), args := #[Operand.tmp 65, Operand.tmp 69], argTypes := #[25, 25] }, type := 4, pos := _, after := _, guard := none }) rfl (fun Kz hK => ?_) AllReadyH.nil
  go_simp
  go_at_call 16
  refine (rSame_any x.r x.s x.n x.p x.c x.L y.r y.s y.n y.p y.c y.L _ _ _ (hHeld.out.rd x HX.out) (hHeld.out.rd y HY.out) HXN.out.hl HYN.out.hl).mono ?_
  rintro e wx ⟨rfl, hg⟩
  have HN := Lib.hid (hHeld.out.keep hg)
  clear hg
  have hsm := HSM.out
  rw [hsm]
  clear hsm
  simp only
  refine hK.out _ _ (HN) (fun hH2 => ?_)
  clear hK Kz hHeld
  have hHeld := hH2
  clear hH2
  (try simp only [Act.put, zA, zB, zC])
  refine wpAnyH_take (i := 18) (oi := { dst := some 71, op := Op.binOp BinOp.neq 4 (Operand.tmp 61) (Operand.tmp 70) 4, type := 4, pos := _, after := _, guard := none }) (v := .bool false) rfl (by kernel_rfl) (by kernel_rfl) (by kernel_rfl) (fun _ _ _ h => h) (Or.inl ⟨by rfl, ?_⟩) hHeld ?_
  ·intro u hSu
   obtain ⟨a0u, a1u, a2u, a3u⟩ := HC.out u hSu.out
   obtain ⟨e0u, e1u, e2u, e3u⟩ := HCY.out u hSu.out
   cases sm
   all_goals go_simp
   all_goals first | done | with_reducible rfl | rfl
  (try simp only [Act.put, zA, zB, zC])
  refine wpAnyH_done (by kernel_rfl) ?_ _
  have K9 := hHeld
  clear hHeld K
  go_wp2_with fail
  exact ⟨⟨j + 1, by omega, congrArg _ (by omega), K9⟩, by simp only [RowKit.intOf]; omega⟩
 obtain rfl : j = 3 := by omega
 go_wp2_with fail
 refine (range_any a 0 9 (by omega) (by omega) (by omega) (by omega) w8 K.out.tp).mono ?_
 rintro e w10 ⟨i2, rfl, -, hs⟩
 have K10 := Lib.hid ((K.out.tape hs).ci id i2)
 clear hs K
 go_upto_region 14 with fail
 generalize w10.alloc _ = w11 at *
 generalize w10.heap.size = G at *
 generalize G + 1 = Z2 at *
 go_wp2_with fail
 go_loopw [12] (fun v wr => ∃ j : Nat, j ≤ 2 ∧ v = .int .i64 (j : Int) ∧ Hid (CI w a D Z ⟨rr, rs, rn, rL, rp, rc⟩ [⟨r1, s1, n1, L1, p1, c1⟩, ⟨r2, s2, n2, L2, p2, c2⟩, ⟨rr, rs, rn, rL, rp, rc⟩] G Z2 id i2 wr)) (fun v _ => 2 - (RowKit.intOf v).toNat)
 case atStart => exact ⟨0, by omega, rfl, K10⟩
 case round =>
 clear K10
 obtain ⟨j, hj, rfl, K⟩ := hrel
 obtain ⟨w12, hw12⟩ : ∃ w12, w12 = wr := ⟨_, rfl⟩
 rw [← hw12] at K ⊢
 clear hw12
 by_cases hltj : j < 2
 case neg =>
  obtain rfl : j = 2 := by omega
  have K13 := Lib.hid K.out.cl
  clear K
  go_wp2_with fail
  exact ⟨⟨k + 1, by omega, congrArg _ (by omega), K13⟩, by simp only [RowKit.intOf]; omega⟩
 have hltj' : (j : Int) < 2 := by omega
 have hj0 : (0 : Int) ≤ (j : Int) := by omega
 obtain ⟨q, hq⟩ : ∃ q, (if j = 0 then id else i2) = q := ⟨_, rfl⟩
 have HQ : Hid (∀ u, CI w a D Z ⟨rr, rs, rn, rL, rp, rc⟩ [⟨r1, s1, n1, L1, p1, c1⟩, ⟨r2, s2, n2, L2, p2, c2⟩, ⟨rr, rs, rn, rL, rp, rc⟩] G Z2 id i2 u → u.cell? ⟨G, j, none⟩ = some (.int .i64 q)) := Lib.hid (fun u h => by rw [h.cell j hltj, hq])
 clear hq
 obtain ⟨yi, yn, yp, yc, yb, hyi, hyn, hyp, hyc, hyb⟩ : ∃ yi yn yp yc yb, ((fdW x.L q).getD zRw).id = yi ∧ ((fdW x.L q).getD zRw).nx = yn ∧ ((fdW x.L q).getD zRw).p = yp ∧ ((fdW x.L q).getD zRw).c = yc ∧ (fdW x.L q).isSome = yb := ⟨_, _, _, _, _, rfl, rfl, rfl, rfl, rfl⟩
 have HYY := Lib.hid (And.intro hyi (And.intro hyn (And.intro hyp (And.intro hyc hyb))))
 clear hyi hyn hyp hyc hyb
 have HRQ : Hid (∀ u, CI w a D Z ⟨rr, rs, rn, rL, rp, rc⟩ [⟨r1, s1, n1, L1, p1, c1⟩, ⟨r2, s2, n2, L2, p2, c2⟩, ⟨rr, rs, rn, rL, rp, rc⟩] G Z2 id i2 u → Rd u (· < Z2) (.slice yp yn.length yc) (yn.map tv) ∧ yn.length ≤ 9223372036854775807) := Lib.hid (fun u h => by
  have h1 := fdW_okC (id := q) (h.cl.rd x HX.out)
  have h2 := h.lo
  rw [← HYY.out.2.1, ← HYY.out.2.2.1, ← HYY.out.2.2.2.1]
  exact ⟨h1.rd.mono (fun b hb => by have := hb.2; omega), Nat.le_trans h1.hc.1 h1.hc.2⟩)
 go_upto_region 17 with fail
 go_cut [13, 14] from 80 to 91 (fun u v wx => ∃ (g Z3 : Nat) (p : Option Addr) (c : Nat), u = .pointer (some ⟨g, 0, none⟩) ∧ v = .bool yb ∧ Hid (CI w a D Z ⟨rr, rs, rn, rL, rp, rc⟩ [⟨r1, s1, n1, L1, p1, c1⟩, ⟨r2, s2, n2, L2, p2, c2⟩, ⟨rr, rs, rn, rL, rp, rc⟩] G Z2 id i2 wx ∧ RG g Z3 yi yn p c wx))
 case first =>
  refine region_until2 (S := fun w' => Hid (CI w a D Z ⟨rr, rs, rn, rL, rp, rc⟩ [⟨r1, s1, n1, L1, p1, c1⟩, ⟨r2, s2, n2, L2, p2, c2⟩, ⟨rr, rs, rn, rL, rp, rc⟩] G Z2 id i2 w')) (fun j => j == 13 || j == 14) (by kernel_rfl) (Lib.hid (K.out.keep (grown_drew (grown_refl _ none)))) (fun hHeld => ?_)
  refine anyV_take (i := 0) (oi := { dst := some 81, op := Op.move (Operand.tmp 8), type := 29, pos := _, after := _, guard := none }) (v := ?_) rfl (by kernel_rfl) (by kernel_rfl) (by kernel_rfl) (by kernel_rfl) (by kernel_rfl) (fun _ _ _ h => h) (Or.inl ⟨by rfl, ?_⟩) hHeld ?_
  rotate_left 1
  ·intro u hSu
   go_simp
   first | done | with_reducible rfl
  (try simp only [Act.put, zA, zB, zC])
  refine anyV_take (i := 1) (oi := { dst := some 82, op := Op.move (Operand.tmp 9), type := 3, pos := _, after := _, guard := none }) (v := ?_) rfl (by kernel_rfl) (by kernel_rfl) (by kernel_rfl) (by kernel_rfl) (by kernel_rfl) (fun _ _ _ h => h) (Or.inl ⟨by rfl, ?_⟩) hHeld ?_
  rotate_left 1
  ·intro u hSu
   go_simp
   first | done | with_reducible rfl
  (try simp only [Act.put, zA, zB, zC])
  refine anyV_take (i := 2) (oi := { dst := some 83, op := Op.indexAddr 29 (Operand.tmp 81) (Operand.tmp 82), type := 0, pos := _, after := _, guard := none }) (v := ?_) rfl (by kernel_rfl) (by kernel_rfl) (by kernel_rfl) (by kernel_rfl) (by kernel_rfl) (fun _ _ _ h => h) (Or.inl ⟨by rfl, ?_⟩) hHeld ?_
  rotate_left 1
  ·intro u hSu
   go_simp
   first | done | with_reducible rfl
  (try simp only [Act.put, zA, zB, zC])
  refine anyV_take (i := 3) (oi := { dst := some 84, op := Op.load 25 (Operand.tmp 83), type := 25, pos := _, after := _, guard := none }) (v := ?_) rfl (by kernel_rfl) (by kernel_rfl) (by kernel_rfl) (by kernel_rfl) (by kernel_rfl) (fun _ _ _ h => h) (Or.inl ⟨by rfl, ?_⟩) hHeld ?_
  rotate_left 1
  ·intro u hSu
   obtain ⟨a0u, a1u, a2u, a3u⟩ := HC.out u hSu.out.cl
   have q0u := HQ.out u hSu.out
   go_simp
   first | done | with_reducible rfl
  (try simp only [Act.put, zA, zB, zC])
  refine anyV_take (i := 4) (oi := { dst := some 85, op := Op.move (Operand.tmp 11), type := 22, pos := _, after := _, guard := none }) (v := ?_) rfl (by kernel_rfl) (by kernel_rfl) (by kernel_rfl) (by kernel_rfl) (by kernel_rfl) (fun _ _ _ h => h) (Or.inl ⟨by rfl, ?_⟩) hHeld ?_
  rotate_left 1
  ·intro u hSu
   go_simp
   first | done | with_reducible rfl
  (try simp only [Act.put, zA, zB, zC])
  refine anyV_take (i := 5) (oi := { dst := some 86, op := Op.move (Operand.tmp 12), type := 3, pos := _, after := _, guard := none }) (v := ?_) rfl (by kernel_rfl) (by kernel_rfl) (by kernel_rfl) (by kernel_rfl) (by kernel_rfl) (fun _ _ _ h => h) (Or.inl ⟨by rfl, ?_⟩) hHeld ?_
  rotate_left 1
  ·intro u hSu
   go_simp
   first | done | with_reducible rfl
  (try simp only [Act.put, zA, zB, zC])
  refine anyV_take (i := 6) (oi := { dst := some 87, op := Op.indexAddr 22 (Operand.tmp 85) (Operand.tmp 86), type := 0, pos := _, after := _, guard := none }) (v := ?_) rfl (by kernel_rfl) (by kernel_rfl) (by kernel_rfl) (by kernel_rfl) (by kernel_rfl) (fun _ _ _ h => h) (Or.inl ⟨by rfl, ?_⟩) hHeld ?_
  rotate_left 1
  ·intro u hSu
   go_simp
   first | done | with_reducible rfl
  (try simp only [Act.put, zA, zB, zC])
  refine anyV_take (i := 7) (oi := { dst := some 88, op := Op.load 3 (Operand.tmp 87), type := 3, pos := _, after := _, guard := none }) (v := ?_) rfl (by kernel_rfl) (by kernel_rfl) (by kernel_rfl) (by kernel_rfl) (by kernel_rfl) (fun _ _ _ h => h) (Or.inl ⟨by rfl, ?_⟩) hHeld ?_
  rotate_left 1
  ·intro u hSu
   obtain ⟨a0u, a1u, a2u, a3u⟩ := HC.out u hSu.out.cl
   have q0u := HQ.out u hSu.out
   go_simp
   first | done | with_reducible rfl
  (try simp only [Act.put, zA, zB, zC])
  refine anyV_ready (rs := [8, 12]) (by kernel_rfl) (by simp) ?_
  refine EachV.cons (o := { dst := some 89, op := Op.call { callee := Callee.value (Operand.func 18), args := #[Operand.tmp 84, Operand.tmp 88], argTypes := #[25, 3] }, type := 37, pos := _, after := _, guard := none }) rfl (fun Kz hK => ?_) (EachV.cons (o := { dst := some 13, op := Op.alloc 36, type := 0, pos := _, after := _, guard := none }) rfl (fun Kz hK => ?_) EachV.nil)
  ·go_simp
   go_at_call 18
   refine (trow_any x.r x.s x.n x.p x.c x.L q _ ((hHeld.out.cl.rd x HX.out).mono (fun b hb => by have := hb.2; have := hHeld.out.cl.lo; omega)) HXN.out.hl HXN.out.hy HXN.out.hb).mono ?_
   rintro e wb ⟨px, cx, rfl, hR, hg⟩
   have HRB0 := Lib.hid (And.intro (rd_and hR.rd) (Nat.le_trans hR.hc.1 hR.hc.2))
   simp only at HRB0
   rw [HYY.out.2.1] at HRB0
   rw [HYY.out.1, HYY.out.2.1, HYY.out.2.2.2.2]
   have HRB := HRB0
   have HG6 := Lib.hid hg
   have HN := Lib.hid (hHeld.out.keep hg)
   clear hg
   simp only
   refine hK.out _ _ (fun _ _ => HN) (fun hH2 => ?_)
   have hHeld2 := hH2 rfl hHeld
   clear hK Kz hHeld hH2
   have hHeld := hHeld2
   clear hHeld2
   (try simp only [Act.put, zA, zB, zC])
   refine anyV_take (i := 9) (oi := { dst := some 80, op := Op.move (Operand.tmp 89), type := 37, pos := _, after := _, guard := none }) (v := ?_) rfl (by kernel_rfl) (by kernel_rfl) (by kernel_rfl) (by kernel_rfl) (by kernel_rfl) (fun _ _ _ h => h) (Or.inl ⟨by rfl, ?_⟩) hHeld ?_
   rotate_left 1
   ·intro u hSu
    go_simp
    first | done | with_reducible rfl
   (try simp only [Act.put, zA, zB, zC])
   refine anyV_take (i := 10) (oi := { dst := some 90, op := Op.extract (Operand.tmp 80) 0, type := 36, pos := _, after := _, guard := none }) (v := ?_) rfl (by kernel_rfl) (by kernel_rfl) (by kernel_rfl) (by kernel_rfl) (by kernel_rfl) (fun _ _ _ h => h) (Or.inl ⟨by rfl, ?_⟩) hHeld ?_
   rotate_left 1
   ·intro u hSu
    go_simp
    first | done | with_reducible rfl
   (try simp only [Act.put, zA, zB, zC])
   refine anyV_ready (rs := [11, 12]) (by kernel_rfl) (by simp) ?_
   refine EachV.cons (o := { dst := some 91, op := Op.extract (Operand.tmp 80) 1, type := 4, pos := _, after := _, guard := none }) rfl (fun Kz hK => ?_) (EachV.cons (o := { dst := some 13, op := Op.alloc 36, type := 0, pos := _, after := _, guard := none }) rfl (fun Kz hK => ?_) EachV.nil)
   ·go_simp
    refine hK.out _ _ (fun _ h => h) (fun _ => ?_)
    clear hK Kz
    (try simp only [Act.put, zA, zB, zC])
    refine anyV_ready (rs := [12]) (by kernel_rfl) (by simp) ?_
    refine EachV.cons (o := { dst := some 13, op := Op.alloc 36, type := 0, pos := _, after := _, guard := none }) rfl (fun Kz hK => ?_) EachV.nil
    go_simp
    have HLO := Lib.hid hHeld.out.lo0
    have HS0 := Lib.hid hHeld.out
    refine hK.out _ _ (fun _ _ => Lib.hid (hHeld.out.keep (World.grownBy_alloc _ _ none))) (fun hH2 => ?_)
    have hHeld2 := hH2 rfl hHeld
    clear hK Kz hHeld hH2
    have hHeld := hHeld2
    clear hHeld2
    (try simp only [Act.put, zA, zB, zC])
    refine anyV_ready (rs := [13]) (by kernel_rfl) (by simp) ?_
    refine EachV.cons (o := { dst := none, op := Op.store 36 (Operand.tmp 13) (Operand.tmp 90), type := 0, pos := _, after := _, guard := none }) rfl (fun Kz hK => ?_) EachV.nil
    first | (have HNB := Lib.hid (nr_a (lo1 := Z2) (lo2 := 0) HRB.out.1 HRB.out.2 HLO.out)) | (have HNB := Lib.hid (nr_b (lo1 := Z2) (lo2 := 0) HG6.out HRB.out.1 HRB.out.2 HLO.out))
    obtain ⟨b0, b1⟩ := row_cells HNB.out.bx
    have f0 := frozen_of_row _ _ 0 _ _ HNB.out.bx
    have f1 := frozen_of_row _ _ 1 _ _ HNB.out.bx
    go_simp
    have HT := Lib.hid (storeR (.int .i64 yi) (.slice px yn.length cx) HNB.out.bx)
    have HZL := Lib.hid hHeld.out
    refine hK.out _ _ (fun h => by cases h) (fun _ => ?_)
    clear hK Kz
    (try simp only [Act.put, zA, zB, zC])
    refine anyV_ready (rs := [14]) (by kernel_rfl) (by simp) ?_
    refine EachV.cons (o := { dst := some 14, op := Op.assign (Operand.tmp 91), type := 4, pos := _, after := _, guard := none }) rfl (fun Kz hK => ?_) EachV.nil
    go_simp
    refine hK.out _ _ (fun h => by cases h) (fun _ => ?_)
    clear hK Kz
    (try simp only [Act.put, zA, zB, zC])
    refine anyV_done (by kernel_rfl) ?_ _
    clear b0 b1 f0 f1 hHeld
    go_wp2_with fail
    go_meet
    first
    | exact ⟨_, _, px, cx, rfl, rfl, Lib.hid (And.intro (HZL.out.put HT.out.2 HNB.out.lo.1) (HNB.out.rg HT.out.1 HT.out.2))⟩
    | exact ⟨_, _, px, cx, rfl, rfl, Lib.hid (And.intro (HS0.out.keep (World.grownBy_alloc _ _ none)) (nrg_a yi HRB.out.1 HRB.out.2))⟩
   ·go_simp
    have HLO := Lib.hid hHeld.out.lo0
    have HS0 := Lib.hid hHeld.out
    refine hK.out _ _ (fun _ _ => Lib.hid (hHeld.out.keep (World.grownBy_alloc _ _ none))) (fun hH2 => ?_)
    have hHeld2 := hH2 rfl hHeld
    clear hK Kz hHeld hH2
    have hHeld := hHeld2
    clear hHeld2
    (try simp only [Act.put, zA, zB, zC])
    refine anyV_ready (rs := [11, 13]) (by kernel_rfl) (by simp) ?_
    refine EachV.cons (o := { dst := some 91, op := Op.extract (Operand.tmp 80) 1, type := 4, pos := _, after := _, guard := none }) rfl (fun Kz hK => ?_) (EachV.cons (o := { dst := none, op := Op.store 36 (Operand.tmp 13) (Operand.tmp 90), type := 0, pos := _, after := _, guard := none }) rfl (fun Kz hK => ?_) EachV.nil)
    ·go_simp
     refine hK.out _ _ (fun _ h => h) (fun _ => ?_)
     clear hK Kz
     (try simp only [Act.put, zA, zB, zC])
     refine anyV_ready (rs := [13]) (by kernel_rfl) (by simp) ?_
     refine EachV.cons (o := { dst := none, op := Op.store 36 (Operand.tmp 13) (Operand.tmp 90), type := 0, pos := _, after := _, guard := none }) rfl (fun Kz hK => ?_) EachV.nil
     first | (have HNB := Lib.hid (nr_a (lo1 := Z2) (lo2 := 0) HRB.out.1 HRB.out.2 HLO.out)) | (have HNB := Lib.hid (nr_b (lo1 := Z2) (lo2 := 0) HG6.out HRB.out.1 HRB.out.2 HLO.out))
     obtain ⟨b0, b1⟩ := row_cells HNB.out.bx
     have f0 := frozen_of_row _ _ 0 _ _ HNB.out.bx
     have f1 := frozen_of_row _ _ 1 _ _ HNB.out.bx
     go_simp
     have HT := Lib.hid (storeR (.int .i64 yi) (.slice px yn.length cx) HNB.out.bx)
     have HZL := Lib.hid hHeld.out
     refine hK.out _ _ (fun h => by cases h) (fun _ => ?_)
     clear hK Kz
     (try simp only [Act.put, zA, zB, zC])
     refine anyV_ready (rs := [14]) (by kernel_rfl) (by simp) ?_
     refine EachV.cons (o := { dst := some 14, op := Op.assign (Operand.tmp 91), type := 4, pos := _, after := _, guard := none }) rfl (fun Kz hK => ?_) EachV.nil
     go_simp
     refine hK.out _ _ (fun h => by cases h) (fun _ => ?_)
     clear hK Kz
     (try simp only [Act.put, zA, zB, zC])
     refine anyV_done (by kernel_rfl) ?_ _
     clear b0 b1 f0 f1 hHeld
     go_wp2_with fail
     go_meet
     first
     | exact ⟨_, _, px, cx, rfl, rfl, Lib.hid (And.intro (HZL.out.put HT.out.2 HNB.out.lo.1) (HNB.out.rg HT.out.1 HT.out.2))⟩
     | exact ⟨_, _, px, cx, rfl, rfl, Lib.hid (And.intro (HS0.out.keep (World.grownBy_alloc _ _ none)) (nrg_a yi HRB.out.1 HRB.out.2))⟩
    ·first | (have HNB := Lib.hid (nr_a (lo1 := Z2) (lo2 := 0) HRB.out.1 HRB.out.2 HLO.out)) | (have HNB := Lib.hid (nr_b (lo1 := Z2) (lo2 := 0) HG6.out HRB.out.1 HRB.out.2 HLO.out))
     obtain ⟨b0, b1⟩ := row_cells HNB.out.bx
     have f0 := frozen_of_row _ _ 0 _ _ HNB.out.bx
     have f1 := frozen_of_row _ _ 1 _ _ HNB.out.bx
     go_simp
     have HT := Lib.hid (storeR (.int .i64 yi) (.slice px yn.length cx) HNB.out.bx)
     have HZL := Lib.hid hHeld.out
     refine hK.out _ _ (fun h => by cases h) (fun _ => ?_)
     clear hK Kz
     (try simp only [Act.put, zA, zB, zC])
     refine anyV_ready (rs := [11]) (by kernel_rfl) (by simp) ?_
     refine EachV.cons (o := { dst := some 91, op := Op.extract (Operand.tmp 80) 1, type := 4, pos := _, after := _, guard := none }) rfl (fun Kz hK => ?_) EachV.nil
     go_simp
     refine hK.out _ _ (fun _ h => h) (fun _ => ?_)
     clear hK Kz
     (try simp only [Act.put, zA, zB, zC])
     refine anyV_ready (rs := [14]) (by kernel_rfl) (by simp) ?_
     refine EachV.cons (o := { dst := some 14, op := Op.assign (Operand.tmp 91), type := 4, pos := _, after := _, guard := none }) rfl (fun Kz hK => ?_) EachV.nil
     go_simp
     refine hK.out _ _ (fun h => by cases h) (fun _ => ?_)
     clear hK Kz
     (try simp only [Act.put, zA, zB, zC])
     refine anyV_done (by kernel_rfl) ?_ _
     clear b0 b1 f0 f1 hHeld
     go_wp2_with fail
     go_meet
     first
     | exact ⟨_, _, px, cx, rfl, rfl, Lib.hid (And.intro (HZL.out.put HT.out.2 HNB.out.lo.1) (HNB.out.rg HT.out.1 HT.out.2))⟩
     | exact ⟨_, _, px, cx, rfl, rfl, Lib.hid (And.intro (HS0.out.keep (World.grownBy_alloc _ _ none)) (nrg_a yi HRB.out.1 HRB.out.2))⟩
  ·go_simp
   have HLO := Lib.hid hHeld.out.lo0
   have HS0 := Lib.hid hHeld.out
   refine hK.out _ _ (fun _ _ => Lib.hid (hHeld.out.keep (World.grownBy_alloc _ _ none))) (fun hH2 => ?_)
   have hHeld2 := hH2 rfl hHeld
   clear hK Kz hHeld hH2
   have hHeld := hHeld2
   clear hHeld2
   (try simp only [Act.put, zA, zB, zC])
   refine anyV_ready (rs := [8]) (by kernel_rfl) (by simp) ?_
   refine EachV.cons (o := { dst := some 89, op := Op.call { callee := Callee.value (Operand.func 18), args := #[Operand.tmp 84, Operand.tmp 88], argTypes := #[25, 3] }, type := 37, pos := _, after := _, guard := none }) rfl (fun Kz hK => ?_) EachV.nil
   go_simp
   go_at_call 18
   refine (trow_any x.r x.s x.n x.p x.c x.L q _ ((hHeld.out.cl.rd x HX.out).mono (fun b hb => by have := hb.2; have := hHeld.out.cl.lo; omega)) HXN.out.hl HXN.out.hy HXN.out.hb).mono ?_
   rintro e wb ⟨px, cx, rfl, hR, hg⟩
   have HRB0 := Lib.hid (And.intro (rd_and hR.rd) (Nat.le_trans hR.hc.1 hR.hc.2))
   simp only at HRB0
   rw [HYY.out.2.1] at HRB0
   rw [HYY.out.1, HYY.out.2.1, HYY.out.2.2.2.2]
   have HRB := HRB0
   have HG6 := Lib.hid hg
   have HN := Lib.hid (hHeld.out.keep hg)
   clear hg
   simp only
   refine hK.out _ _ (fun _ _ => HN) (fun hH2 => ?_)
   have hHeld2 := hH2 rfl hHeld
   clear hK Kz hHeld hH2
   have hHeld := hHeld2
   clear hHeld2
   (try simp only [Act.put, zA, zB, zC])
   refine anyV_take (i := 9) (oi := { dst := some 80, op := Op.move (Operand.tmp 89), type := 37, pos := _, after := _, guard := none }) (v := ?_) rfl (by kernel_rfl) (by kernel_rfl) (by kernel_rfl) (by kernel_rfl) (by kernel_rfl) (fun _ _ _ h => h) (Or.inl ⟨by rfl, ?_⟩) hHeld ?_
   rotate_left 1
   ·intro u hSu
    go_simp
    first | done | with_reducible rfl
   (try simp only [Act.put, zA, zB, zC])
   refine anyV_take (i := 10) (oi := { dst := some 90, op := Op.extract (Operand.tmp 80) 0, type := 36, pos := _, after := _, guard := none }) (v := ?_) rfl (by kernel_rfl) (by kernel_rfl) (by kernel_rfl) (by kernel_rfl) (by kernel_rfl) (fun _ _ _ h => h) (Or.inl ⟨by rfl, ?_⟩) hHeld ?_
   rotate_left 1
   ·intro u hSu
    go_simp
    first | done | with_reducible rfl
   (try simp only [Act.put, zA, zB, zC])
   refine anyV_ready (rs := [11, 13]) (by kernel_rfl) (by simp) ?_
   refine EachV.cons (o := { dst := some 91, op := Op.extract (Operand.tmp 80) 1, type := 4, pos := _, after := _, guard := none }) rfl (fun Kz hK => ?_) (EachV.cons (o := { dst := none, op := Op.store 36 (Operand.tmp 13) (Operand.tmp 90), type := 0, pos := _, after := _, guard := none }) rfl (fun Kz hK => ?_) EachV.nil)
   ·go_simp
    refine hK.out _ _ (fun _ h => h) (fun _ => ?_)
    clear hK Kz
    (try simp only [Act.put, zA, zB, zC])
    refine anyV_ready (rs := [13]) (by kernel_rfl) (by simp) ?_
    refine EachV.cons (o := { dst := none, op := Op.store 36 (Operand.tmp 13) (Operand.tmp 90), type := 0, pos := _, after := _, guard := none }) rfl (fun Kz hK => ?_) EachV.nil
    first | (have HNB := Lib.hid (nr_a (lo1 := Z2) (lo2 := 0) HRB.out.1 HRB.out.2 HLO.out)) | (have HNB := Lib.hid (nr_b (lo1 := Z2) (lo2 := 0) HG6.out HRB.out.1 HRB.out.2 HLO.out))
    obtain ⟨b0, b1⟩ := row_cells HNB.out.bx
    have f0 := frozen_of_row _ _ 0 _ _ HNB.out.bx
    have f1 := frozen_of_row _ _ 1 _ _ HNB.out.bx
    go_simp
    have HT := Lib.hid (storeR (.int .i64 yi) (.slice px yn.length cx) HNB.out.bx)
    have HZL := Lib.hid hHeld.out
    refine hK.out _ _ (fun h => by cases h) (fun _ => ?_)
    clear hK Kz
    (try simp only [Act.put, zA, zB, zC])
    refine anyV_ready (rs := [14]) (by kernel_rfl) (by simp) ?_
    refine EachV.cons (o := { dst := some 14, op := Op.assign (Operand.tmp 91), type := 4, pos := _, after := _, guard := none }) rfl (fun Kz hK => ?_) EachV.nil
    go_simp
    refine hK.out _ _ (fun h => by cases h) (fun _ => ?_)
    clear hK Kz
    (try simp only [Act.put, zA, zB, zC])
    refine anyV_done (by kernel_rfl) ?_ _
    clear b0 b1 f0 f1 hHeld
    go_wp2_with fail
    go_meet
    first
    | exact ⟨_, _, px, cx, rfl, rfl, Lib.hid (And.intro (HZL.out.put HT.out.2 HNB.out.lo.1) (HNB.out.rg HT.out.1 HT.out.2))⟩
    | exact ⟨_, _, px, cx, rfl, rfl, Lib.hid (And.intro (HS0.out.keep (World.grownBy_alloc _ _ none)) (nrg_a yi HRB.out.1 HRB.out.2))⟩
   ·first | (have HNB := Lib.hid (nr_a (lo1 := Z2) (lo2 := 0) HRB.out.1 HRB.out.2 HLO.out)) | (have HNB := Lib.hid (nr_b (lo1 := Z2) (lo2 := 0) HG6.out HRB.out.1 HRB.out.2 HLO.out))
    obtain ⟨b0, b1⟩ := row_cells HNB.out.bx
    have f0 := frozen_of_row _ _ 0 _ _ HNB.out.bx
    have f1 := frozen_of_row _ _ 1 _ _ HNB.out.bx
    go_simp
    have HT := Lib.hid (storeR (.int .i64 yi) (.slice px yn.length cx) HNB.out.bx)
    have HZL := Lib.hid hHeld.out
    refine hK.out _ _ (fun h => by cases h) (fun _ => ?_)
    clear hK Kz
    (try simp only [Act.put, zA, zB, zC])
    refine anyV_ready (rs := [11]) (by kernel_rfl) (by simp) ?_
    refine EachV.cons (o := { dst := some 91, op := Op.extract (Operand.tmp 80) 1, type := 4, pos := _, after := _, guard := none }) rfl (fun Kz hK => ?_) EachV.nil
    go_simp
    refine hK.out _ _ (fun _ h => h) (fun _ => ?_)
    clear hK Kz
    (try simp only [Act.put, zA, zB, zC])
    refine anyV_ready (rs := [14]) (by kernel_rfl) (by simp) ?_
    refine EachV.cons (o := { dst := some 14, op := Op.assign (Operand.tmp 91), type := 4, pos := _, after := _, guard := none }) rfl (fun Kz hK => ?_) EachV.nil
    go_simp
    refine hK.out _ _ (fun h => by cases h) (fun _ => ?_)
    clear hK Kz
    (try simp only [Act.put, zA, zB, zC])
    refine anyV_done (by kernel_rfl) ?_ _
    clear b0 b1 f0 f1 hHeld
    go_wp2_with fail
    go_meet
    first
    | exact ⟨_, _, px, cx, rfl, rfl, Lib.hid (And.intro (HZL.out.put HT.out.2 HNB.out.lo.1) (HNB.out.rg HT.out.1 HT.out.2))⟩
    | exact ⟨_, _, px, cx, rfl, rfl, Lib.hid (And.intro (HS0.out.keep (World.grownBy_alloc _ _ none)) (nrg_a yi HRB.out.1 HRB.out.2))⟩
 case rest =>
 clear K
 obtain ⟨g1, Z3, pq1, cq1, rfl, rfl, K⟩ := hcut
 obtain ⟨w13, hw13⟩ : ∃ w13, w13 = wc := ⟨_, rfl⟩
 rw [← hw13] at K ⊢
 clear hw13
 go_upto_region 18 with fail
 go_cut [15, 16] from 92 to 103 (fun u v wx => ∃ (g Z4 : Nat) (p : Option Addr) (c : Nat), u = .pointer (some ⟨g, 0, none⟩) ∧ v = .bool yb ∧ Hid (CI w a D Z ⟨rr, rs, rn, rL, rp, rc⟩ [⟨r1, s1, n1, L1, p1, c1⟩, ⟨r2, s2, n2, L2, p2, c2⟩, ⟨rr, rs, rn, rL, rp, rc⟩] G Z2 id i2 wx ∧ RG g1 Z3 yi yn pq1 cq1 wx ∧ RG g Z4 yi yn p c wx))
 case first =>
  refine region_until2 (S := fun w' => Hid (CI w a D Z ⟨rr, rs, rn, rL, rp, rc⟩ [⟨r1, s1, n1, L1, p1, c1⟩, ⟨r2, s2, n2, L2, p2, c2⟩, ⟨rr, rs, rn, rL, rp, rc⟩] G Z2 id i2 w' ∧ RG g1 Z3 yi yn pq1 cq1 w')) (fun j => j == 13 || j == 14) (by kernel_rfl) (Lib.hid (And.intro (K.out.1.keep (grown_drew (grown_refl _ none))) (K.out.2.keep (grown_drew (grown_refl _ none))))) (fun hHeld => ?_)
  refine anyV_take (i := 0) (oi := { dst := some 93, op := Op.move (Operand.tmp 8), type := 29, pos := _, after := _, guard := none }) (v := ?_) rfl (by kernel_rfl) (by kernel_rfl) (by kernel_rfl) (by kernel_rfl) (by kernel_rfl) (fun _ _ _ h => h) (Or.inl ⟨by rfl, ?_⟩) hHeld ?_
  rotate_left 1
  ·intro u hSu
   go_simp
   first | done | with_reducible rfl
  (try simp only [Act.put, zA, zB, zC])
  refine anyV_take (i := 1) (oi := { dst := some 94, op := Op.move (Operand.tmp 9), type := 3, pos := _, after := _, guard := none }) (v := ?_) rfl (by kernel_rfl) (by kernel_rfl) (by kernel_rfl) (by kernel_rfl) (by kernel_rfl) (fun _ _ _ h => h) (Or.inl ⟨by rfl, ?_⟩) hHeld ?_
  rotate_left 1
  ·intro u hSu
   go_simp
   first | done | with_reducible rfl
  (try simp only [Act.put, zA, zB, zC])
  refine anyV_take (i := 2) (oi := { dst := some 95, op := Op.indexAddr 29 (Operand.tmp 93) (Operand.tmp 94), type := 0, pos := _, after := _, guard := none }) (v := ?_) rfl (by kernel_rfl) (by kernel_rfl) (by kernel_rfl) (by kernel_rfl) (by kernel_rfl) (fun _ _ _ h => h) (Or.inl ⟨by rfl, ?_⟩) hHeld ?_
  rotate_left 1
  ·intro u hSu
   go_simp
   first | done | with_reducible rfl
  (try simp only [Act.put, zA, zB, zC])
  refine anyV_take (i := 3) (oi := { dst := some 96, op := Op.load 25 (Operand.tmp 95), type := 25, pos := _, after := _, guard := none }) (v := ?_) rfl (by kernel_rfl) (by kernel_rfl) (by kernel_rfl) (by kernel_rfl) (by kernel_rfl) (fun _ _ _ h => h) (Or.inl ⟨by rfl, ?_⟩) hHeld ?_
  rotate_left 1
  ·intro u hSu
   obtain ⟨a0u, a1u, a2u, a3u⟩ := HC.out u hSu.out.1.cl
   have q0u := HQ.out u hSu.out.1
   go_simp
   first | done | with_reducible rfl
  (try simp only [Act.put, zA, zB, zC])
  refine anyV_take (i := 4) (oi := { dst := some 97, op := Op.move (Operand.tmp 11), type := 22, pos := _, after := _, guard := none }) (v := ?_) rfl (by kernel_rfl) (by kernel_rfl) (by kernel_rfl) (by kernel_rfl) (by kernel_rfl) (fun _ _ _ h => h) (Or.inl ⟨by rfl, ?_⟩) hHeld ?_
  rotate_left 1
  ·intro u hSu
   go_simp
   first | done | with_reducible rfl
  (try simp only [Act.put, zA, zB, zC])
  refine anyV_take (i := 5) (oi := { dst := some 98, op := Op.move (Operand.tmp 12), type := 3, pos := _, after := _, guard := none }) (v := ?_) rfl (by kernel_rfl) (by kernel_rfl) (by kernel_rfl) (by kernel_rfl) (by kernel_rfl) (fun _ _ _ h => h) (Or.inl ⟨by rfl, ?_⟩) hHeld ?_
  rotate_left 1
  ·intro u hSu
   go_simp
   first | done | with_reducible rfl
  (try simp only [Act.put, zA, zB, zC])
  refine anyV_take (i := 6) (oi := { dst := some 99, op := Op.indexAddr 22 (Operand.tmp 97) (Operand.tmp 98), type := 0, pos := _, after := _, guard := none }) (v := ?_) rfl (by kernel_rfl) (by kernel_rfl) (by kernel_rfl) (by kernel_rfl) (by kernel_rfl) (fun _ _ _ h => h) (Or.inl ⟨by rfl, ?_⟩) hHeld ?_
  rotate_left 1
  ·intro u hSu
   go_simp
   first | done | with_reducible rfl
  (try simp only [Act.put, zA, zB, zC])
  refine anyV_take (i := 7) (oi := { dst := some 100, op := Op.load 3 (Operand.tmp 99), type := 3, pos := _, after := _, guard := none }) (v := ?_) rfl (by kernel_rfl) (by kernel_rfl) (by kernel_rfl) (by kernel_rfl) (by kernel_rfl) (fun _ _ _ h => h) (Or.inl ⟨by rfl, ?_⟩) hHeld ?_
  rotate_left 1
  ·intro u hSu
   obtain ⟨a0u, a1u, a2u, a3u⟩ := HC.out u hSu.out.1.cl
   have q0u := HQ.out u hSu.out.1
   go_simp
   first | done | with_reducible rfl
  (try simp only [Act.put, zA, zB, zC])
  refine anyV_ready (rs := [8, 12]) (by kernel_rfl) (by simp) ?_
  refine EachV.cons (o := { dst := some 101, op := Op.call { callee := Callee.value (Operand.func 19), args := #[Operand.tmp 96, Operand.tmp 100], argTypes := #[25, 3] }, type := 37, pos := _, after := _, guard := none }) rfl (fun Kz hK => ?_) (EachV.cons (o := { dst := some 15, op := Op.alloc 36, type := 0, pos := _, after := _, guard := none }) rfl (fun Kz hK => ?_) EachV.nil)
  ·go_simp
   go_at_call 19
   refine (rrow_any x.r x.s x.n x.p x.c x.L q _ ((hHeld.out.1.cl.rd x HX.out).mono (fun b hb => by have := hb.2; have := hHeld.out.1.cl.lo; omega)) HXN.out.hl).mono ?_
   rintro e wb ⟨rfl, hg⟩
   rw [HYY.out.1, HYY.out.2.1, HYY.out.2.2.1, HYY.out.2.2.2.1, HYY.out.2.2.2.2]
   have HRB := Lib.hid (HRQ.out wb (hHeld.out.1.keep hg))
   have HG6 := Lib.hid hg
   have HN := Lib.hid (And.intro (hHeld.out.1.keep hg) (hHeld.out.2.keep hg))
   clear hg
   simp only
   refine hK.out _ _ (fun _ _ => HN) (fun hH2 => ?_)
   have hHeld2 := hH2 rfl hHeld
   clear hK Kz hHeld hH2
   have hHeld := hHeld2
   clear hHeld2
   (try simp only [Act.put, zA, zB, zC])
   refine anyV_take (i := 9) (oi := { dst := some 92, op := Op.move (Operand.tmp 101), type := 37, pos := _, after := _, guard := none }) (v := ?_) rfl (by kernel_rfl) (by kernel_rfl) (by kernel_rfl) (by kernel_rfl) (by kernel_rfl) (fun _ _ _ h => h) (Or.inl ⟨by rfl, ?_⟩) hHeld ?_
   rotate_left 1
   ·intro u hSu
    go_simp
    first | done | with_reducible rfl
   (try simp only [Act.put, zA, zB, zC])
   refine anyV_take (i := 10) (oi := { dst := some 102, op := Op.extract (Operand.tmp 92) 0, type := 36, pos := _, after := _, guard := none }) (v := ?_) rfl (by kernel_rfl) (by kernel_rfl) (by kernel_rfl) (by kernel_rfl) (by kernel_rfl) (fun _ _ _ h => h) (Or.inl ⟨by rfl, ?_⟩) hHeld ?_
   rotate_left 1
   ·intro u hSu
    go_simp
    first | done | with_reducible rfl
   (try simp only [Act.put, zA, zB, zC])
   refine anyV_ready (rs := [11, 12]) (by kernel_rfl) (by simp) ?_
   refine EachV.cons (o := { dst := some 103, op := Op.extract (Operand.tmp 92) 1, type := 4, pos := _, after := _, guard := none }) rfl (fun Kz hK => ?_) (EachV.cons (o := { dst := some 15, op := Op.alloc 36, type := 0, pos := _, after := _, guard := none }) rfl (fun Kz hK => ?_) EachV.nil)
   ·go_simp
    refine hK.out _ _ (fun _ h => h) (fun _ => ?_)
    clear hK Kz
    (try simp only [Act.put, zA, zB, zC])
    refine anyV_ready (rs := [12]) (by kernel_rfl) (by simp) ?_
    refine EachV.cons (o := { dst := some 15, op := Op.alloc 36, type := 0, pos := _, after := _, guard := none }) rfl (fun Kz hK => ?_) EachV.nil
    go_simp
    have HLO := Lib.hid (And.intro hHeld.out.1.lo.2.2 hHeld.out.2.lo.2)
    have HS0 := Lib.hid hHeld.out
    refine hK.out _ _ (fun _ _ => Lib.hid (And.intro (hHeld.out.1.keep (World.grownBy_alloc _ _ none)) (hHeld.out.2.keep (World.grownBy_alloc _ _ none)))) (fun hH2 => ?_)
    have hHeld2 := hH2 rfl hHeld
    clear hK Kz hHeld hH2
    have hHeld := hHeld2
    clear hHeld2
    (try simp only [Act.put, zA, zB, zC])
    refine anyV_ready (rs := [13]) (by kernel_rfl) (by simp) ?_
    refine EachV.cons (o := { dst := none, op := Op.store 36 (Operand.tmp 15) (Operand.tmp 102), type := 0, pos := _, after := _, guard := none }) rfl (fun Kz hK => ?_) EachV.nil
    first | (have HNB := Lib.hid (nr_aZ (lo1 := Z2) (lo2 := Z3) HRB.out.1 HRB.out.2 HLO.out)) | (have HNB := Lib.hid (nr_bZ (lo1 := Z2) (lo2 := Z3) HG6.out HRB.out.1 HRB.out.2 HLO.out))
    obtain ⟨b0, b1⟩ := row_cells HNB.out.bx
    have f0 := frozen_of_row _ _ 0 _ _ HNB.out.bx
    have f1 := frozen_of_row _ _ 1 _ _ HNB.out.bx
    go_simp
    have HT := Lib.hid (storeR (.int .i64 yi) (.slice yp yn.length yc) HNB.out.bx)
    have HZL := Lib.hid hHeld.out
    refine hK.out _ _ (fun h => by cases h) (fun _ => ?_)
    clear hK Kz
    (try simp only [Act.put, zA, zB, zC])
    refine anyV_ready (rs := [14]) (by kernel_rfl) (by simp) ?_
    refine EachV.cons (o := { dst := some 16, op := Op.assign (Operand.tmp 103), type := 4, pos := _, after := _, guard := none }) rfl (fun Kz hK => ?_) EachV.nil
    go_simp
    refine hK.out _ _ (fun h => by cases h) (fun _ => ?_)
    clear hK Kz
    (try simp only [Act.put, zA, zB, zC])
    refine anyV_done (by kernel_rfl) ?_ _
    clear b0 b1 f0 f1 hHeld
    go_wp2_with fail
    go_meet
    first
    | exact ⟨_, _, yp, yc, rfl, rfl, Lib.hid (And.intro (HZL.out.1.put HT.out.2 HNB.out.lo.1) (And.intro (HZL.out.2.put HT.out.2 (fun b hb e => by have := Option.some.inj e; have := HNB.out.lo; omega)) (HNB.out.rg HT.out.1 HT.out.2)))⟩
    | exact ⟨_, _, yp, yc, rfl, rfl, Lib.hid (And.intro (HS0.out.1.keep (World.grownBy_alloc _ _ none)) (And.intro (HS0.out.2.keep (World.grownBy_alloc _ _ none)) (nrg_aZ yi HRB.out.1 HRB.out.2 HLO.out.1)))⟩
   ·go_simp
    have HLO := Lib.hid (And.intro hHeld.out.1.lo.2.2 hHeld.out.2.lo.2)
    have HS0 := Lib.hid hHeld.out
    refine hK.out _ _ (fun _ _ => Lib.hid (And.intro (hHeld.out.1.keep (World.grownBy_alloc _ _ none)) (hHeld.out.2.keep (World.grownBy_alloc _ _ none)))) (fun hH2 => ?_)
    have hHeld2 := hH2 rfl hHeld
    clear hK Kz hHeld hH2
    have hHeld := hHeld2
    clear hHeld2
    (try simp only [Act.put, zA, zB, zC])
    refine anyV_ready (rs := [11, 13]) (by kernel_rfl) (by simp) ?_
    refine EachV.cons (o := { dst := some 103, op := Op.extract (Operand.tmp 92) 1, type := 4, pos := _, after := _, guard := none }) rfl (fun Kz hK => ?_) (EachV.cons (o := { dst := none, op := Op.store 36 (Operand.tmp 15) (Operand.tmp 102), type := 0, pos := _, after := _, guard := none }) rfl (fun Kz hK => ?_) EachV.nil)
    ·go_simp
     refine hK.out _ _ (fun _ h => h) (fun _ => ?_)
     clear hK Kz
     (try simp only [Act.put, zA, zB, zC])
     refine anyV_ready (rs := [13]) (by kernel_rfl) (by simp) ?_
     refine EachV.cons (o := { dst := none, op := Op.store 36 (Operand.tmp 15) (Operand.tmp 102), type := 0, pos := _, after := _, guard := none }) rfl (fun Kz hK => ?_) EachV.nil
     first | (have HNB := Lib.hid (nr_aZ (lo1 := Z2) (lo2 := Z3) HRB.out.1 HRB.out.2 HLO.out)) | (have HNB := Lib.hid (nr_bZ (lo1 := Z2) (lo2 := Z3) HG6.out HRB.out.1 HRB.out.2 HLO.out))
     obtain ⟨b0, b1⟩ := row_cells HNB.out.bx
     have f0 := frozen_of_row _ _ 0 _ _ HNB.out.bx
     have f1 := frozen_of_row _ _ 1 _ _ HNB.out.bx
     go_simp
     have HT := Lib.hid (storeR (.int .i64 yi) (.slice yp yn.length yc) HNB.out.bx)
     have HZL := Lib.hid hHeld.out
     refine hK.out _ _ (fun h => by cases h) (fun _ => ?_)
     clear hK Kz
     (try simp only [Act.put, zA, zB, zC])
     refine anyV_ready (rs := [14]) (by kernel_rfl) (by simp) ?_
     refine EachV.cons (o := { dst := some 16, op := Op.assign (Operand.tmp 103), type := 4, pos := _, after := _, guard := none }) rfl (fun Kz hK => ?_) EachV.nil
     go_simp
     refine hK.out _ _ (fun h => by cases h) (fun _ => ?_)
     clear hK Kz
     (try simp only [Act.put, zA, zB, zC])
     refine anyV_done (by kernel_rfl) ?_ _
     clear b0 b1 f0 f1 hHeld
     go_wp2_with fail
     go_meet
     first
     | exact ⟨_, _, yp, yc, rfl, rfl, Lib.hid (And.intro (HZL.out.1.put HT.out.2 HNB.out.lo.1) (And.intro (HZL.out.2.put HT.out.2 (fun b hb e => by have := Option.some.inj e; have := HNB.out.lo; omega)) (HNB.out.rg HT.out.1 HT.out.2)))⟩
     | exact ⟨_, _, yp, yc, rfl, rfl, Lib.hid (And.intro (HS0.out.1.keep (World.grownBy_alloc _ _ none)) (And.intro (HS0.out.2.keep (World.grownBy_alloc _ _ none)) (nrg_aZ yi HRB.out.1 HRB.out.2 HLO.out.1)))⟩
    ·first | (have HNB := Lib.hid (nr_aZ (lo1 := Z2) (lo2 := Z3) HRB.out.1 HRB.out.2 HLO.out)) | (have HNB := Lib.hid (nr_bZ (lo1 := Z2) (lo2 := Z3) HG6.out HRB.out.1 HRB.out.2 HLO.out))
     obtain ⟨b0, b1⟩ := row_cells HNB.out.bx
     have f0 := frozen_of_row _ _ 0 _ _ HNB.out.bx
     have f1 := frozen_of_row _ _ 1 _ _ HNB.out.bx
     go_simp
     have HT := Lib.hid (storeR (.int .i64 yi) (.slice yp yn.length yc) HNB.out.bx)
     have HZL := Lib.hid hHeld.out
     refine hK.out _ _ (fun h => by cases h) (fun _ => ?_)
     clear hK Kz
     (try simp only [Act.put, zA, zB, zC])
     refine anyV_ready (rs := [11]) (by kernel_rfl) (by simp) ?_
     refine EachV.cons (o := { dst := some 103, op := Op.extract (Operand.tmp 92) 1, type := 4, pos := _, after := _, guard := none }) rfl (fun Kz hK => ?_) EachV.nil
     go_simp
     refine hK.out _ _ (fun _ h => h) (fun _ => ?_)
     clear hK Kz
     (try simp only [Act.put, zA, zB, zC])
     refine anyV_ready (rs := [14]) (by kernel_rfl) (by simp) ?_
     refine EachV.cons (o := { dst := some 16, op := Op.assign (Operand.tmp 103), type := 4, pos := _, after := _, guard := none }) rfl (fun Kz hK => ?_) EachV.nil
     go_simp
     refine hK.out _ _ (fun h => by cases h) (fun _ => ?_)
     clear hK Kz
     (try simp only [Act.put, zA, zB, zC])
     refine anyV_done (by kernel_rfl) ?_ _
     clear b0 b1 f0 f1 hHeld
     go_wp2_with fail
     go_meet
     first
     | exact ⟨_, _, yp, yc, rfl, rfl, Lib.hid (And.intro (HZL.out.1.put HT.out.2 HNB.out.lo.1) (And.intro (HZL.out.2.put HT.out.2 (fun b hb e => by have := Option.some.inj e; have := HNB.out.lo; omega)) (HNB.out.rg HT.out.1 HT.out.2)))⟩
     | exact ⟨_, _, yp, yc, rfl, rfl, Lib.hid (And.intro (HS0.out.1.keep (World.grownBy_alloc _ _ none)) (And.intro (HS0.out.2.keep (World.grownBy_alloc _ _ none)) (nrg_aZ yi HRB.out.1 HRB.out.2 HLO.out.1)))⟩
  ·go_simp
   have HLO := Lib.hid (And.intro hHeld.out.1.lo.2.2 hHeld.out.2.lo.2)
   have HS0 := Lib.hid hHeld.out
   refine hK.out _ _ (fun _ _ => Lib.hid (And.intro (hHeld.out.1.keep (World.grownBy_alloc _ _ none)) (hHeld.out.2.keep (World.grownBy_alloc _ _ none)))) (fun hH2 => ?_)
   have hHeld2 := hH2 rfl hHeld
   clear hK Kz hHeld hH2
   have hHeld := hHeld2
   clear hHeld2
   (try simp only [Act.put, zA, zB, zC])
   refine anyV_ready (rs := [8]) (by kernel_rfl) (by simp) ?_
   refine EachV.cons (o := { dst := some 101, op := Op.call { callee := Callee.value (Operand.func 19), args := #[Operand.tmp 96, Operand.tmp 100], argTypes := #[25, 3] }, type := 37, pos := _, after := _, guard := none }) rfl (fun Kz hK => ?_) EachV.nil
   go_simp
   go_at_call 19
   refine (rrow_any x.r x.s x.n x.p x.c x.L q _ ((hHeld.out.1.cl.rd x HX.out).mono (fun b hb => by have := hb.2; have := hHeld.out.1.cl.lo; omega)) HXN.out.hl).mono ?_
   rintro e wb ⟨rfl, hg⟩
   rw [HYY.out.1, HYY.out.2.1, HYY.out.2.2.1, HYY.out.2.2.2.1, HYY.out.2.2.2.2]
   have HRB := Lib.hid (HRQ.out wb (hHeld.out.1.keep hg))
   have HG6 := Lib.hid hg
   have HN := Lib.hid (And.intro (hHeld.out.1.keep hg) (hHeld.out.2.keep hg))
   clear hg
   simp only
   refine hK.out _ _ (fun _ _ => HN) (fun hH2 => ?_)
   have hHeld2 := hH2 rfl hHeld
   clear hK Kz hHeld hH2
   have hHeld := hHeld2
   clear hHeld2
   (try simp only [Act.put, zA, zB, zC])
   refine anyV_take (i := 9) (oi := { dst := some 92, op := Op.move (Operand.tmp 101), type := 37, pos := _, after := _, guard := none }) (v := ?_) rfl (by kernel_rfl) (by kernel_rfl) (by kernel_rfl) (by kernel_rfl) (by kernel_rfl) (fun _ _ _ h => h) (Or.inl ⟨by rfl, ?_⟩) hHeld ?_
   rotate_left 1
   ·intro u hSu
    go_simp
    first | done | with_reducible rfl
   (try simp only [Act.put, zA, zB, zC])
   refine anyV_take (i := 10) (oi := { dst := some 102, op := Op.extract (Operand.tmp 92) 0, type := 36, pos := _, after := _, guard := none }) (v := ?_) rfl (by kernel_rfl) (by kernel_rfl) (by kernel_rfl) (by kernel_rfl) (by kernel_rfl) (fun _ _ _ h => h) (Or.inl ⟨by rfl, ?_⟩) hHeld ?_
   rotate_left 1
   ·intro u hSu
    go_simp
    first | done | with_reducible rfl
   (try simp only [Act.put, zA, zB, zC])
   refine anyV_ready (rs := [11, 13]) (by kernel_rfl) (by simp) ?_
   refine EachV.cons (o := { dst := some 103, op := Op.extract (Operand.tmp 92) 1, type := 4, pos := _, after := _, guard := none }) rfl (fun Kz hK => ?_) (EachV.cons (o := { dst := none, op := Op.store 36 (Operand.tmp 15) (Operand.tmp 102), type := 0, pos := _, after := _, guard := none }) rfl (fun Kz hK => ?_) EachV.nil)
   ·go_simp
    refine hK.out _ _ (fun _ h => h) (fun _ => ?_)
    clear hK Kz
    (try simp only [Act.put, zA, zB, zC])
    refine anyV_ready (rs := [13]) (by kernel_rfl) (by simp) ?_
    refine EachV.cons (o := { dst := none, op := Op.store 36 (Operand.tmp 15) (Operand.tmp 102), type := 0, pos := _, after := _, guard := none }) rfl (fun Kz hK => ?_) EachV.nil
    first | (have HNB := Lib.hid (nr_aZ (lo1 := Z2) (lo2 := Z3) HRB.out.1 HRB.out.2 HLO.out)) | (have HNB := Lib.hid (nr_bZ (lo1 := Z2) (lo2 := Z3) HG6.out HRB.out.1 HRB.out.2 HLO.out))
    obtain ⟨b0, b1⟩ := row_cells HNB.out.bx
    have f0 := frozen_of_row _ _ 0 _ _ HNB.out.bx
    have f1 := frozen_of_row _ _ 1 _ _ HNB.out.bx
    go_simp
    have HT := Lib.hid (storeR (.int .i64 yi) (.slice yp yn.length yc) HNB.out.bx)
    have HZL := Lib.hid hHeld.out
    refine hK.out _ _ (fun h => by cases h) (fun _ => ?_)
    clear hK Kz
    (try simp only [Act.put, zA, zB, zC])
    refine anyV_ready (rs := [14]) (by kernel_rfl) (by simp) ?_
    refine EachV.cons (o := { dst := some 16, op := Op.assign (Operand.tmp 103), type := 4, pos := _, after := _, guard := none }) rfl (fun Kz hK => ?_) EachV.nil
    go_simp
    refine hK.out _ _ (fun h => by cases h) (fun _ => ?_)
    clear hK Kz
    (try simp only [Act.put, zA, zB, zC])
    refine anyV_done (by kernel_rfl) ?_ _
    clear b0 b1 f0 f1 hHeld
    go_wp2_with fail
    go_meet
    first
    | exact ⟨_, _, yp, yc, rfl, rfl, Lib.hid (And.intro (HZL.out.1.put HT.out.2 HNB.out.lo.1) (And.intro (HZL.out.2.put HT.out.2 (fun b hb e => by have := Option.some.inj e; have := HNB.out.lo; omega)) (HNB.out.rg HT.out.1 HT.out.2)))⟩
    | exact ⟨_, _, yp, yc, rfl, rfl, Lib.hid (And.intro (HS0.out.1.keep (World.grownBy_alloc _ _ none)) (And.intro (HS0.out.2.keep (World.grownBy_alloc _ _ none)) (nrg_aZ yi HRB.out.1 HRB.out.2 HLO.out.1)))⟩
   ·first | (have HNB := Lib.hid (nr_aZ (lo1 := Z2) (lo2 := Z3) HRB.out.1 HRB.out.2 HLO.out)) | (have HNB := Lib.hid (nr_bZ (lo1 := Z2) (lo2 := Z3) HG6.out HRB.out.1 HRB.out.2 HLO.out))
    obtain ⟨b0, b1⟩ := row_cells HNB.out.bx
    have f0 := frozen_of_row _ _ 0 _ _ HNB.out.bx
    have f1 := frozen_of_row _ _ 1 _ _ HNB.out.bx
    go_simp
    have HT := Lib.hid (storeR (.int .i64 yi) (.slice yp yn.length yc) HNB.out.bx)
    have HZL := Lib.hid hHeld.out
    refine hK.out _ _ (fun h => by cases h) (fun _ => ?_)
    clear hK Kz
    (try simp only [Act.put, zA, zB, zC])
    refine anyV_ready (rs := [11]) (by kernel_rfl) (by simp) ?_
    refine EachV.cons (o := { dst := some 103, op := Op.extract (Operand.tmp 92) 1, type := 4, pos := _, after := _, guard := none }) rfl (fun Kz hK => ?_) EachV.nil
    go_simp
    refine hK.out _ _ (fun _ h => h) (fun _ => ?_)
    clear hK Kz
    (try simp only [Act.put, zA, zB, zC])
    refine anyV_ready (rs := [14]) (by kernel_rfl) (by simp) ?_
    refine EachV.cons (o := { dst := some 16, op := Op.assign (Operand.tmp 103), type := 4, pos := _, after := _, guard := none }) rfl (fun Kz hK => ?_) EachV.nil
    go_simp
    refine hK.out _ _ (fun h => by cases h) (fun _ => ?_)
    clear hK Kz
    (try simp only [Act.put, zA, zB, zC])
    refine anyV_done (by kernel_rfl) ?_ _
    clear b0 b1 f0 f1 hHeld
    go_wp2_with fail
    go_meet
    first
    | exact ⟨_, _, yp, yc, rfl, rfl, Lib.hid (And.intro (HZL.out.1.put HT.out.2 HNB.out.lo.1) (And.intro (HZL.out.2.put HT.out.2 (fun b hb e => by have := Option.some.inj e; have := HNB.out.lo; omega)) (HNB.out.rg HT.out.1 HT.out.2)))⟩
    | exact ⟨_, _, yp, yc, rfl, rfl, Lib.hid (And.intro (HS0.out.1.keep (World.grownBy_alloc _ _ none)) (And.intro (HS0.out.2.keep (World.grownBy_alloc _ _ none)) (nrg_aZ yi HRB.out.1 HRB.out.2 HLO.out.1)))⟩
 case rest =>
 clear K
 obtain ⟨g2, Z4, pq2, cq2, rfl, rfl, K⟩ := hcut
 obtain ⟨w14, hw14⟩ : ∃ w14, w14 = wc := ⟨_, rfl⟩
 rw [← hw14] at K ⊢
 clear hw14
 obtain ⟨d0, d1⟩ := row_cells K.out.2.1.bx
 obtain ⟨m0, m1⟩ := row_cells K.out.2.2.bx
 have hyb : (yb != yb) = false := by simp
 have hyi : (yi != yi) = false := by simp
 go_wp2_with fail
 refine (rintsG_any yn yn pq1 pq2 cq1 cq2 _ _ w14 K.out.2.1.rd K.out.2.2.rd K.out.2.1.hl K.out.2.2.hl).mono ?_
 rintro e w15 ⟨rfl, hg⟩
 rw [decide_eq_true (rfl : yn = yn)]
 have K15 := Lib.hid (K.out.1.keep hg)
 clear hg K d0 d1 m0 m1
 simp only
 go_wp2_with fail
 exact ⟨⟨j + 1, by omega, congrArg _ (by omega), K15⟩, by simp only [RowKit.intOf]; omega⟩
end Go.Proofs.YtahafijpcmphaaaGreat

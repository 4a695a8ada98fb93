/- BitioJoins: the walk. -/
import Derived.Test.YthnjiknmlakkkaaIoAppendsLaw
import Derived.Test.YthnjiknmlakkkaaIoJoinR
namespace Go.Proofs.Ythnjiknmlakkkaa
open Go.RowKit Bs
theorem pz_vs {f : Nat → Bool} {N : Nat} (h : N ≤ 8192) : vs (pz f N ((N + 7) / 8)) (N : Int) = true := by
  rw [vs_iff, pz_len]
  refine ⟨h, rfl, fun i h1 h2 => ?_⟩
  rw [bt_pz _ _ _ _ h1]
  simp; omega
theorem jnV_zero {l l' L : List Nat} {n n' N : Int} (h : jnV l n l' n' = (L, N, 0)) : ∃ A B : Nat, n = (A : Int) ∧ n' = (B : Int) ∧ vs l (A : Int) = true ∧ vs l' (B : Int) = true ∧ A + B ≤ 8192 ∧ L = pz (jnf l A l') (A + B) ((A + B + 7) / 8) ∧ N = ((A + B : Nat) : Int) := by
  cases h1 : vs l n with
  | false => rw [jnV_inv h1] at h; simp at h
  | true =>
    cases h2 : vs l' n' with
    | false => rw [jnV_inv2 h1 h2] at h; simp at h
    | true =>
      obtain ⟨A, rfl⟩ := vs_nat h1
      obtain ⟨B, rfl⟩ := vs_nat h2
      by_cases h3 : 8192 < A + B
      · rw [jnV_limit h1 h2 h3] at h; simp at h
      · rw [jnV_ok h1 h2 rfl h3] at h
        simp only [Prod.mk.injEq] at h
        exact ⟨A, B, rfl, rfl, h1, h2, by omega, h.1.symm, h.2.1.symm⟩
theorem jn_assoc {la lb lc L1 L2 : List Nat} {na nb nc N1 N2 : Int} (h1 : jnV la na lb nb = (L1, N1, 0)) (h2 : jnV lb nb lc nc = (L2, N2, 0)) : jnV L1 N1 lc nc = jnV la na L2 N2 := by
  obtain ⟨A, B, rfl, rfl, va, vb, hab, rfl, rfl⟩ := jnV_zero h1
  obtain ⟨B', C, e, rfl, vb', vc, hbc, rfl, rfl⟩ := jnV_zero h2
  obtain rfl : B = B' := by omega
  have v1 := pz_vs (f := jnf la A lb) hab
  have v2 := pz_vs (f := jnf lb B lc) hbc
  by_cases h : 8192 < A + B + C
  · rw [jnV_limit v1 vc h, jnV_limit va v2 (by omega)]
  · rw [jnV_ok v1 vc rfl h, jnV_ok va v2 (T := A + B + C) (by omega) h]
    suffices e : pz (jnf (pz (jnf la A lb) (A + B) ((A + B + 7) / 8)) (A + B) lc) (A + B + C) ((A + B + C + 7) / 8) = pz (jnf la A (pz (jnf lb B lc) (B + C) ((B + C + 7) / 8))) (A + B + C) ((A + B + C + 7) / 8) by rw [e]
    apply pz_congr
    intro i hi
    by_cases hT : i < A + B + C
    · simp only [hT, decide_true, Bool.true_and]
      unfold jnf
      by_cases hA : i < A
      · rw [if_pos (by omega), if_pos hA, bt_pz _ _ _ _ (by omega), if_pos hA]
        simp; omega
      · by_cases hB : i < A + B
        · rw [if_pos hB, if_neg hA, bt_pz _ _ _ _ (by omega), bt_pz _ _ _ _ (by omega), if_neg hA, if_pos (by omega)]
          have e1 : i - A < B + C := by omega
          simp [hB, e1]
        · rw [if_neg hB, if_neg hA, bt_pz _ _ _ _ (by omega), if_neg (by omega), show i - A - B = i - (A + B) by omega]
          have e1 : i - A < B + C := by omega
          simp [e1]
    · simp [hT]
section
variable {w : World} {p p' : Option Addr} {c c' : Nat} {l l' : List Nat}
theorem joinp_st (h : Hid (Std w p c l)) (h' : Hid (Std w p' c' l')) (n n' : Int) : Calls Try.prog 26 #[.agg #[.slice p l.length c, .int .i64 n], .agg #[.slice p' l'.length c', .int .i64 n']] w fun e w' => SPost (jnV l n l' n') w e w' :=
  joinp_any l l' n n' _ p p' c c' h.out.2.2 h'.out.2.2 w (fun _ hb => hb) h.out.1 h'.out.1
theorem joinr_st (h : Hid (Std w p c l)) (h' : Hid (Std w p' c' l')) (n n' : Int) : Calls Try.prog 27 #[.agg #[.slice p l.length c, .int .i64 n], .agg #[.slice p' l'.length c', .int .i64 n']] w fun e w' => RPost (jnV l n l' n') w e w' :=
  joinr_any l l' n n' _ p p' c c' h.out.2.2 h'.out.2.2 h.out.2.1 w (fun _ hb => hb) h.out.1 h'.out.1
theorem alignp_st (h : Hid (Std w p c l)) (n : Int) : Calls Try.prog 28 #[.agg #[.slice p l.length c, .int .i64 n]] w fun e w' => SPost (alV l n) w e w' :=
  alignp_any l n _ p c h.out.2.2 w h.out.1
theorem alignr_st (h : Hid (Std w p c l)) (n : Int) : Calls Try.prog 29 #[.agg #[.slice p l.length c, .int .i64 n]] w fun e w' => RPost (alV l n) w e w' :=
  alignr_any l n _ p c h.out.2.2 h.out.2.1 w (fun _ hb => hb) h.out.1
end
/-- A stream stands while the tape turns. -/
theorem own_tape {w0 w1 : World} {a base c : Nat} {p : Option Addr} {l : List Nat} (h : Own w0 base p c l) (g : w0.grownBy w1 (some a)) (ha : a < base) : Own w1 base p c l := h.other g ha
theorem Own.std {w : World} {base c : Nat} {p : Option Addr} {l : List Nat} (h : Own w base p c l) : Hid (Std w p c l) := Lib.hid ⟨h.rd.bound, h.pc, h.by_⟩
set_option maxHeartbeats 6400000 in
theorem joins_walk (v : Value) (w : World) (hv : IntsIn w v) :
    Calls Try.prog 6 #[v] w fun e w' => e = .returned (.bool true) ∧ w.grownBy w' none := by
  go_enter Try.func6, Try.ntmps6
  go_wp2_with fail
  refine (new_any v w hv).mono ?_
  rintro e w2 ⟨rfl, hg1, hT1⟩
  have hlt := hT1.lt
  have i6 : I64 6 := by unfold I64; omega
  go_wp2_with fail
  refine (stream1_any _ 30 6 (by omega) i6 (by omega) _ hT1).mono ?_
  rintro e w3 ⟨la, na, ⟨pa, ca, rfl, owna⟩, _, hs3⟩
  go_wp2_with fail
  refine (stream1_any _ 30 6 (by omega) i6 (by omega) _ hs3.2).mono ?_
  rintro e w4 ⟨lb, nb, ⟨pb, cb, rfl, ownb⟩, _, hs4⟩
  go_wp2_with fail
  refine (stream1_any _ 30 6 (by omega) i6 (by omega) _ hs4.2).mono ?_
  rintro e w5 ⟨lc, nc, ⟨pc, cc, rfl, ownc⟩, _, hs5⟩
  obtain ⟨k1, k2, k3, k4, k5⟩ := three_boxes w5 #[.slice pa la.length ca, .int .i64 na] #[.slice pb lb.length cb, .int .i64 nb] #[.slice pc lc.length cc, .int .i64 nc] 25
  have Sa := (((owna.other (hs4.trans hs5).1 (by omega))).keep k4).std
  have Sb := ((ownb.other hs5.1 (by have := hs3.1.size; omega)).keep k4).std
  have Sc := (ownc.keep k4).std
  have Ra : Hid (Row2 _ _ _ _) := Lib.hid k1
  have Rb : Hid (Row2 _ _ _ _) := Lib.hid k2
  have Rc : Hid (Row2 _ _ _ _) := Lib.hid k3
  have G := Lib.hid (grown_trans (grown_tape hg1 ((hs3.trans hs4).trans hs5).1) k4)
  obtain ⟨c0a, c1a⟩ := Row2.cells Ra
  obtain ⟨c0b, c1b⟩ := Row2.cells Rb
  clear k1 k2 k3 k4 k5 owna ownb ownc hs3 hs4 hs5 hg1 hT1 hv hlt i6
  go_wp2_with fail
  generalize ((w5.alloc (.cells #[.slice pa la.length ca, .int .i64 na] 25)).alloc (.cells #[.slice pb lb.length cb, .int .i64 nb] 25)).alloc (.cells #[.slice pc lc.length cc, .int .i64 nc] 25) = w6 at *
  refine (joinp_st Sa Sb na nb).mono ?_
  intro e w7 h
  generalize hx : jnV la na lb nb = qx at h
  obtain ⟨Lx, Nx, Ex⟩ := qx
  have Hx := Lib.hid hx
  clear hx
  obtain ⟨px, cx, rfl, Sx, hx⟩ := h.std
  obtain ⟨Rx, gx⟩ := box_new w7 (.slice px Lx.length cx) (.int .i64 Nx)
  have Sa := Std.keep Sa (grown_trans hx gx)
  have Ra := Row2.keep Ra (grown_trans hx gx)
  have Sb := Std.keep Sb (grown_trans hx gx)
  have Rb := Row2.keep Rb (grown_trans hx gx)
  have Sc := Std.keep Sc (grown_trans hx gx)
  have Rc := Row2.keep Rc (grown_trans hx gx)
  have G := Lib.hid (grown_trans G.out (grown_trans hx gx))
  have Sx := Std.keep Sx gx
  clear h hx gx
  clear c0a c1a c0b c1b
  obtain ⟨c0a, c1a⟩ := Row2.cells Ra
  obtain ⟨c0b, c1b⟩ := Row2.cells Rb
  go_wp2_with fail
  generalize w7.alloc (.cells #[.slice px Lx.length cx, .int .i64 Nx] 25) = w8 at *
  refine (joinr_st Sa Sb na nb).mono ?_
  intro e w9 h
  rw [Hx.out] at h
  obtain ⟨py, cy, rfl, Sy, hx⟩ := h.std
  obtain ⟨Ry, gx⟩ := box_new w9 (.slice py Lx.length cy) (.int .i64 Nx)
  have Sa := Std.keep Sa (grown_trans hx gx)
  have Ra := Row2.keep Ra (grown_trans hx gx)
  have Sb := Std.keep Sb (grown_trans hx gx)
  have Rb := Row2.keep Rb (grown_trans hx gx)
  have Sc := Std.keep Sc (grown_trans hx gx)
  have Rc := Row2.keep Rc (grown_trans hx gx)
  have Sx := Std.keep Sx (grown_trans hx gx)
  have Rx := Row2.keep Rx (grown_trans hx gx)
  have G := Lib.hid (grown_trans G.out (grown_trans hx gx))
  have Sy := Std.keep Sy gx
  clear h hx gx
  clear c0a c1a c0b c1b
  obtain ⟨c0a, c1a⟩ := Row2.cells Ra
  go_wp2_with fail
  generalize w9.alloc (.cells #[.slice py Lx.length cy, .int .i64 Nx] 25) = w10 at *
  refine (alignp_st Sa na).mono ?_
  intro e w11 h
  generalize hu : alV la na = qu at h
  obtain ⟨Lu, Nu, Eu⟩ := qu
  have Hu := Lib.hid hu
  clear hu
  obtain ⟨pu, cu, rfl, Su, hx⟩ := h.std
  obtain ⟨Ru, gx⟩ := box_new w11 (.slice pu Lu.length cu) (.int .i64 Nu)
  have Sa := Std.keep Sa (grown_trans hx gx)
  have Ra := Row2.keep Ra (grown_trans hx gx)
  have Sb := Std.keep Sb (grown_trans hx gx)
  have Rb := Row2.keep Rb (grown_trans hx gx)
  have Sc := Std.keep Sc (grown_trans hx gx)
  have Rc := Row2.keep Rc (grown_trans hx gx)
  have Sx := Std.keep Sx (grown_trans hx gx)
  have Rx := Row2.keep Rx (grown_trans hx gx)
  have Sy := Std.keep Sy (grown_trans hx gx)
  have Ry := Row2.keep Ry (grown_trans hx gx)
  have G := Lib.hid (grown_trans G.out (grown_trans hx gx))
  have Su := Std.keep Su gx
  clear h hx gx
  clear c0a c1a
  obtain ⟨c0a, c1a⟩ := Row2.cells Ra
  go_wp2_with fail
  generalize w11.alloc (.cells #[.slice pu Lu.length cu, .int .i64 Nu] 25) = w12 at *
  refine (alignr_st Sa na).mono ?_
  intro e w13 h
  rw [Hu.out] at h
  obtain ⟨pv, cv, rfl, Sv, hx⟩ := h.std
  obtain ⟨Rv, gx⟩ := box_new w13 (.slice pv Lu.length cv) (.int .i64 Nu)
  have Sa := Std.keep Sa (grown_trans hx gx)
  have Ra := Row2.keep Ra (grown_trans hx gx)
  have Sb := Std.keep Sb (grown_trans hx gx)
  have Rb := Row2.keep Rb (grown_trans hx gx)
  have Sc := Std.keep Sc (grown_trans hx gx)
  have Rc := Row2.keep Rc (grown_trans hx gx)
  have Sx := Std.keep Sx (grown_trans hx gx)
  have Rx := Row2.keep Rx (grown_trans hx gx)
  have Sy := Std.keep Sy (grown_trans hx gx)
  have Ry := Row2.keep Ry (grown_trans hx gx)
  have Su := Std.keep Su (grown_trans hx gx)
  have Ru := Row2.keep Ru (grown_trans hx gx)
  have G := Lib.hid (grown_trans G.out (grown_trans hx gx))
  have Sv := Std.keep Sv gx
  clear h hx gx
  clear c0a c1a
  obtain ⟨c0x, c1x⟩ := Row2.cells Rx
  obtain ⟨c0y, c1y⟩ := Row2.cells Ry
  go_wp2_with fail
  generalize w13.alloc (.cells #[.slice pv Lu.length cv, .int .i64 Nu] 25) = w14 at *
  refine (same_at Sx Sy Nx).mono ?_
  rintro e w15 ⟨rfl, hx⟩
  have Sa := Std.keep Sa hx
  have Ra := Row2.keep Ra hx
  have Sb := Std.keep Sb hx
  have Rb := Row2.keep Rb hx
  have Sc := Std.keep Sc hx
  have Rc := Row2.keep Rc hx
  have Sx := Std.keep Sx hx
  have Rx := Row2.keep Rx hx
  have Sy := Std.keep Sy hx
  have Ry := Row2.keep Ry hx
  have Su := Std.keep Su hx
  have Ru := Row2.keep Ru hx
  have Sv := Std.keep Sv hx
  have Rv := Row2.keep Rv hx
  have G := Lib.hid (grown_trans G.out hx)
  clear hx
  clear c0x c1x c0y c1y
  obtain ⟨c0u, c1u⟩ := Row2.cells Ru
  obtain ⟨c0v, c1v⟩ := Row2.cells Rv
  go_wp2_with fail
  refine (same_at Su Sv Nu).mono ?_
  rintro e w16 ⟨rfl, hx⟩
  have Sa := Std.keep Sa hx
  have Ra := Row2.keep Ra hx
  have Sb := Std.keep Sb hx
  have Rb := Row2.keep Rb hx
  have Sc := Std.keep Sc hx
  have Rc := Row2.keep Rc hx
  have Sx := Std.keep Sx hx
  have Rx := Row2.keep Rx hx
  have Sy := Std.keep Sy hx
  have Ry := Row2.keep Ry hx
  have Su := Std.keep Su hx
  have Ru := Row2.keep Ru hx
  have Sv := Std.keep Sv hx
  have Rv := Row2.keep Rv hx
  have G := Lib.hid (grown_trans G.out hx)
  clear hx
  clear c0u c1u c0v c1v
  obtain ⟨c0x, c1x⟩ := Row2.cells Rx
  obtain ⟨c0c, c1c⟩ := Row2.cells Rc
  go_wp2_with fail
  clear Sy Ry Su Ru Sv Rv
  refine (joinp_st Sx Sc Nx nc).mono ?_
  intro e w17 h
  generalize hp : jnV Lx Nx lc nc = qp at h
  obtain ⟨Lp, Np, Ep⟩ := qp
  have Hp := Lib.hid hp
  clear hp
  obtain ⟨pp, cp, rfl, Sp, hx⟩ := h.std
  obtain ⟨Rp, gx⟩ := box_new w17 (.slice pp Lp.length cp) (.int .i64 Np)
  have Sa := Std.keep Sa (grown_trans hx gx)
  have Ra := Row2.keep Ra (grown_trans hx gx)
  have Sb := Std.keep Sb (grown_trans hx gx)
  have Rb := Row2.keep Rb (grown_trans hx gx)
  have Sc := Std.keep Sc (grown_trans hx gx)
  have Rc := Row2.keep Rc (grown_trans hx gx)
  have Sx := Std.keep Sx (grown_trans hx gx)
  have Rx := Row2.keep Rx (grown_trans hx gx)
  have G := Lib.hid (grown_trans G.out (grown_trans hx gx))
  have Sp := Std.keep Sp gx
  clear h hx gx
  clear c0x c1x c0c c1c
  obtain ⟨c0b, c1b⟩ := Row2.cells Rb
  obtain ⟨c0c, c1c⟩ := Row2.cells Rc
  go_wp2_with fail
  generalize w17.alloc (.cells #[.slice pp Lp.length cp, .int .i64 Np] 25) = w18 at *
  refine (joinp_st Sb Sc nb nc).mono ?_
  intro e w19 h
  generalize hz : jnV lb nb lc nc = qz at h
  obtain ⟨Lz, Nz, Ez⟩ := qz
  have Hz := Lib.hid hz
  clear hz
  obtain ⟨pz, cz, rfl, Sz, hx⟩ := h.std
  obtain ⟨Rz, gx⟩ := box_new w19 (.slice pz Lz.length cz) (.int .i64 Nz)
  have Sa := Std.keep Sa (grown_trans hx gx)
  have Ra := Row2.keep Ra (grown_trans hx gx)
  have Sb := Std.keep Sb (grown_trans hx gx)
  have Rb := Row2.keep Rb (grown_trans hx gx)
  have Sc := Std.keep Sc (grown_trans hx gx)
  have Rc := Row2.keep Rc (grown_trans hx gx)
  have Sx := Std.keep Sx (grown_trans hx gx)
  have Rx := Row2.keep Rx (grown_trans hx gx)
  have Sp := Std.keep Sp (grown_trans hx gx)
  have Rp := Row2.keep Rp (grown_trans hx gx)
  have G := Lib.hid (grown_trans G.out (grown_trans hx gx))
  have Sz := Std.keep Sz gx
  clear h hx gx
  clear c0b c1b c0c c1c
  obtain ⟨c0a, c1a⟩ := Row2.cells Ra
  obtain ⟨c0z, c1z⟩ := Row2.cells Rz
  go_wp2_with fail
  generalize w19.alloc (.cells #[.slice pz Lz.length cz, .int .i64 Nz] 25) = w20 at *
  refine (joinp_st Sa Sz na Nz).mono ?_
  intro e w21 h
  generalize hq : jnV la na Lz Nz = qq at h
  obtain ⟨Lq, Nq, Eq⟩ := qq
  have Hq := Lib.hid hq
  clear hq
  obtain ⟨pq, cq, rfl, Sq, hx⟩ := h.std
  obtain ⟨Rq, gx⟩ := box_new w21 (.slice pq Lq.length cq) (.int .i64 Nq)
  have Sa := Std.keep Sa (grown_trans hx gx)
  have Ra := Row2.keep Ra (grown_trans hx gx)
  have Sb := Std.keep Sb (grown_trans hx gx)
  have Rb := Row2.keep Rb (grown_trans hx gx)
  have Sc := Std.keep Sc (grown_trans hx gx)
  have Rc := Row2.keep Rc (grown_trans hx gx)
  have Sx := Std.keep Sx (grown_trans hx gx)
  have Rx := Row2.keep Rx (grown_trans hx gx)
  have Sp := Std.keep Sp (grown_trans hx gx)
  have Rp := Row2.keep Rp (grown_trans hx gx)
  have Sz := Std.keep Sz (grown_trans hx gx)
  have Rz := Row2.keep Rz (grown_trans hx gx)
  have G := Lib.hid (grown_trans G.out (grown_trans hx gx))
  have Sq := Std.keep Sq gx
  clear h hx gx
  clear c0a c1a c0z c1z
  by_cases e1 : Ex = 0
  · by_cases e2 : Ez = 0
    · subst e1
      subst e2
      have hpq := jn_assoc Hx.out Hz.out
      rw [Hp.out, Hq.out] at hpq
      simp only [Prod.mk.injEq] at hpq
      obtain ⟨rfl, rfl, rfl⟩ := hpq
      obtain ⟨c0, c1⟩ := Row2.cells Rp
      obtain ⟨d0, d1⟩ := Row2.cells Rq
      go_wp2_with fail
      refine (same_at Sp Sq _).mono ?_
      rintro e wy ⟨rfl, hy⟩
      have G := Lib.hid (grown_trans G.out hy)
      clear hy
      go_wp2_with fail
      refine (awake_any _).mono ?_
      rintro e wz ⟨rfl, hz⟩
      have G := Lib.hid (grown_trans G.out hz)
      clear hz
      go_wp2_with fail
      go_ret
      exact ⟨rfl, G.out⟩
    · have b2 : (Ez == 0) = false := by simpa using e2
      have b3 : (Ez != 0) = true := by simpa using e2
      go_wp2_with fail
      refine (awake_any _).mono ?_
      rintro e wz ⟨rfl, hz⟩
      have G := Lib.hid (grown_trans G.out hz)
      clear hz
      go_wp2_with fail
      go_ret
      exact ⟨rfl, G.out⟩
  · have b2 : (Ex == 0) = false := by simpa using e1
    have b3 : (Ex != 0) = true := by simpa using e1
    go_wp2_with fail
    refine (awake_any _).mono ?_
    rintro e wz ⟨rfl, hz⟩
    have G := Lib.hid (grown_trans G.out hz)
    clear hz
    go_wp2_with fail
    go_ret
    exact ⟨rfl, G.out⟩
end Go.Proofs.Ythnjiknmlakkkaa

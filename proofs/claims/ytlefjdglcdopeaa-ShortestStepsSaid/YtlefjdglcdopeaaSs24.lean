/- Parts of the proof, packed: ShRoM. -/
import Derived.Test.YtlefjdglcdopeaaSs16
import Derived.Test.YtlefjdglcdopeaaSs18
/- The law ShortestRoutes: its mathematics; the law's own function length. -/
namespace Go.Proofs.Ytlefjdglcdopeaa
open Go.RowKit Go.Maps Bs
/-- A way over links from r. -/
def Chn (L : List Lk) : Int → List Int → Prop
  | _, [] => True
  | r, u :: t => (priceV L r u).2 = true ∧ (1 ≤ (priceV L r u).1 ∧ (priceV L r u).1 ≤ 1000) ∧ Chn L u t
def stp (L : List Lk) (s : Int × Int) (u : Int) : Int × Int := (u, s.2 + (priceV L s.1 u).1)
set_option maxRecDepth 100000 in
theorem chn_at {L : List Lk} : ∀ (l : List Int) (r acc : Int), Chn L r l → ∀ (k : Nat) (u : Int), l[k]? = some u → (priceV L ((l.take k).foldl (stp L) (r, acc)).1 u).2 = true ∧ 1 ≤ (priceV L ((l.take k).foldl (stp L) (r, acc)).1 u).1 ∧ (priceV L ((l.take k).foldl (stp L) (r, acc)).1 u).1 ≤ 1000
  | [], _, _, _, k, u, h => by simp at h
  | v :: t, r, acc, hc, 0, u, h => by
    obtain rfl : v = u := by simpa using h
    exact ⟨hc.1, hc.2.1.1, hc.2.1.2⟩
  | v :: t, r, acc, hc, k + 1, u, h => by
    rw [List.take_succ_cons, List.foldl_cons]
    exact chn_at t v _ hc.2.2 k u (by simpa using h)
set_option maxRecDepth 100000 in
theorem stp_snoc (L : List Lk) (l : List Int) (k : Nat) (u : Int) (s : Int × Int) (h : l[k]? = some u) : (l.take (k + 1)).foldl (stp L) s = stp L ((l.take k).foldl (stp L) s) u := by
  rw [List.take_add_one, h, List.foldl_append]
  rfl
set_option maxRecDepth 100000 in
theorem rtV_len (R : List Rt) (L : List Lk) (z : Int) : ∀ (n : Nat) (r : Int), far R L z r ≤ n → (rtV R L z r).length ≤ n := by
  intro n
  induction n with
  | zero =>
    intro r h
    cases hn : nxt R L r z with
    | nil => rw [rtV_stop hn]; exact Nat.le_refl _
    | cons u t =>
      have := far_step (R := R) (L := L) (z := z) (r := r) (u := u) (by rw [hn]; simp)
      omega
  | succ n ih =>
    intro r h
    by_cases hz : r = z
    · subst hz; rw [rtV_end]; simp
    · cases hn : nxt R L r z with
      | nil => rw [rtV_stop hn]; simp
      | cons u t =>
        have := far_step (R := R) (L := L) (z := z) (r := r) (u := u) (by rw [hn]; simp)
        rw [rtV_step hz hn, List.length_cons]
        have := ih u (by omega)
        omega
/-- What a route is like. -/
structure IsRt (R : List Rt) (L : List Lk) (z r : Int) (l : List Int) : Prop where
  chn : Chn L r l
  tot : ∀ acc, (l.foldl (stp L) (r, acc)).2 = acc + (dst R L r z).getD 0
  last : r ≠ z → ∃ k, l.length = k + 1 ∧ l[k]? = some z
  suf : ∀ (i : Nat) (u : Int), l[i]? = some u → rtV R L z u = l.drop (i + 1) ∧ (1 ≤ u ∧ u ≤ 99)
set_option maxRecDepth 100000 in
theorem isRt {R : List Rt} {L : List Lk} {z : Int} : ∀ (n : Nat) (r d : Int), far R L z r ≤ n → dst R L r z = some d → IsRt R L z r (rtV R L z r) := by
  intro n
  induction n with
  | zero =>
    intro r d hf hd
    by_cases hz : r = z
    · subst hz
      rw [rtV_end]
      refine ⟨trivial, fun acc => ?_, fun h => absurd rfl h, fun i u h => by simp at h⟩
      rw [dst_self (dst_some.1 hd).1]
      simp
    · cases hn : nxt R L r z with
      | nil => exact absurd hn (nxt_ne hd hz)
      | cons u t =>
        have := far_step (R := R) (L := L) (z := z) (r := r) (u := u) (by rw [hn]; simp)
        omega
  | succ n ih =>
    intro r d hf hd
    by_cases hz : r = z
    · subst hz
      rw [rtV_end]
      refine ⟨trivial, fun acc => ?_, fun h => absurd rfl h, fun i u h => by simp at h⟩
      rw [dst_self (dst_some.1 hd).1]
      simp
    · cases hn : nxt R L r z with
      | nil => exact absurd hn (nxt_ne hd hz)
      | cons u t =>
        have hm : u ∈ nxt R L r z := by rw [hn]; simp
        have hfs := far_step hm
        obtain ⟨d', x, c, h1, h2, h3, h4, h5⟩ := nxt_step hm
        have hok := (dst_both hd).1
        have hp := price_edg hok h5
        have hg := (okT_g hok).edg h5
        have I := ih u x (by omega) h2
        rw [rtV_step hz hn]
        rw [hd] at h1
        obtain rfl := Option.some.inj h1
        refine ⟨⟨by rw [hp], by rw [hp]; exact hg.1, I.chn⟩, fun acc => ?_, fun _ => ?_, fun i v h => ?_⟩
        · rw [List.foldl_cons]
          show ((rtV R L z u).foldl (stp L) (u, acc + (priceV L r u).1)).2 = _
          rw [I.tot, hp, h2, hd]
          simp only [Option.getD_some]
          omega
        · by_cases huz : u = z
          · subst huz
            rw [rtV_end]
            exact ⟨0, rfl, rfl⟩
          · obtain ⟨k, hk, hkl⟩ := I.last huz
            exact ⟨k + 1, by rw [List.length_cons, hk], by rw [List.getElem?_cons_succ]; exact hkl⟩
        · cases i with
          | zero =>
            obtain rfl : u = v := by simpa using h
            exact ⟨rfl, hg.2.2⟩
          | succ i =>
            rw [List.drop_succ_cons]
            exact I.suf i v (by simpa using h)
set_option maxRecDepth 100000 in
set_option maxHeartbeats 6400000 in
theorem slen_any (T : Tg) (r : Int) (l : List Int) (p : Option Addr) (c : Nat) (q q2 : Nat → Prop) (w : World) (hT : TgOk w q T) (hR : Rd w q2 (.slice p l.length c) (l.map tv)) (hc : Chn T.L r l) (hl : l.length ≤ 24000) :
    Calls Try.prog 33 #[.agg #[.slice T.pR T.R.length T.cR, .slice T.pL T.L.length T.cL], .int .i64 r, .slice p l.length c] w fun e w' => e = .returned (.int .i64 ((l.foldl (stp T.L) (r, 0)).2)) ∧ w.grownBy w' none := by
  obtain ⟨R, L, pR, cR, pL, cL⟩ := T
  simp only at hc ⊢
  obtain ⟨k1, k2⟩ := tone_box w #[.slice pR R.length cR, .slice pL L.length cL] 28
  have HB := Lib.hid (And.intro k1 (And.intro k2 (hT.keep k2)))
  have HR := Lib.hid ((hR.grown k2 (fun _ _ => by simp)))
  have HC := Lib.hid (chn_at l r 0 hc)
  clear k1 k2 hT hR hc
  go_enter Try.func33, Try.ntmps33
  go_upto_block 0 with fail
  generalize w.alloc _ = w7 at *
  go_wp2_with fail
  go_loopw [1, 7, 8] (fun ff nn ii wr => ∃ (k : Nat) (s : Int × Int), k ≤ l.length ∧ ii = .int .i64 (k : Int) ∧ ff = .int .i64 s.1 ∧ nn = .int .i64 s.2 ∧ (0 ≤ s.2 ∧ s.2 ≤ 1000 * (k : Int)) ∧ Hid (s = (l.take k).foldl (stp L) (r, 0)) ∧ Hid (w7.grownBy wr none)) (fun _ _ ii _ => l.length - (RowKit.intOf ii).toNat)
  case atStart => exact ⟨0, (r, 0), Nat.zero_le _, rfl, rfl, rfl, by simp, Lib.hid rfl, Lib.hid (grown_refl _ _)⟩
  case round =>
    obtain ⟨k, ⟨f, n⟩, hk, rfl, rfl, rfl, hb, HS, HG⟩ := hrel
    simp only at hb ⊢
    by_cases hlt : k < l.length
    · obtain ⟨-, b, off, rfl, -, -⟩ := rdi_at (HR.out.grown HG.out (fun _ _ => by simp)) (by omega)
      obtain ⟨v, hv⟩ : ∃ v, l[k]? = some v := ⟨_, List.getElem?_eq_getElem hlt⟩
      have HD : Hid (∀ x, w7.grownBy x none → x.cell? ⟨b, off + k, none⟩ = some (.int .i64 v)) := Lib.hid (fun x g => by
        obtain ⟨-, b', o', e, -, hc⟩ := rdi_at (HR.out.grown g (fun _ _ => by simp)) (by omega)
        injection e with e
        injection e with e1 e2
        subst e1
        subst e2
        exact hc k v hv)
      obtain ⟨hp1, hp2⟩ := HC.out k v hv
      rw [← HS.out] at hp1 hp2
      simp only at hp1 hp2
      obtain ⟨P, hP⟩ : ∃ P, (priceV L f v).1 = P := ⟨_, rfl⟩
      have HP := Lib.hid (And.intro hP hp1)
      rw [hP] at hp2
      have HS1 : Hid ((v, n + P) = (l.take (k + 1)).foldl (stp L) (r, 0)) := Lib.hid (by
        rw [stp_snoc L l k v (r, 0) hv, ← HS.out]
        unfold stp
        simp only
        rw [hP])
      have hk1 : (k : Int) < (l.length : Int) := by omega
      have hk2 : (k : Int) ≤ 24000 := by omega
      clear hv hp1 hP HS
      go_upto_region 5 with fail
      refine wp_region_held_drew (S := fun w' => Hid (wr.grownBy w' none)) (by kernel_rfl) (Lib.hid (grown_drew (grown_refl _ _))) (fun hHeld => ?_)
      refine wpAnyH_take (i := 0) (oi := { dst := some 18, op := Op.load 28 (Operand.tmp 3), type := 28, pos := "law.go:109", after := #[], guard := none }) (v := ?_) rfl (by kernel_rfl) (by kernel_rfl) (by kernel_rfl) (fun _ _ _ h => h) (Or.inl ⟨by rfl, ?_⟩) hHeld ?_
      rotate_left 1
      · intro u hSu
        obtain ⟨q0, q1⟩ := row_cells (kept_row HB.out.1 (grown_trans HG.out hSu.out) (by simp))
        have q2 := HD.out u (grown_trans HG.out hSu.out)
        go_simp
        first | done | with_reducible rfl
      (try simp only [Act.put, List.setIfInBounds_toArray, List.set_cons_zero, List.set_cons_succ])
      refine wpAnyH_take (i := 1) (oi := { dst := some 19, op := Op.move (Operand.tmp 1), type := 3, pos := "law.go:109", after := #[], guard := none }) (v := ?_) rfl (by kernel_rfl) (by kernel_rfl) (by kernel_rfl) (fun _ _ _ h => h) (Or.inl ⟨by rfl, ?_⟩) hHeld ?_
      rotate_left 1
      · intro u hSu
        obtain ⟨q0, q1⟩ := row_cells (kept_row HB.out.1 (grown_trans HG.out hSu.out) (by simp))
        have q2 := HD.out u (grown_trans HG.out hSu.out)
        go_simp
        first | done | with_reducible rfl
      (try simp only [Act.put, List.setIfInBounds_toArray, List.set_cons_zero, List.set_cons_succ])
      refine wpAnyH_take (i := 2) (oi := { dst := some 20, op := Op.move (Operand.tmp 2), type := 22, pos := "law.go:109", after := #[], guard := none }) (v := ?_) rfl (by kernel_rfl) (by kernel_rfl) (by kernel_rfl) (fun _ _ _ h => h) (Or.inl ⟨by rfl, ?_⟩) hHeld ?_
      rotate_left 1
      · intro u hSu
        obtain ⟨q0, q1⟩ := row_cells (kept_row HB.out.1 (grown_trans HG.out hSu.out) (by simp))
        have q2 := HD.out u (grown_trans HG.out hSu.out)
        go_simp
        first | done | with_reducible rfl
      (try simp only [Act.put, List.setIfInBounds_toArray, List.set_cons_zero, List.set_cons_succ])
      refine wpAnyH_take (i := 3) (oi := { dst := some 21, op := Op.move (Operand.tmp 8), type := 3, pos := "law.go:109", after := #[], guard := none }) (v := ?_) rfl (by kernel_rfl) (by kernel_rfl) (by kernel_rfl) (fun _ _ _ h => h) (Or.inl ⟨by rfl, ?_⟩) hHeld ?_
      rotate_left 1
      · intro u hSu
        obtain ⟨q0, q1⟩ := row_cells (kept_row HB.out.1 (grown_trans HG.out hSu.out) (by simp))
        have q2 := HD.out u (grown_trans HG.out hSu.out)
        go_simp
        first | done | with_reducible rfl
      (try simp only [Act.put, List.setIfInBounds_toArray, List.set_cons_zero, List.set_cons_succ])
      refine wpAnyH_take (i := 4) (oi := { dst := some 22, op := Op.indexAddr 22 (Operand.tmp 20) (Operand.tmp 21), type := 0, pos := "law.go:109", after := #[{ on := 2, ground := Ground.data }, { on := 3, ground := Ground.data }], guard := none }) (v := ?_) rfl (by kernel_rfl) (by kernel_rfl) (by kernel_rfl) (fun _ _ _ h => h) (Or.inl ⟨by rfl, ?_⟩) hHeld ?_
      rotate_left 1
      · intro u hSu
        obtain ⟨q0, q1⟩ := row_cells (kept_row HB.out.1 (grown_trans HG.out hSu.out) (by simp))
        have q2 := HD.out u (grown_trans HG.out hSu.out)
        go_simp
        first | done | with_reducible rfl
      (try simp only [Act.put, List.setIfInBounds_toArray, List.set_cons_zero, List.set_cons_succ])
      refine wpAnyH_take (i := 5) (oi := { dst := some 23, op := Op.load 3 (Operand.tmp 22), type := 3, pos := "law.go:109", after := #[{ on := 4, ground := Ground.data }], guard := none }) (v := ?_) rfl (by kernel_rfl) (by kernel_rfl) (by kernel_rfl) (fun _ _ _ h => h) (Or.inl ⟨by rfl, ?_⟩) hHeld ?_
      rotate_left 1
      · intro u hSu
        obtain ⟨q0, q1⟩ := row_cells (kept_row HB.out.1 (grown_trans HG.out hSu.out) (by simp))
        have q2 := HD.out u (grown_trans HG.out hSu.out)
        go_simp
        first | done | with_reducible rfl
      (try simp only [Act.put, List.setIfInBounds_toArray, List.set_cons_zero, List.set_cons_succ])
      refine wpAnyH_ready (rs := [6]) (by kernel_rfl) (by simp) ?_
      refine AllReadyH.cons (o := { dst := some 24, op := Op.call { callee := Callee.value (Operand.func 32), args := #[Operand.tmp 18, Operand.tmp 19, Operand.tmp 23], argTypes := #[28, 3, 3] }, type := 49, pos := "law.go:109", after := #[{ on := 0, ground := Ground.data }, { on := 1, ground := Ground.data }, { on := 5, ground := Ground.data }], guard := none }) rfl (fun Kz hK => ?_) AllReadyH.nil
      go_simp
      go_at_call 32
      refine (rprice_any ⟨R, L, pR, cR, pL, cL⟩ f v _ _ (HB.out.2.2.keep (grown_trans HG.out hHeld.out))).mono ?_
      rintro e w9 ⟨rfl, hgc⟩
      simp only
      rw [HP.out.1, HP.out.2]
      refine hK.out _ _ (Lib.hid (grown_trans hHeld.out hgc)) (fun hH2 => ?_)
      clear hK Kz hHeld
      have hHeld := hH2
      clear hH2
      (try simp only [Act.put, List.setIfInBounds_toArray, List.set_cons_zero, List.set_cons_succ])
      refine wpAnyH_take (i := 7) (oi := { dst := some 17, op := Op.move (Operand.tmp 24), type := 49, pos := "law.go:109", after := #[{ on := 6, ground := Ground.data }], guard := none }) (v := ?_) rfl (by kernel_rfl) (by kernel_rfl) (by kernel_rfl) (fun _ _ _ h => h) (Or.inl ⟨by rfl, ?_⟩) hHeld ?_
      rotate_left 1
      · intro u hSu
        obtain ⟨q0, q1⟩ := row_cells (kept_row HB.out.1 (grown_trans HG.out hSu.out) (by simp))
        have q2 := HD.out u (grown_trans HG.out hSu.out)
        go_simp
        first | done | with_reducible rfl
      (try simp only [Act.put, List.setIfInBounds_toArray, List.set_cons_zero, List.set_cons_succ])
      refine wpAnyH_take (i := 8) (oi := { dst := some 25, op := Op.extract (Operand.tmp 17) 0, type := 3, pos := "law.go:109", after := #[{ on := 7, ground := Ground.data }], guard := none }) (v := ?_) rfl (by kernel_rfl) (by kernel_rfl) (by kernel_rfl) (fun _ _ _ h => h) (Or.inl ⟨by rfl, ?_⟩) hHeld ?_
      rotate_left 1
      · intro u hSu
        obtain ⟨q0, q1⟩ := row_cells (kept_row HB.out.1 (grown_trans HG.out hSu.out) (by simp))
        have q2 := HD.out u (grown_trans HG.out hSu.out)
        go_simp
        first | done | with_reducible rfl
      (try simp only [Act.put, List.setIfInBounds_toArray, List.set_cons_zero, List.set_cons_succ])
      refine wpAnyH_take (i := 9) (oi := { dst := some 26, op := Op.extract (Operand.tmp 17) 1, type := 4, pos := "law.go:109", after := #[{ on := 7, ground := Ground.data }, { on := 10, ground := Ground.gcOnly Departure.lateStores }], guard := none }) (v := ?_) rfl (by kernel_rfl) (by kernel_rfl) (by kernel_rfl) (fun _ _ _ h => h) (Or.inl ⟨by rfl, ?_⟩) hHeld ?_
      rotate_left 1
      · intro u hSu
        obtain ⟨q0, q1⟩ := row_cells (kept_row HB.out.1 (grown_trans HG.out hSu.out) (by simp))
        have q2 := HD.out u (grown_trans HG.out hSu.out)
        go_simp
        first | done | with_reducible rfl
      (try simp only [Act.put, List.setIfInBounds_toArray, List.set_cons_zero, List.set_cons_succ])
      refine wpAnyH_take (i := 10) (oi := { dst := some 9, op := Op.assign (Operand.tmp 25), type := 3, pos := "law.go:109", after := #[{ on := 8, ground := Ground.data }, { on := 6, ground := Ground.chain }, { on := 0, ground := Ground.phase }, { on := 1, ground := Ground.phase }, { on := 2, ground := Ground.phase }, { on := 3, ground := Ground.phase }, { on := 4, ground := Ground.phase }, { on := 5, ground := Ground.phase }, { on := 6, ground := Ground.phase }, { on := 7, ground := Ground.phase }, { on := 8, ground := Ground.phase }, { on := 9, ground := Ground.textOnly Departure.lateStores }], guard := none }) (v := ?_) rfl (by kernel_rfl) (by kernel_rfl) (by kernel_rfl) (fun _ _ _ h => h) (Or.inl ⟨by rfl, ?_⟩) hHeld ?_
      rotate_left 1
      · intro u hSu
        obtain ⟨q0, q1⟩ := row_cells (kept_row HB.out.1 (grown_trans HG.out hSu.out) (by simp))
        have q2 := HD.out u (grown_trans HG.out hSu.out)
        go_simp
        first | done | with_reducible rfl
      (try simp only [Act.put, List.setIfInBounds_toArray, List.set_cons_zero, List.set_cons_succ])
      refine wpAnyH_take (i := 11) (oi := { dst := some 10, op := Op.assign (Operand.tmp 26), type := 4, pos := "law.go:109", after := #[{ on := 9, ground := Ground.data }, { on := 10, ground := Ground.chain }, { on := 0, ground := Ground.phase }, { on := 1, ground := Ground.phase }, { on := 2, ground := Ground.phase }, { on := 3, ground := Ground.phase }, { on := 4, ground := Ground.phase }, { on := 5, ground := Ground.phase }, { on := 6, ground := Ground.phase }, { on := 7, ground := Ground.phase }, { on := 8, ground := Ground.phase }, { on := 9, ground := Ground.phase }, { on := 10, ground := Ground.phase }], guard := none }) (v := ?_) rfl (by kernel_rfl) (by kernel_rfl) (by kernel_rfl) (fun _ _ _ h => h) (Or.inl ⟨by rfl, ?_⟩) hHeld ?_
      rotate_left 1
      · intro u hSu
        obtain ⟨q0, q1⟩ := row_cells (kept_row HB.out.1 (grown_trans HG.out hSu.out) (by simp))
        have q2 := HD.out u (grown_trans HG.out hSu.out)
        go_simp
        first | done | with_reducible rfl
      (try simp only [Act.put, List.setIfInBounds_toArray, List.set_cons_zero, List.set_cons_succ])
      refine wpAnyH_done (by kernel_rfl) ?_ _
      have HGa := Lib.hid (grown_trans HG.out hHeld.out)
      have d0 := HD.out _ HGa.out
      clear hHeld HG HD
      go_wp2_with fail
      exact ⟨⟨k + 1, (v, n + P), by omega, congrArg _ (by omega), rfl, rfl, by simp only; omega, HS1, HGa⟩, by simp only [RowKit.intOf]; omega⟩
    · obtain rfl : k = l.length := by omega
      have h9 := HS.out
      rw [List.take_length] at h9
      have HE := Lib.hid (And.intro h9 (grown_trans HB.out.2.1 HG.out))
      clear h9
      go_wp2_with fail
      go_ret
      rw [← HE.out.1]
      exact ⟨rfl, HE.out.2⟩
end Go.Proofs.Ytlefjdglcdopeaa

/- Parts of the proof, packed: DbAgLaw. -/
import Derived.Test.YtnpkihioklpnmaaAg12
import Derived.Test.YtnpkihioklpnmaaAg13
import Derived.Test.YtnpkihioklpnmaaAg14
import Derived.Test.YtnpkihioklpnmaaAg11
import Derived.BigQuiet
import Derived.Deep.CutBlock
import Derived.Deep.CutRange
/- The law DatabaseAgrees. -/
namespace Go.Proofs.Ytnpkihioklpnmaa
open Go.RowKit Bs
/-- What memory holds: the database and the view in their boxes. -/
structure AgB (W : World) (l : List Ad) (p : Option Addr) (c : Nat) (T : Tg) (n d : Nat) (w : World) : Prop where
  b : w.heap[n]? = some (.cells #[.slice p l.length c] 25 (0, 0))
  db : RdA w (fun _ => True) (.slice p l.length c) l
  t : w.heap[d]? = some (.cells #[.slice T.pR T.R.length T.cR, .slice T.pL T.L.length T.cL] 59 (0, 0))
  tg : TgOk w (fun _ => True) T
  gr : W.grownBy w none
set_option maxRecDepth 100000 in
theorem AgB.keep {W w w1 : World} {l : List Ad} {p : Option Addr} {c : Nat} {T : Tg} {n d : Nat} (h : AgB W l p c T n d w) (g : w.grownBy w1 none) : AgB W l p c T n d w1 := ⟨kept_row h.b g (by simp), h.db.keep g, kept_row h.t g (by simp), h.tg.keep g, grown_trans h.gr g⟩
/-- A new box. -/
structure NX (W : World) (b : Nat) (cs : Array Value) (t : TypeId) (w : World) : Prop where
  ab : w.heap[b]? = some (.cells cs t (0, 0))
  lo : W.heap.size ≤ b
set_option maxRecDepth 100000 in
theorem NX.keep {W w w1 : World} {b : Nat} {cs : Array Value} {t : TypeId} (h : NX W b cs t w) (g : w.grownBy w1 none) : NX W b cs t w1 := ⟨kept_row h.ab g (by simp), h.lo⟩
set_option maxRecDepth 100000 in
theorem nx_start {w w1 : World} (cs : Array Value) (t : TypeId) (g : w.grownBy w1 none) : ∀ b, b = w1.heap.size → NX w b cs t (w1.alloc (.cells cs t)) := by
  rintro b rfl
  exact ⟨heap_alloc_new _ _, g.size⟩
/-- An advert in a box. -/
structure AB (b : Nat) (A : Ad) (w : World) : Prop where
  bx : w.heap[b]? = some (.cells #[.int .i64 A.r, .int .i64 A.q, .bool A.cp, .slice A.pL A.L.length A.cL, .slice A.pC A.C.length A.cC] 38 (0, 0))
  ok : AdOk w (fun _ => True) A
set_option maxRecDepth 100000 in
theorem AB.keep {w w1 : World} {b : Nat} {A : Ad} (h : AB b A w) (g : w.grownBy w1 none) : AB b A w1 := ⟨kept_row h.bx g (by simp), h.ok.keep g⟩
set_option maxRecDepth 100000 in
theorem rdl_at2 {w : World} {q : Nat → Prop} {b off n c k : Nat} {L : List Lk} {t : Lk} (h : RdL5 w q (.slice (some ⟨b, off, none⟩) n c) L) (hx : L[k]? = some t) : w.cell? ⟨b, off + k * 5, none⟩ = some (.int .i64 t.a) ∧ w.cell? ⟨b, off + k * 5 + 1, none⟩ = some (.int .i64 t.b) ∧ w.cell? ⟨b, off + k * 5 + 2, none⟩ = some (.int .i64 t.ca) ∧ w.cell? ⟨b, off + k * 5 + 3, none⟩ = some (.int .i64 t.cb) := by
  obtain ⟨-, b', o', e, -, hc⟩ := rdl_cells h (by have := (List.getElem?_eq_some_iff.1 hx).1; omega)
  injection e with e
  injection e with e1 e2
  subst e1
  subst e2
  obtain ⟨h0, h1, h2, h3, -⟩ := hc k t hx
  exact ⟨h0, h1, h2, h3⟩
set_option maxRecDepth 100000 in
theorem ag_view2 {l : List Ad} (h : OkD l) (h6 : l.length ≤ 6) {r : Int} {T : Tg} (hv : (T.R, T.L) = viewV l r) : AgV l r T.R T.L := by
  obtain ⟨R, L, e, k⟩ := ag_view h h6 r
  rw [e] at hv
  injection hv with h1 h2
  rw [h1, h2]
  exact k
set_option maxRecDepth 100000 in
theorem rc_same {A X : Ad} {r : Int} {x : T3} (e : X.L = A.L) (h : rcA A r = some x) : rcA X r = some x := by
  unfold rcA at h ⊢
  rw [e]; exact h
set_option maxRecDepth 100000 in
set_option maxHeartbeats 25600000 in
theorem agrees_walk (v : Value) (w : World) (hv : IntsIn w v) :
    Calls Try.prog 8 #[v] w fun e w' => e = .returned (.bool true) ∧ w.grownBy w' none := by
  go_enter Try.func8, Try.ntmps8
  go_wp2_with fail
  refine (new_any v w hv).mono ?_
  rintro e w1 ⟨rfl, hg1, hT1⟩
  obtain ⟨a, ha⟩ : ∃ a, w.heap.size = a := ⟨_, rfl⟩
  have HG : Hid (w.grownBy w1 none ∧ w.heap.size ≤ a) := Lib.hid ⟨hg1, Nat.le_of_eq ha⟩
  rw [ha] at hT1 ⊢
  have HT := Lib.hid hT1
  clear hg1 hT1 ha hv
  go_wp2_with fail
  refine (tdb_any a 0 (by unfold I64; omega) _ HT.out).mono ?_
  rintro e w2 ⟨l, p, c, rfl, h7, hdl, hdv, hrd, hc, hn, hs⟩
  have hd := hdv (by omega)
  have h6 : l.length ≤ 6 := by have := dv_len hd (by omega); omega
  have HO := Lib.hid (dv_ok hd)
  obtain ⟨n1, n2⟩ := tone_box w2 #[.slice p l.length c] 25
  have HP : Hid ((w2.alloc (.cells #[.slice p l.length c] 25)).heap[w2.heap.size]? = some (.cells #[.slice p l.length c] 25 (0, 0)) ∧ RdA (w2.alloc (.cells #[.slice p l.length c] 25)) (· ≠ a) (.slice p l.length c) l ∧ w.grownBy (w2.alloc (.cells #[.slice p l.length c] 25)) none ∧ w.heap.size ≤ a ∧ Tp (w2.alloc (.cells #[.slice p l.length c] 25)) a ∧ w2.heap.size ≠ a) :=
    Lib.hid ⟨n1, (hrd.keep n2).mono (fun b hb => by have := HT.out.lt; omega), grown_trans (grown_new HG.out.1 hs.1 HG.out.2) n2, HG.out.2, hs.2.keep n2, by have := hs.2.lt; omega⟩
  clear h7 hdl hdv hrd hc hn hs hd n1 n2 HT HG
  go_upto_region 3 with fail
  generalize hw : w2.alloc _ = w3 at *
  generalize w2.heap.size = n at *
  clear hw w2
  go_wp2_with fail
  refine (range_any a 1 6 (by omega) (by omega) (by omega) (by omega) w3 HP.out.2.2.2.2.1).mono ?_
  rintro e w4 ⟨r, rfl, -, hs⟩
  have HQ : Hid (w4.heap[n]? = some (.cells #[.slice p l.length c] 25 (0, 0)) ∧ RdA w4 (fun _ => True) (.slice p l.length c) l ∧ w.grownBy w4 none) := Lib.hid ⟨kept_row HP.out.1 hs.1 (fun e => HP.out.2.2.2.2.2 (Option.some.inj e)), (HP.out.2.1.grown hs.1 (fun b hb e => hb (Option.some.inj e))).mono (fun _ _ => trivial), grown_new HP.out.2.2.1 hs.1 HP.out.2.2.2.1⟩
  clear hs HP
  have q0 := cell_of_row _ _ 0 _ _ _ HQ.out.1
  go_wp2_with fail
  refine (dview_any l r p c _ w4 HQ.out.2.1 (by omega)).mono ?_
  rintro e w5 ⟨T, rfl, hv, hok, hg⟩
  have HV := Lib.hid (ag_view2 HO.out h6 hv)
  have HVE := Lib.hid hv
  obtain ⟨n1, n2⟩ := tone_box w5 #[.slice T.pR T.R.length T.cR, .slice T.pL T.L.length T.cL] 59
  have K0 : Hid (AgB w l p c T n w5.heap.size _) := Lib.hid ⟨kept_row HQ.out.1 (grown_trans hg n2) (by simp), HQ.out.2.1.keep (grown_trans hg n2), n1, (hok.keep n2).mono (fun _ _ => trivial), grown_trans HQ.out.2.2 (grown_trans hg n2)⟩
  have hlR : T.R.length ≤ 6 := HV.out.lR
  have hlL : T.L.length ≤ 36 := HV.out.lL
  clear hv hok hg n1 n2 HQ q0
  go_upto_region 5 with fail
  generalize hw : w5.alloc _ = w6 at *
  generalize w5.heap.size = d at *
  clear hw w5
  have q0 := cell_of_row _ _ 0 _ _ _ K0.out.b
  go_wp2_with fail
  refine (rfind_any l r p c _ w6 K0.out.db (by omega)).mono ?_
  rintro e w7 ⟨X, rfl, -, -, hg⟩
  obtain ⟨pz, hpz⟩ : ∃ z, (fndA l r).isSome = z := ⟨_, rfl⟩
  rw [hpz]
  have HHV : Hid (hasV T.R T.L r = pz) := Lib.hid (by rw [HV.out.has, hpz])
  have K1 := Lib.hid ((K0.out.keep hg).keep (World.grownBy_alloc _ (.cells #[.int .i64 X.r, .int .i64 X.q, .bool X.cp, .slice X.pL X.L.length X.cL, .slice X.pC X.C.length X.cC] 38) none))
  clear hg hpz K0 q0
  go_upto_region 6 with fail
  generalize hw : w7.alloc _ = w8 at *
  clear hw
  obtain ⟨t0, t1⟩ := row_cells K1.out.t
  go_wp2_with fail
  refine (rcheck_any T _ w8 K1.out.tg).mono ?_
  rintro e w9 ⟨rfl, hg⟩
  have K2 := Lib.hid (K1.out.keep hg)
  have hck : chk T.R T.L = 0 := by have := HV.out.ok; unfold okT at this; simpa using this
  rw [hck]
  clear hg K1 t0 t1 hck
  obtain ⟨t0, t1⟩ := row_cells K2.out.t
  go_wp2_with fail
  refine (rhasV_any T r _ w9 K2.out.tg).mono ?_
  rintro e w10 ⟨rfl, hg⟩
  have K3 := Lib.hid (K2.out.keep hg)
  rw [HHV.out]
  clear hg K2 t0 t1 HHV
  go_upto_if 43 with fail
  go_cut [] from 34 to 43 (fun wx => Hid (AgB w l p c T n d wx))
  case first =>
    cases pz with
    | true =>
      go_wp2_with fail
      go_meet
      exact K3
    | false =>
      go_wp2_with fail
      go_meet
      exact K3
  case rest =>
  have K4 := hcut
  clear K3 hcut
  go_wp2_with fail
  go_loopw [9] (fun x wr => ∃ i : Nat, i ≤ T.R.length ∧ x = .int .i64 (i : Int) ∧ Hid (AgB w l p c T n d wr)) (fun x _ => T.R.length - (RowKit.intOf x).toNat)
  case atStart => exact ⟨0, Nat.zero_le _, rfl, K4⟩
  case round =>
  obtain ⟨i, hi, rfl, K⟩ := hrel
  clear K4
  obtain ⟨wq, hwq⟩ : ∃ wq, wq = wr := ⟨_, rfl⟩
  rw [← hwq] at K ⊢
  clear hwq
  obtain ⟨t0, t1⟩ := row_cells K.out.t
  by_cases hlt : i < T.R.length
  · obtain ⟨-, g1, o1, e1, -, -⟩ := rdr_cells K.out.tg.r (by omega)
    obtain ⟨t, ht⟩ : ∃ t, T.R[i]? = some t := ⟨_, List.getElem?_eq_getElem hlt⟩
    have HTT := Lib.hid ht
    have HCN := Lib.hid (HV.out.con t (List.mem_of_getElem? ht))
    have HSV := Lib.hid (HV.out.same t (List.mem_of_getElem? ht))
    have HE1 := Lib.hid e1
    clear e1 ht
    go_upto_region 11 with fail
    clear t0 t1
    have HD := Lib.hid (grown_drew (grown_refl wq none))
    refine wp_region_held_drew (S := fun w' => Hid (wq.grownBy w' none)) (by kernel_rfl) (HD) (fun hHeld => ?_)
    generalize hwd : wq.drew = wd at *
    clear hwd
    refine wpAnyH_take (i := 0) (oi := { dst := some 51, op := Op.load 59 (Operand.tmp 6), type := 59, pos := "law.go:148", after := #[], guard := none }) (v := ?_) rfl (by kernel_rfl) (by kernel_rfl) (by kernel_rfl) (fun _ _ _ h => h) (Or.inl ⟨by rfl, ?_⟩) hHeld ?_
    rotate_left 1
    · intro u hSu
      have hO := K.out.keep hSu.out
      have c0 := cell_of_row _ _ 0 _ _ _ hO.b
      obtain ⟨t0, t1⟩ := row_cells hO.t
      have hrr := hO.tg.r
      rw [HE1.out] at hrr t0
      obtain ⟨r0, r1⟩ := rdr_at2 hrr HTT.out
      go_simp
      first | done | with_reducible rfl
    (try simp only [Act.put, List.setIfInBounds_toArray, List.set_cons_zero, List.set_cons_succ])
    refine wpAnyH_take (i := 1) (oi := { dst := some 52, op := Op.move (Operand.tmp 5), type := 3, pos := "law.go:148", after := #[], guard := none }) (v := ?_) rfl (by kernel_rfl) (by kernel_rfl) (by kernel_rfl) (fun _ _ _ h => h) (Or.inl ⟨by rfl, ?_⟩) hHeld ?_
    rotate_left 1
    · intro u hSu
      have hO := K.out.keep hSu.out
      have c0 := cell_of_row _ _ 0 _ _ _ hO.b
      obtain ⟨t0, t1⟩ := row_cells hO.t
      have hrr := hO.tg.r
      rw [HE1.out] at hrr t0
      obtain ⟨r0, r1⟩ := rdr_at2 hrr HTT.out
      go_simp
      first | done | with_reducible rfl
    (try simp only [Act.put, List.setIfInBounds_toArray, List.set_cons_zero, List.set_cons_succ])
    refine wpAnyH_take (i := 2) (oi := { dst := some 53, op := Op.fieldAddr 59 (Operand.tmp 6) 0, type := 0, pos := "law.go:148", after := #[], guard := none }) (v := ?_) rfl (by kernel_rfl) (by kernel_rfl) (by kernel_rfl) (fun _ _ _ h => h) (Or.inl ⟨by rfl, ?_⟩) hHeld ?_
    rotate_left 1
    · intro u hSu
      have hO := K.out.keep hSu.out
      have c0 := cell_of_row _ _ 0 _ _ _ hO.b
      obtain ⟨t0, t1⟩ := row_cells hO.t
      have hrr := hO.tg.r
      rw [HE1.out] at hrr t0
      obtain ⟨r0, r1⟩ := rdr_at2 hrr HTT.out
      go_simp
      first | done | with_reducible rfl
    (try simp only [Act.put, List.setIfInBounds_toArray, List.set_cons_zero, List.set_cons_succ])
    refine wpAnyH_take (i := 3) (oi := { dst := some 54, op := Op.load 56 (Operand.tmp 53), type := 56, pos := "law.go:148", after := #[{ on := 2, ground := Ground.data }], guard := none }) (v := ?_) rfl (by kernel_rfl) (by kernel_rfl) (by kernel_rfl) (fun _ _ _ h => h) (Or.inl ⟨by rfl, ?_⟩) hHeld ?_
    rotate_left 1
    · intro u hSu
      have hO := K.out.keep hSu.out
      have c0 := cell_of_row _ _ 0 _ _ _ hO.b
      obtain ⟨t0, t1⟩ := row_cells hO.t
      have hrr := hO.tg.r
      rw [HE1.out] at hrr t0
      obtain ⟨r0, r1⟩ := rdr_at2 hrr HTT.out
      go_simp
      first | done | with_reducible rfl
    (try simp only [Act.put, List.setIfInBounds_toArray, List.set_cons_zero, List.set_cons_succ])
    refine wpAnyH_take (i := 4) (oi := { dst := some 55, op := Op.move (Operand.tmp 9), type := 3, pos := "law.go:148", after := #[], guard := none }) (v := ?_) rfl (by kernel_rfl) (by kernel_rfl) (by kernel_rfl) (fun _ _ _ h => h) (Or.inl ⟨by rfl, ?_⟩) hHeld ?_
    rotate_left 1
    · intro u hSu
      have hO := K.out.keep hSu.out
      have c0 := cell_of_row _ _ 0 _ _ _ hO.b
      obtain ⟨t0, t1⟩ := row_cells hO.t
      have hrr := hO.tg.r
      rw [HE1.out] at hrr t0
      obtain ⟨r0, r1⟩ := rdr_at2 hrr HTT.out
      go_simp
      first | done | with_reducible rfl
    (try simp only [Act.put, List.setIfInBounds_toArray, List.set_cons_zero, List.set_cons_succ])
    refine wpAnyH_take (i := 5) (oi := { dst := some 56, op := Op.indexAddr 56 (Operand.tmp 54) (Operand.tmp 55), type := 0, pos := "law.go:148", after := #[{ on := 3, ground := Ground.data }, { on := 4, ground := Ground.data }], guard := none }) (v := ?_) rfl (by kernel_rfl) (by kernel_rfl) (by kernel_rfl) (fun _ _ _ h => h) (Or.inl ⟨by rfl, ?_⟩) hHeld ?_
    rotate_left 1
    · intro u hSu
      have hO := K.out.keep hSu.out
      have c0 := cell_of_row _ _ 0 _ _ _ hO.b
      obtain ⟨t0, t1⟩ := row_cells hO.t
      have hrr := hO.tg.r
      rw [HE1.out] at hrr t0
      obtain ⟨r0, r1⟩ := rdr_at2 hrr HTT.out
      go_simp
      first | done | with_reducible rfl
    (try simp only [Act.put, List.setIfInBounds_toArray, List.set_cons_zero, List.set_cons_succ])
    refine wpAnyH_take (i := 6) (oi := { dst := some 57, op := Op.fieldAddr 69 (Operand.tmp 56) 0, type := 0, pos := "law.go:148", after := #[{ on := 5, ground := Ground.data }], guard := none }) (v := ?_) rfl (by kernel_rfl) (by kernel_rfl) (by kernel_rfl) (fun _ _ _ h => h) (Or.inl ⟨by rfl, ?_⟩) hHeld ?_
    rotate_left 1
    · intro u hSu
      have hO := K.out.keep hSu.out
      have c0 := cell_of_row _ _ 0 _ _ _ hO.b
      obtain ⟨t0, t1⟩ := row_cells hO.t
      have hrr := hO.tg.r
      rw [HE1.out] at hrr t0
      obtain ⟨r0, r1⟩ := rdr_at2 hrr HTT.out
      go_simp
      first | done | with_reducible rfl
    (try simp only [Act.put, List.setIfInBounds_toArray, List.set_cons_zero, List.set_cons_succ])
    refine wpAnyH_take (i := 7) (oi := { dst := some 58, op := Op.load 3 (Operand.tmp 57), type := 3, pos := "law.go:148", after := #[{ on := 6, ground := Ground.data }], guard := none }) (v := ?_) rfl (by kernel_rfl) (by kernel_rfl) (by kernel_rfl) (fun _ _ _ h => h) (Or.inl ⟨by rfl, ?_⟩) hHeld ?_
    rotate_left 1
    · intro u hSu
      have hO := K.out.keep hSu.out
      have c0 := cell_of_row _ _ 0 _ _ _ hO.b
      obtain ⟨t0, t1⟩ := row_cells hO.t
      have hrr := hO.tg.r
      rw [HE1.out] at hrr t0
      obtain ⟨r0, r1⟩ := rdr_at2 hrr HTT.out
      go_simp
      first | done | with_reducible rfl
    (try simp only [Act.put, List.setIfInBounds_toArray, List.set_cons_zero, List.set_cons_succ])
    refine wpAnyH_ready (rs := [8]) (by kernel_rfl) (by simp) ?_
    refine AllReadyH.cons (o := { dst := some 59, op := Op.call { callee := Callee.value (Operand.func 38), args := #[Operand.tmp 51, Operand.tmp 52, Operand.tmp 58], argTypes := #[59, 3, 3] }, type := 4, pos := "law.go:148", after := #[{ on := 0, ground := Ground.data }, { on := 1, ground := Ground.data }, { on := 7, ground := Ground.data }], guard := none }) rfl (fun Kz hK => ?_) AllReadyH.nil
    go_simp
    go_at_call 38
    rw [← HE1.out]
    refine (rconn_any T r t.id _ _ (K.out.tg.keep hHeld.out)).mono ?_
    rintro e w5 ⟨rfl, hg⟩
    rw [HCN.out]
    have hHn := Lib.hid (grown_trans hHeld.out hg)
    clear hg
    refine hK.out _ _ (hHn) (fun hH2 => ?_)
    clear hK Kz hHeld
    have hHeld := hH2
    clear hH2
    (try simp only [Act.put, List.setIfInBounds_toArray, List.set_cons_zero, List.set_cons_succ])
    refine wpAnyH_take (i := 9) (oi := { dst := some 60, op := Op.unOp UnOp.not 4 (Operand.tmp 59), type := 4, pos := "law.go:148", after := #[{ on := 8, ground := Ground.data }], guard := none }) (v := ?_) rfl (by kernel_rfl) (by kernel_rfl) (by kernel_rfl) (fun _ _ _ h => h) (Or.inl ⟨by rfl, ?_⟩) hHeld ?_
    rotate_left 1
    · intro u hSu
      have hO := K.out.keep hSu.out
      have c0 := cell_of_row _ _ 0 _ _ _ hO.b
      obtain ⟨t0, t1⟩ := row_cells hO.t
      have hrr := hO.tg.r
      rw [HE1.out] at hrr t0
      obtain ⟨r0, r1⟩ := rdr_at2 hrr HTT.out
      go_simp
      first | done | with_reducible rfl
    (try simp only [Act.put, List.setIfInBounds_toArray, List.set_cons_zero, List.set_cons_succ])
    refine wpAnyH_take (i := 10) (oi := { dst := some 61, op := Op.move (Operand.tmp 60), type := 4, pos := "law.go:148", after := #[{ on := 9, ground := Ground.data }, { on := 8, ground := Ground.chain }], guard := none }) (v := ?_) rfl (by kernel_rfl) (by kernel_rfl) (by kernel_rfl) (fun _ _ _ h => h) (Or.inl ⟨by rfl, ?_⟩) hHeld ?_
    rotate_left 1
    · intro u hSu
      have hO := K.out.keep hSu.out
      have c0 := cell_of_row _ _ 0 _ _ _ hO.b
      obtain ⟨t0, t1⟩ := row_cells hO.t
      have hrr := hO.tg.r
      rw [HE1.out] at hrr t0
      obtain ⟨r0, r1⟩ := rdr_at2 hrr HTT.out
      go_simp
      first | done | with_reducible rfl
    (try simp only [Act.put, List.setIfInBounds_toArray, List.set_cons_zero, List.set_cons_succ])
    refine wpAnyH_take (i := 11) (oi := { dst := some 62, op := Op.load 25 (Operand.tmp 4), type := 25, pos := "law.go:148", after := #[{ on := 10, ground := Ground.guard }], guard := some (10, false) }) (v := ?_) rfl (by kernel_rfl) (by kernel_rfl) (by kernel_rfl) (fun _ _ _ h => h) (Or.inl ⟨by rfl, ?_⟩) hHeld ?_
    rotate_left 1
    · intro u hSu
      have hO := K.out.keep hSu.out
      have c0 := cell_of_row _ _ 0 _ _ _ hO.b
      obtain ⟨t0, t1⟩ := row_cells hO.t
      have hrr := hO.tg.r
      rw [HE1.out] at hrr t0
      obtain ⟨r0, r1⟩ := rdr_at2 hrr HTT.out
      go_simp
      first | done | with_reducible rfl
    (try simp only [Act.put, List.setIfInBounds_toArray, List.set_cons_zero, List.set_cons_succ])
    refine wpAnyH_take (i := 12) (oi := { dst := some 63, op := Op.fieldAddr 59 (Operand.tmp 6) 0, type := 0, pos := "law.go:148", after := #[{ on := 10, ground := Ground.guard }], guard := some (10, false) }) (v := ?_) rfl (by kernel_rfl) (by kernel_rfl) (by kernel_rfl) (fun _ _ _ h => h) (Or.inl ⟨by rfl, ?_⟩) hHeld ?_
    rotate_left 1
    · intro u hSu
      have hO := K.out.keep hSu.out
      have c0 := cell_of_row _ _ 0 _ _ _ hO.b
      obtain ⟨t0, t1⟩ := row_cells hO.t
      have hrr := hO.tg.r
      rw [HE1.out] at hrr t0
      obtain ⟨r0, r1⟩ := rdr_at2 hrr HTT.out
      go_simp
      first | done | with_reducible rfl
    (try simp only [Act.put, List.setIfInBounds_toArray, List.set_cons_zero, List.set_cons_succ])
    refine wpAnyH_take (i := 13) (oi := { dst := some 64, op := Op.load 56 (Operand.tmp 63), type := 56, pos := "law.go:148", after := #[{ on := 12, ground := Ground.data }, { on := 10, ground := Ground.guard }], guard := some (10, false) }) (v := ?_) rfl (by kernel_rfl) (by kernel_rfl) (by kernel_rfl) (fun _ _ _ h => h) (Or.inl ⟨by rfl, ?_⟩) hHeld ?_
    rotate_left 1
    · intro u hSu
      have hO := K.out.keep hSu.out
      have c0 := cell_of_row _ _ 0 _ _ _ hO.b
      obtain ⟨t0, t1⟩ := row_cells hO.t
      have hrr := hO.tg.r
      rw [HE1.out] at hrr t0
      obtain ⟨r0, r1⟩ := rdr_at2 hrr HTT.out
      go_simp
      first | done | with_reducible rfl
    (try simp only [Act.put, List.setIfInBounds_toArray, List.set_cons_zero, List.set_cons_succ])
    refine wpAnyH_take (i := 14) (oi := { dst := some 65, op := Op.move (Operand.tmp 9), type := 3, pos := "law.go:148", after := #[{ on := 10, ground := Ground.guard }], guard := some (10, false) }) (v := ?_) rfl (by kernel_rfl) (by kernel_rfl) (by kernel_rfl) (fun _ _ _ h => h) (Or.inl ⟨by rfl, ?_⟩) hHeld ?_
    rotate_left 1
    · intro u hSu
      have hO := K.out.keep hSu.out
      have c0 := cell_of_row _ _ 0 _ _ _ hO.b
      obtain ⟨t0, t1⟩ := row_cells hO.t
      have hrr := hO.tg.r
      rw [HE1.out] at hrr t0
      obtain ⟨r0, r1⟩ := rdr_at2 hrr HTT.out
      go_simp
      first | done | with_reducible rfl
    (try simp only [Act.put, List.setIfInBounds_toArray, List.set_cons_zero, List.set_cons_succ])
    refine wpAnyH_take (i := 15) (oi := { dst := some 66, op := Op.indexAddr 56 (Operand.tmp 64) (Operand.tmp 65), type := 0, pos := "law.go:148", after := #[{ on := 13, ground := Ground.data }, { on := 14, ground := Ground.data }, { on := 10, ground := Ground.guard }], guard := some (10, false) }) (v := ?_) rfl (by kernel_rfl) (by kernel_rfl) (by kernel_rfl) (fun _ _ _ h => h) (Or.inl ⟨by rfl, ?_⟩) hHeld ?_
    rotate_left 1
    · intro u hSu
      have hO := K.out.keep hSu.out
      have c0 := cell_of_row _ _ 0 _ _ _ hO.b
      obtain ⟨t0, t1⟩ := row_cells hO.t
      have hrr := hO.tg.r
      rw [HE1.out] at hrr t0
      obtain ⟨r0, r1⟩ := rdr_at2 hrr HTT.out
      go_simp
      first | done | with_reducible rfl
    (try simp only [Act.put, List.setIfInBounds_toArray, List.set_cons_zero, List.set_cons_succ])
    refine wpAnyH_take (i := 16) (oi := { dst := some 67, op := Op.fieldAddr 69 (Operand.tmp 66) 0, type := 0, pos := "law.go:148", after := #[{ on := 15, ground := Ground.data }, { on := 10, ground := Ground.guard }], guard := some (10, false) }) (v := ?_) rfl (by kernel_rfl) (by kernel_rfl) (by kernel_rfl) (fun _ _ _ h => h) (Or.inl ⟨by rfl, ?_⟩) hHeld ?_
    rotate_left 1
    · intro u hSu
      have hO := K.out.keep hSu.out
      have c0 := cell_of_row _ _ 0 _ _ _ hO.b
      obtain ⟨t0, t1⟩ := row_cells hO.t
      have hrr := hO.tg.r
      rw [HE1.out] at hrr t0
      obtain ⟨r0, r1⟩ := rdr_at2 hrr HTT.out
      go_simp
      first | done | with_reducible rfl
    (try simp only [Act.put, List.setIfInBounds_toArray, List.set_cons_zero, List.set_cons_succ])
    refine wpAnyH_take (i := 17) (oi := { dst := some 68, op := Op.load 3 (Operand.tmp 67), type := 3, pos := "law.go:148", after := #[{ on := 16, ground := Ground.data }, { on := 10, ground := Ground.guard }], guard := some (10, false) }) (v := ?_) rfl (by kernel_rfl) (by kernel_rfl) (by kernel_rfl) (fun _ _ _ h => h) (Or.inl ⟨by rfl, ?_⟩) hHeld ?_
    rotate_left 1
    · intro u hSu
      have hO := K.out.keep hSu.out
      have c0 := cell_of_row _ _ 0 _ _ _ hO.b
      obtain ⟨t0, t1⟩ := row_cells hO.t
      have hrr := hO.tg.r
      rw [HE1.out] at hrr t0
      obtain ⟨r0, r1⟩ := rdr_at2 hrr HTT.out
      go_simp
      first | done | with_reducible rfl
    (try simp only [Act.put, List.setIfInBounds_toArray, List.set_cons_zero, List.set_cons_succ])
    refine wpAnyH_take (i := 19) (oi := { dst := some 70, op := Op.load 59 (Operand.tmp 6), type := 59, pos := "law.go:148", after := #[{ on := 10, ground := Ground.guard }], guard := some (10, false) }) (v := ?_) rfl (by kernel_rfl) (by kernel_rfl) (by kernel_rfl) (fun _ _ _ h => h) (Or.inl ⟨by rfl, ?_⟩) hHeld ?_
    rotate_left 1
    · intro u hSu
      have hO := K.out.keep hSu.out
      have c0 := cell_of_row _ _ 0 _ _ _ hO.b
      obtain ⟨t0, t1⟩ := row_cells hO.t
      have hrr := hO.tg.r
      rw [HE1.out] at hrr t0
      obtain ⟨r0, r1⟩ := rdr_at2 hrr HTT.out
      go_simp
      first | done | with_reducible rfl
    (try simp only [Act.put, List.setIfInBounds_toArray, List.set_cons_zero, List.set_cons_succ])
    refine wpAnyH_ready (rs := [18]) (by kernel_rfl) (by simp) ?_
    refine AllReadyH.cons (o := { dst := some 69, op := Op.call { callee := Callee.value (Operand.func 34), args := #[Operand.tmp 62, Operand.tmp 68], argTypes := #[25, 3] }, type := 59, pos := "law.go:148", after := #[{ on := 11, ground := Ground.data }, { on := 17, ground := Ground.data }, { on := 10, ground := Ground.chain }, { on := 10, ground := Ground.guard }], guard := some (10, false) }) rfl (fun Kz hK => ?_) AllReadyH.nil
    go_simp
    go_at_call 34
    refine (dview_any l t.id p c _ _ (K.out.db.keep hHeld.out) (by omega)).mono ?_
    rintro e w6 ⟨U, rfl, hv, hok, hg⟩
    have hHn := Lib.hid (grown_trans hHeld.out hg)
    have HU := Lib.hid (And.intro (congrArg Prod.fst (hv.trans HSV.out)) (And.intro (congrArg Prod.snd (hv.trans HSV.out)) hok))
    clear hg hv hok
    refine hK.out _ _ (hHn) (fun hH2 => ?_)
    clear hK Kz hHeld
    have hHeld := hH2
    clear hH2
    (try simp only [Act.put, List.setIfInBounds_toArray, List.set_cons_zero, List.set_cons_succ])
    refine wpAnyH_ready (rs := [20]) (by kernel_rfl) (by simp) ?_
    refine AllReadyH.cons (o := { dst := some 71, op := Op.call { callee := Callee.value (Operand.func 33), args := #[Operand.tmp 69, Operand.tmp 70], argTypes := #[59, 59] }, type := 4, pos := "law.go:148", after := #[{ on := 18, ground := Ground.data }, { on := 19, ground := Ground.data }, { on := 18, ground := Ground.chain }, { on := 10, ground := Ground.guard }], guard := some (10, false) }) rfl (fun Kz hK => ?_) AllReadyH.nil
    go_simp
    go_at_call 33
    rw [← HE1.out]
    refine (rsameT_any U T HU.out.1.symm HU.out.2.1.symm _ _ _ HU.out.2.2 (K.out.tg.keep hHeld.out)).mono ?_
    rintro e w7 ⟨rfl, hg⟩
    have hHn := Lib.hid (grown_trans hHeld.out hg)
    clear hg HU
    refine hK.out _ _ (hHn) (fun hH2 => ?_)
    clear hK Kz hHeld
    have hHeld := hH2
    clear hH2
    (try simp only [Act.put, List.setIfInBounds_toArray, List.set_cons_zero, List.set_cons_succ])
    refine wpAnyH_take (i := 21) (oi := { dst := some 72, op := Op.unOp UnOp.not 4 (Operand.tmp 71), type := 4, pos := "law.go:148", after := #[{ on := 20, ground := Ground.data }, { on := 10, ground := Ground.guard }], guard := some (10, false) }) (v := ?_) rfl (by kernel_rfl) (by kernel_rfl) (by kernel_rfl) (fun _ _ _ h => h) (Or.inl ⟨by rfl, ?_⟩) hHeld ?_
    rotate_left 1
    · intro u hSu
      have hO := K.out.keep hSu.out
      have c0 := cell_of_row _ _ 0 _ _ _ hO.b
      obtain ⟨t0, t1⟩ := row_cells hO.t
      have hrr := hO.tg.r
      rw [HE1.out] at hrr t0
      obtain ⟨r0, r1⟩ := rdr_at2 hrr HTT.out
      go_simp
      first | done | with_reducible rfl
    (try simp only [Act.put, List.setIfInBounds_toArray, List.set_cons_zero, List.set_cons_succ])
    refine wpAnyH_take (i := 22) (oi := { dst := some 73, op := Op.pick (Operand.tmp 61) (Operand.const (Value.bool true)) (Operand.tmp 72), type := 4, pos := "law.go:148", after := #[{ on := 10, ground := Ground.data }, { on := 21, ground := Ground.data }], guard := none }) (v := ?_) rfl (by kernel_rfl) (by kernel_rfl) (by kernel_rfl) (fun _ _ _ h => h) (Or.inl ⟨by rfl, ?_⟩) hHeld ?_
    rotate_left 1
    · intro u hSu
      have hO := K.out.keep hSu.out
      have c0 := cell_of_row _ _ 0 _ _ _ hO.b
      obtain ⟨t0, t1⟩ := row_cells hO.t
      have hrr := hO.tg.r
      rw [HE1.out] at hrr t0
      obtain ⟨r0, r1⟩ := rdr_at2 hrr HTT.out
      go_simp
      first | done | with_reducible rfl
    (try simp only [Act.put, List.setIfInBounds_toArray, List.set_cons_zero, List.set_cons_succ])
    refine wpAnyH_done (by kernel_rfl) ?_ _
    have KN := Lib.hid (K.out.keep hHeld.out)
    clear hHeld HD HCN HSV HE1 HTT K
    go_wp2_with fail
    exact ⟨⟨i + 1, by omega, congrArg _ (by omega), KN⟩, by simp only [RowKit.intOf]; omega⟩
  · obtain rfl : i = T.R.length := by omega
    go_upto_block 2 with fail
    clear t0 t1
    go_wp2_with fail
    go_loopw [10] (fun x wr => ∃ i : Nat, i ≤ T.L.length ∧ x = .int .i64 (i : Int) ∧ Hid (AgB w l p c T n d wr)) (fun x _ => T.L.length - (RowKit.intOf x).toNat)
    case atStart => exact ⟨0, Nat.zero_le _, rfl, K⟩
    case round =>
    obtain ⟨k, hk, rfl, K⟩ := hrel
    obtain ⟨wq, hwq⟩ : ∃ wq, wq = wr := ⟨_, rfl⟩
    rw [← hwq] at K ⊢
    clear hwq
    obtain ⟨t0, t1⟩ := row_cells K.out.t
    by_cases hlt : k < T.L.length
    · obtain ⟨-, g1, o1, e1, -, -⟩ := rdl_cells K.out.tg.l (by omega)
      obtain ⟨m, hm⟩ : ∃ m, T.L[k]? = some m := ⟨_, List.getElem?_eq_getElem hlt⟩
      obtain ⟨A, B, hfa, hfb, ⟨x, hx, hxc⟩, y, hy, hyc⟩ := HV.out.lk m (List.mem_of_getElem? hm)
      have HTT := Lib.hid hm
      have HFA := Lib.hid (And.intro hfa (And.intro hx hxc))
      have HFB := Lib.hid (And.intro hfb (And.intro hy hyc))
      have HE1 := Lib.hid e1
      clear e1 hm hfa hfb hx hxc hy hyc
      go_upto_region 16 with fail
      clear t0 t1
      go_cut [11, 12] from 81 to 91 (fun u _ wx => ∃ (b : Nat) (A1 : Ad), u = .pointer (some ⟨b, 0, none⟩) ∧ Hid (A1.L = A.L ∧ AB b A1 wx ∧ wq.grownBy wx none))
      case first =>
        have HD := Lib.hid (grown_drew (grown_refl wq none))
        refine wp_region_held_drew (S := fun w' => Hid (wq.grownBy w' none)) (by kernel_rfl) (HD) (fun hHeld => ?_)
        generalize hwd : wq.drew = wd at *
        clear hwd
        refine wpAnyH_take (i := 0) (oi := { dst := some 82, op := Op.load 25 (Operand.tmp 4), type := 25, pos := "law.go:153", after := #[], guard := none }) (v := ?_) rfl (by kernel_rfl) (by kernel_rfl) (by kernel_rfl) (fun _ _ _ h => h) (Or.inl ⟨by rfl, ?_⟩) hHeld ?_
        rotate_left 1
        · intro u hSu
          have hO := K.out.keep hSu.out
          have c0 := cell_of_row _ _ 0 _ _ _ hO.b
          obtain ⟨t0, t1⟩ := row_cells hO.t
          have hll := hO.tg.l
          rw [HE1.out] at hll t1
          obtain ⟨r0, r1, r2, r3⟩ := rdl_at2 hll HTT.out
          go_simp
          first | done | with_reducible rfl
        (try simp only [Act.put, List.setIfInBounds_toArray, List.set_cons_zero, List.set_cons_succ])
        refine wpAnyH_take (i := 1) (oi := { dst := some 83, op := Op.fieldAddr 59 (Operand.tmp 6) 1, type := 0, pos := "law.go:153", after := #[], guard := none }) (v := ?_) rfl (by kernel_rfl) (by kernel_rfl) (by kernel_rfl) (fun _ _ _ h => h) (Or.inl ⟨by rfl, ?_⟩) hHeld ?_
        rotate_left 1
        · intro u hSu
          have hO := K.out.keep hSu.out
          have c0 := cell_of_row _ _ 0 _ _ _ hO.b
          obtain ⟨t0, t1⟩ := row_cells hO.t
          have hll := hO.tg.l
          rw [HE1.out] at hll t1
          obtain ⟨r0, r1, r2, r3⟩ := rdl_at2 hll HTT.out
          go_simp
          first | done | with_reducible rfl
        (try simp only [Act.put, List.setIfInBounds_toArray, List.set_cons_zero, List.set_cons_succ])
        refine wpAnyH_take (i := 2) (oi := { dst := some 84, op := Op.load 57 (Operand.tmp 83), type := 57, pos := "law.go:153", after := #[{ on := 1, ground := Ground.data }], guard := none }) (v := ?_) rfl (by kernel_rfl) (by kernel_rfl) (by kernel_rfl) (fun _ _ _ h => h) (Or.inl ⟨by rfl, ?_⟩) hHeld ?_
        rotate_left 1
        · intro u hSu
          have hO := K.out.keep hSu.out
          have c0 := cell_of_row _ _ 0 _ _ _ hO.b
          obtain ⟨t0, t1⟩ := row_cells hO.t
          have hll := hO.tg.l
          rw [HE1.out] at hll t1
          obtain ⟨r0, r1, r2, r3⟩ := rdl_at2 hll HTT.out
          go_simp
          first | done | with_reducible rfl
        (try simp only [Act.put, List.setIfInBounds_toArray, List.set_cons_zero, List.set_cons_succ])
        refine wpAnyH_take (i := 3) (oi := { dst := some 85, op := Op.move (Operand.tmp 10), type := 3, pos := "law.go:153", after := #[], guard := none }) (v := ?_) rfl (by kernel_rfl) (by kernel_rfl) (by kernel_rfl) (fun _ _ _ h => h) (Or.inl ⟨by rfl, ?_⟩) hHeld ?_
        rotate_left 1
        · intro u hSu
          have hO := K.out.keep hSu.out
          have c0 := cell_of_row _ _ 0 _ _ _ hO.b
          obtain ⟨t0, t1⟩ := row_cells hO.t
          have hll := hO.tg.l
          rw [HE1.out] at hll t1
          obtain ⟨r0, r1, r2, r3⟩ := rdl_at2 hll HTT.out
          go_simp
          first | done | with_reducible rfl
        (try simp only [Act.put, List.setIfInBounds_toArray, List.set_cons_zero, List.set_cons_succ])
        refine wpAnyH_take (i := 4) (oi := { dst := some 86, op := Op.indexAddr 57 (Operand.tmp 84) (Operand.tmp 85), type := 0, pos := "law.go:153", after := #[{ on := 2, ground := Ground.data }, { on := 3, ground := Ground.data }], guard := none }) (v := ?_) rfl (by kernel_rfl) (by kernel_rfl) (by kernel_rfl) (fun _ _ _ h => h) (Or.inl ⟨by rfl, ?_⟩) hHeld ?_
        rotate_left 1
        · intro u hSu
          have hO := K.out.keep hSu.out
          have c0 := cell_of_row _ _ 0 _ _ _ hO.b
          obtain ⟨t0, t1⟩ := row_cells hO.t
          have hll := hO.tg.l
          rw [HE1.out] at hll t1
          obtain ⟨r0, r1, r2, r3⟩ := rdl_at2 hll HTT.out
          go_simp
          first | done | with_reducible rfl
        (try simp only [Act.put, List.setIfInBounds_toArray, List.set_cons_zero, List.set_cons_succ])
        refine wpAnyH_take (i := 5) (oi := { dst := some 87, op := Op.fieldAddr 71 (Operand.tmp 86) 0, type := 0, pos := "law.go:153", after := #[{ on := 4, ground := Ground.data }], guard := none }) (v := ?_) rfl (by kernel_rfl) (by kernel_rfl) (by kernel_rfl) (fun _ _ _ h => h) (Or.inl ⟨by rfl, ?_⟩) hHeld ?_
        rotate_left 1
        · intro u hSu
          have hO := K.out.keep hSu.out
          have c0 := cell_of_row _ _ 0 _ _ _ hO.b
          obtain ⟨t0, t1⟩ := row_cells hO.t
          have hll := hO.tg.l
          rw [HE1.out] at hll t1
          obtain ⟨r0, r1, r2, r3⟩ := rdl_at2 hll HTT.out
          go_simp
          first | done | with_reducible rfl
        (try simp only [Act.put, List.setIfInBounds_toArray, List.set_cons_zero, List.set_cons_succ])
        refine wpAnyH_take (i := 6) (oi := { dst := some 88, op := Op.load 3 (Operand.tmp 87), type := 3, pos := "law.go:153", after := #[{ on := 5, ground := Ground.data }], guard := none }) (v := ?_) rfl (by kernel_rfl) (by kernel_rfl) (by kernel_rfl) (fun _ _ _ h => h) (Or.inl ⟨by rfl, ?_⟩) hHeld ?_
        rotate_left 1
        · intro u hSu
          have hO := K.out.keep hSu.out
          have c0 := cell_of_row _ _ 0 _ _ _ hO.b
          obtain ⟨t0, t1⟩ := row_cells hO.t
          have hll := hO.tg.l
          rw [HE1.out] at hll t1
          obtain ⟨r0, r1, r2, r3⟩ := rdl_at2 hll HTT.out
          go_simp
          first | done | with_reducible rfl
        (try simp only [Act.put, List.setIfInBounds_toArray, List.set_cons_zero, List.set_cons_succ])
        refine wpAnyH_ready (rs := [7, 11]) (by kernel_rfl) (by simp) ?_
        refine AllReadyH.cons (o := { dst := some 89, op := Op.call { callee := Callee.value (Operand.func 20), args := #[Operand.tmp 82, Operand.tmp 88], argTypes := #[25, 3] }, type := 39, pos := "law.go:153", after := #[{ on := 0, ground := Ground.data }, { on := 6, ground := Ground.data }], guard := none }) rfl (fun Kz hK => ?_) (AllReadyH.cons (o := { dst := some 11, op := Op.alloc 38, type := 0, pos := "law.go:153", after := #[], guard := none }) rfl (fun Kz hK => ?_) AllReadyH.nil)
        · go_simp
          go_at_call 20
          refine (rfind_any l m.a p c _ _ ((K.out.db.old).keep hHeld.out) (by omega)).mono ?_
          rintro e w5 ⟨A1, rfl, hsm, hok, hg⟩
          obtain ⟨pz9, hpz⟩ : ∃ z, (fndA l m.a).isSome = z := ⟨_, rfl⟩
          rw [hpz]
          rw [HFA.out.1] at hsm
          have HA := Lib.hid (And.intro hsm hok)
          have hHn := Lib.hid (grown_trans hHeld.out hg)
          try replace HS9 := Lib.hid (show ∀ b, b = _ → _ from fun b hb => (HS9.out b hb).keep hg)
          clear hg hsm hok hpz
          refine hK.out _ _ (hHn) (fun hH2 => ?_)
          clear hK Kz hHeld
          have hHeld := hH2
          clear hH2
          (try simp only [Act.put, List.setIfInBounds_toArray, List.set_cons_zero, List.set_cons_succ])
          refine wpAnyH_take (i := 8) (oi := { dst := some 81, op := Op.move (Operand.tmp 89), type := 39, pos := "law.go:153", after := #[{ on := 7, ground := Ground.data }], guard := none }) (v := ?_) rfl (by kernel_rfl) (by kernel_rfl) (by kernel_rfl) (fun _ _ _ h => h) (Or.inl ⟨by rfl, ?_⟩) hHeld ?_
          rotate_left 1
          · intro u hSu
            have hO := K.out.keep hSu.out
            have c0 := cell_of_row _ _ 0 _ _ _ hO.b
            obtain ⟨t0, t1⟩ := row_cells hO.t
            have hll := hO.tg.l
            rw [HE1.out] at hll t1
            obtain ⟨r0, r1, r2, r3⟩ := rdl_at2 hll HTT.out
            go_simp
            first | done | with_reducible rfl
          (try simp only [Act.put, List.setIfInBounds_toArray, List.set_cons_zero, List.set_cons_succ])
          refine wpAnyH_take (i := 9) (oi := { dst := some 90, op := Op.extract (Operand.tmp 81) 0, type := 38, pos := "law.go:153", after := #[{ on := 8, ground := Ground.data }], guard := none }) (v := ?_) rfl (by kernel_rfl) (by kernel_rfl) (by kernel_rfl) (fun _ _ _ h => h) (Or.inl ⟨by rfl, ?_⟩) hHeld ?_
          rotate_left 1
          · intro u hSu
            have hO := K.out.keep hSu.out
            have c0 := cell_of_row _ _ 0 _ _ _ hO.b
            obtain ⟨t0, t1⟩ := row_cells hO.t
            have hll := hO.tg.l
            rw [HE1.out] at hll t1
            obtain ⟨r0, r1, r2, r3⟩ := rdl_at2 hll HTT.out
            go_simp
            first | done | with_reducible rfl
          (try simp only [Act.put, List.setIfInBounds_toArray, List.set_cons_zero, List.set_cons_succ])
          refine wpAnyH_take (i := 10) (oi := { dst := some 91, op := Op.extract (Operand.tmp 81) 1, type := 4, pos := "law.go:153", after := #[{ on := 8, ground := Ground.data }, { on := 12, ground := Ground.gcOnly Departure.lateStores }], guard := none }) (v := ?_) rfl (by kernel_rfl) (by kernel_rfl) (by kernel_rfl) (fun _ _ _ h => h) (Or.inl ⟨by rfl, ?_⟩) hHeld ?_
          rotate_left 1
          · intro u hSu
            have hO := K.out.keep hSu.out
            have c0 := cell_of_row _ _ 0 _ _ _ hO.b
            obtain ⟨t0, t1⟩ := row_cells hO.t
            have hll := hO.tg.l
            rw [HE1.out] at hll t1
            obtain ⟨r0, r1, r2, r3⟩ := rdl_at2 hll HTT.out
            go_simp
            first | done | with_reducible rfl
          (try simp only [Act.put, List.setIfInBounds_toArray, List.set_cons_zero, List.set_cons_succ])
          refine wpAnyH_ready (rs := [11]) (by kernel_rfl) (by simp) ?_
          refine AllReadyH.cons (o := { dst := some 11, op := Op.alloc 38, type := 0, pos := "law.go:153", after := #[], guard := none }) rfl (fun Kz hK => ?_) AllReadyH.nil
          go_simp
          try replace HA := Lib.hid (And.intro HA.out.1 (HA.out.2.keep (World.grownBy_alloc _ (.cells #[.int .i64 0, .int .i64 0, .bool false, .slice none 0 0, .slice none 0 0] 38) none)))
          have HSN := nx_start #[.int .i64 0, .int .i64 0, .bool false, .slice none 0 0, .slice none 0 0] 38 hHeld.out
          have hHn := Lib.hid (grown_trans hHeld.out (World.grownBy_alloc _ (.cells #[.int .i64 0, .int .i64 0, .bool false, .slice none 0 0, .slice none 0 0] 38) none))
          have HS9 := Lib.hid HSN
          clear HSN
          generalize hwa : World.alloc _ _ = wA at *
          clear hwa
          refine hK.out _ _ (hHn) (fun hH2 => ?_)
          clear hK Kz hHeld
          have hHeld := hH2
          clear hH2
          (try simp only [Act.put, List.setIfInBounds_toArray, List.set_cons_zero, List.set_cons_succ])
          refine wpAnyH_ready (rs := [12]) (by kernel_rfl) (by simp) ?_
          refine AllReadyH.cons (o := { dst := none, op := Op.store 38 (Operand.tmp 11) (Operand.tmp 90), type := 0, pos := "law.go:153", after := #[{ on := 11, ground := Ground.data }, { on := 9, ground := Ground.data }, { on := 7, ground := Ground.chain }, { on := 0, ground := Ground.phase }, { on := 1, ground := Ground.phase }, { on := 2, ground := Ground.phase }, { on := 3, ground := Ground.phase }, { on := 4, ground := Ground.phase }, { on := 5, ground := Ground.phase }, { on := 6, ground := Ground.phase }, { on := 7, ground := Ground.phase }, { on := 8, ground := Ground.phase }, { on := 9, ground := Ground.phase }, { on := 10, ground := Ground.textOnly Departure.lateStores }, { on := 11, ground := Ground.phase }], guard := none }) rfl (fun Kz hK => ?_) AllReadyH.nil
          have hna := HS9.out _ rfl
          obtain ⟨k0, k1, k2, k3, k4⟩ := row5 hna.ab
          have f0 := frozen_of_row _ _ 0 _ _ hna.ab
          have f1 := frozen_of_row _ _ 1 _ _ hna.ab
          have f2 := frozen_of_row _ _ 2 _ _ hna.ab
          have f3 := frozen_of_row _ _ 3 _ _ hna.ab
          have f4 := frozen_of_row _ _ 4 _ _ hna.ab
          obtain ⟨s1, s2⟩ := store5 (.int .i64 A1.r) (.int .i64 A1.q) (.bool A1.cp) (.slice A1.pL A1.L.length A1.cL) (.slice A1.pC A1.C.length A1.cC) hna.ab
          have HE : Hid (A1.L = A.L ∧ AB _ A1 _ ∧ wq.grownBy _ none) := Lib.hid ⟨HA.out.1.2.2.2.1, ⟨s1, (HA.out.2.grown s2 (fun x hx e => by have h9 := Option.some.inj e; have := hna.lo; omega)).mono (fun _ _ => trivial)⟩, grown_new hHeld.out s2 hna.lo⟩
          go_simp
          clear k0 k1 k2 k3 k4 f0 f1 f2 f3 f4 s1 s2 hna
          refine hK.out _ _ (Lib.hid HE.out.2.2) (fun hH2 => ?_)
          clear hK Kz hHeld
          have hHeld := hH2
          clear hH2
          (try simp only [Act.put, List.setIfInBounds_toArray, List.set_cons_zero, List.set_cons_succ])
          refine wpAnyH_take (i := 13) (oi := { dst := some 12, op := Op.assign (Operand.tmp 91), type := 4, pos := "law.go:153", after := #[{ on := 10, ground := Ground.data }, { on := 12, ground := Ground.chain }, { on := 0, ground := Ground.phase }, { on := 1, ground := Ground.phase }, { on := 2, ground := Ground.phase }, { on := 3, ground := Ground.phase }, { on := 4, ground := Ground.phase }, { on := 5, ground := Ground.phase }, { on := 6, ground := Ground.phase }, { on := 7, ground := Ground.phase }, { on := 8, ground := Ground.phase }, { on := 9, ground := Ground.phase }, { on := 10, ground := Ground.phase }, { on := 11, ground := Ground.phase }, { on := 12, ground := Ground.phase }], guard := none }) (v := ?_) rfl (by kernel_rfl) (by kernel_rfl) (by kernel_rfl) (fun _ _ _ h => h) (Or.inl ⟨by rfl, ?_⟩) hHeld ?_
          rotate_left 1
          · intro u hSu
            have hO := K.out.keep hSu.out
            have c0 := cell_of_row _ _ 0 _ _ _ hO.b
            obtain ⟨t0, t1⟩ := row_cells hO.t
            have hll := hO.tg.l
            rw [HE1.out] at hll t1
            obtain ⟨r0, r1, r2, r3⟩ := rdl_at2 hll HTT.out
            go_simp
            first | done | with_reducible rfl
          (try simp only [Act.put, List.setIfInBounds_toArray, List.set_cons_zero, List.set_cons_succ])
          refine wpAnyH_done (by kernel_rfl) ?_ _
          clear HD hHeld hHn HS9
          go_wp2_with fail
          go_meet
          exact ⟨_, A1, rfl, HE⟩
        · go_simp
          try replace HA := Lib.hid (And.intro HA.out.1 (HA.out.2.keep (World.grownBy_alloc _ (.cells #[.int .i64 0, .int .i64 0, .bool false, .slice none 0 0, .slice none 0 0] 38) none)))
          have HSN := nx_start #[.int .i64 0, .int .i64 0, .bool false, .slice none 0 0, .slice none 0 0] 38 hHeld.out
          have hHn := Lib.hid (grown_trans hHeld.out (World.grownBy_alloc _ (.cells #[.int .i64 0, .int .i64 0, .bool false, .slice none 0 0, .slice none 0 0] 38) none))
          have HS9 := Lib.hid HSN
          clear HSN
          generalize hwa : World.alloc _ _ = wA at *
          clear hwa
          refine hK.out _ _ (hHn) (fun hH2 => ?_)
          clear hK Kz hHeld
          have hHeld := hH2
          clear hH2
          (try simp only [Act.put, List.setIfInBounds_toArray, List.set_cons_zero, List.set_cons_succ])
          refine wpAnyH_ready (rs := [7]) (by kernel_rfl) (by simp) ?_
          refine AllReadyH.cons (o := { dst := some 89, op := Op.call { callee := Callee.value (Operand.func 20), args := #[Operand.tmp 82, Operand.tmp 88], argTypes := #[25, 3] }, type := 39, pos := "law.go:153", after := #[{ on := 0, ground := Ground.data }, { on := 6, ground := Ground.data }], guard := none }) rfl (fun Kz hK => ?_) AllReadyH.nil
          go_simp
          go_at_call 20
          refine (rfind_any l m.a p c _ _ ((K.out.db.old).keep hHeld.out) (by omega)).mono ?_
          rintro e w5 ⟨A1, rfl, hsm, hok, hg⟩
          obtain ⟨pz9, hpz⟩ : ∃ z, (fndA l m.a).isSome = z := ⟨_, rfl⟩
          rw [hpz]
          rw [HFA.out.1] at hsm
          have HA := Lib.hid (And.intro hsm hok)
          have hHn := Lib.hid (grown_trans hHeld.out hg)
          try replace HS9 := Lib.hid (show ∀ b, b = _ → _ from fun b hb => (HS9.out b hb).keep hg)
          clear hg hsm hok hpz
          refine hK.out _ _ (hHn) (fun hH2 => ?_)
          clear hK Kz hHeld
          have hHeld := hH2
          clear hH2
          (try simp only [Act.put, List.setIfInBounds_toArray, List.set_cons_zero, List.set_cons_succ])
          refine wpAnyH_take (i := 8) (oi := { dst := some 81, op := Op.move (Operand.tmp 89), type := 39, pos := "law.go:153", after := #[{ on := 7, ground := Ground.data }], guard := none }) (v := ?_) rfl (by kernel_rfl) (by kernel_rfl) (by kernel_rfl) (fun _ _ _ h => h) (Or.inl ⟨by rfl, ?_⟩) hHeld ?_
          rotate_left 1
          · intro u hSu
            have hO := K.out.keep hSu.out
            have c0 := cell_of_row _ _ 0 _ _ _ hO.b
            obtain ⟨t0, t1⟩ := row_cells hO.t
            have hll := hO.tg.l
            rw [HE1.out] at hll t1
            obtain ⟨r0, r1, r2, r3⟩ := rdl_at2 hll HTT.out
            go_simp
            first | done | with_reducible rfl
          (try simp only [Act.put, List.setIfInBounds_toArray, List.set_cons_zero, List.set_cons_succ])
          refine wpAnyH_take (i := 9) (oi := { dst := some 90, op := Op.extract (Operand.tmp 81) 0, type := 38, pos := "law.go:153", after := #[{ on := 8, ground := Ground.data }], guard := none }) (v := ?_) rfl (by kernel_rfl) (by kernel_rfl) (by kernel_rfl) (fun _ _ _ h => h) (Or.inl ⟨by rfl, ?_⟩) hHeld ?_
          rotate_left 1
          · intro u hSu
            have hO := K.out.keep hSu.out
            have c0 := cell_of_row _ _ 0 _ _ _ hO.b
            obtain ⟨t0, t1⟩ := row_cells hO.t
            have hll := hO.tg.l
            rw [HE1.out] at hll t1
            obtain ⟨r0, r1, r2, r3⟩ := rdl_at2 hll HTT.out
            go_simp
            first | done | with_reducible rfl
          (try simp only [Act.put, List.setIfInBounds_toArray, List.set_cons_zero, List.set_cons_succ])
          refine wpAnyH_take (i := 10) (oi := { dst := some 91, op := Op.extract (Operand.tmp 81) 1, type := 4, pos := "law.go:153", after := #[{ on := 8, ground := Ground.data }, { on := 12, ground := Ground.gcOnly Departure.lateStores }], guard := none }) (v := ?_) rfl (by kernel_rfl) (by kernel_rfl) (by kernel_rfl) (fun _ _ _ h => h) (Or.inl ⟨by rfl, ?_⟩) hHeld ?_
          rotate_left 1
          · intro u hSu
            have hO := K.out.keep hSu.out
            have c0 := cell_of_row _ _ 0 _ _ _ hO.b
            obtain ⟨t0, t1⟩ := row_cells hO.t
            have hll := hO.tg.l
            rw [HE1.out] at hll t1
            obtain ⟨r0, r1, r2, r3⟩ := rdl_at2 hll HTT.out
            go_simp
            first | done | with_reducible rfl
          (try simp only [Act.put, List.setIfInBounds_toArray, List.set_cons_zero, List.set_cons_succ])
          refine wpAnyH_ready (rs := [12]) (by kernel_rfl) (by simp) ?_
          refine AllReadyH.cons (o := { dst := none, op := Op.store 38 (Operand.tmp 11) (Operand.tmp 90), type := 0, pos := "law.go:153", after := #[{ on := 11, ground := Ground.data }, { on := 9, ground := Ground.data }, { on := 7, ground := Ground.chain }, { on := 0, ground := Ground.phase }, { on := 1, ground := Ground.phase }, { on := 2, ground := Ground.phase }, { on := 3, ground := Ground.phase }, { on := 4, ground := Ground.phase }, { on := 5, ground := Ground.phase }, { on := 6, ground := Ground.phase }, { on := 7, ground := Ground.phase }, { on := 8, ground := Ground.phase }, { on := 9, ground := Ground.phase }, { on := 10, ground := Ground.textOnly Departure.lateStores }, { on := 11, ground := Ground.phase }], guard := none }) rfl (fun Kz hK => ?_) AllReadyH.nil
          have hna := HS9.out _ rfl
          obtain ⟨k0, k1, k2, k3, k4⟩ := row5 hna.ab
          have f0 := frozen_of_row _ _ 0 _ _ hna.ab
          have f1 := frozen_of_row _ _ 1 _ _ hna.ab
          have f2 := frozen_of_row _ _ 2 _ _ hna.ab
          have f3 := frozen_of_row _ _ 3 _ _ hna.ab
          have f4 := frozen_of_row _ _ 4 _ _ hna.ab
          obtain ⟨s1, s2⟩ := store5 (.int .i64 A1.r) (.int .i64 A1.q) (.bool A1.cp) (.slice A1.pL A1.L.length A1.cL) (.slice A1.pC A1.C.length A1.cC) hna.ab
          have HE : Hid (A1.L = A.L ∧ AB _ A1 _ ∧ wq.grownBy _ none) := Lib.hid ⟨HA.out.1.2.2.2.1, ⟨s1, (HA.out.2.grown s2 (fun x hx e => by have h9 := Option.some.inj e; have := hna.lo; omega)).mono (fun _ _ => trivial)⟩, grown_new hHeld.out s2 hna.lo⟩
          go_simp
          clear k0 k1 k2 k3 k4 f0 f1 f2 f3 f4 s1 s2 hna
          refine hK.out _ _ (Lib.hid HE.out.2.2) (fun hH2 => ?_)
          clear hK Kz hHeld
          have hHeld := hH2
          clear hH2
          (try simp only [Act.put, List.setIfInBounds_toArray, List.set_cons_zero, List.set_cons_succ])
          refine wpAnyH_take (i := 13) (oi := { dst := some 12, op := Op.assign (Operand.tmp 91), type := 4, pos := "law.go:153", after := #[{ on := 10, ground := Ground.data }, { on := 12, ground := Ground.chain }, { on := 0, ground := Ground.phase }, { on := 1, ground := Ground.phase }, { on := 2, ground := Ground.phase }, { on := 3, ground := Ground.phase }, { on := 4, ground := Ground.phase }, { on := 5, ground := Ground.phase }, { on := 6, ground := Ground.phase }, { on := 7, ground := Ground.phase }, { on := 8, ground := Ground.phase }, { on := 9, ground := Ground.phase }, { on := 10, ground := Ground.phase }, { on := 11, ground := Ground.phase }, { on := 12, ground := Ground.phase }], guard := none }) (v := ?_) rfl (by kernel_rfl) (by kernel_rfl) (by kernel_rfl) (fun _ _ _ h => h) (Or.inl ⟨by rfl, ?_⟩) hHeld ?_
          rotate_left 1
          · intro u hSu
            have hO := K.out.keep hSu.out
            have c0 := cell_of_row _ _ 0 _ _ _ hO.b
            obtain ⟨t0, t1⟩ := row_cells hO.t
            have hll := hO.tg.l
            rw [HE1.out] at hll t1
            obtain ⟨r0, r1, r2, r3⟩ := rdl_at2 hll HTT.out
            go_simp
            first | done | with_reducible rfl
          (try simp only [Act.put, List.setIfInBounds_toArray, List.set_cons_zero, List.set_cons_succ])
          refine wpAnyH_done (by kernel_rfl) ?_ _
          clear HD hHeld hHn HS9
          go_wp2_with fail
          go_meet
          exact ⟨_, A1, rfl, HE⟩
      case rest =>
      obtain ⟨b1, A1, rfl, HA1⟩ := hcut
      have K1 := Lib.hid (And.intro (K.out.keep HA1.out.2.2) HA1.out.2.1)
      have HR1 := Lib.hid (And.intro (rc_same HA1.out.1 HFA.out.2.1) HFA.out.2.2)
      clear K HA1 HFA wq
      rename World => wq
      go_upto_region 17 with fail
      go_cut [13, 14] from 92 to 102 (fun u _ wx => ∃ (b : Nat) (A1 : Ad), u = .pointer (some ⟨b, 0, none⟩) ∧ Hid (A1.L = B.L ∧ AB b A1 wx ∧ wq.grownBy wx none))
      case first =>
        have HD := Lib.hid (grown_drew (grown_refl wq none))
        refine wp_region_held_drew (S := fun w' => Hid (wq.grownBy w' none)) (by kernel_rfl) (HD) (fun hHeld => ?_)
        generalize hwd : wq.drew = wd at *
        clear hwd
        refine wpAnyH_take (i := 0) (oi := { dst := some 93, op := Op.load 25 (Operand.tmp 4), type := 25, pos := "law.go:154", after := #[], guard := none }) (v := ?_) rfl (by kernel_rfl) (by kernel_rfl) (by kernel_rfl) (fun _ _ _ h => h) (Or.inl ⟨by rfl, ?_⟩) hHeld ?_
        rotate_left 1
        · intro u hSu
          have hO := K1.out.1.keep hSu.out
          have c0 := cell_of_row _ _ 0 _ _ _ hO.b
          obtain ⟨t0, t1⟩ := row_cells hO.t
          have hll := hO.tg.l
          rw [HE1.out] at hll t1
          obtain ⟨r0, r1, r2, r3⟩ := rdl_at2 hll HTT.out
          go_simp
          first | done | with_reducible rfl
        (try simp only [Act.put, List.setIfInBounds_toArray, List.set_cons_zero, List.set_cons_succ])
        refine wpAnyH_take (i := 1) (oi := { dst := some 94, op := Op.fieldAddr 59 (Operand.tmp 6) 1, type := 0, pos := "law.go:154", after := #[], guard := none }) (v := ?_) rfl (by kernel_rfl) (by kernel_rfl) (by kernel_rfl) (fun _ _ _ h => h) (Or.inl ⟨by rfl, ?_⟩) hHeld ?_
        rotate_left 1
        · intro u hSu
          have hO := K1.out.1.keep hSu.out
          have c0 := cell_of_row _ _ 0 _ _ _ hO.b
          obtain ⟨t0, t1⟩ := row_cells hO.t
          have hll := hO.tg.l
          rw [HE1.out] at hll t1
          obtain ⟨r0, r1, r2, r3⟩ := rdl_at2 hll HTT.out
          go_simp
          first | done | with_reducible rfl
        (try simp only [Act.put, List.setIfInBounds_toArray, List.set_cons_zero, List.set_cons_succ])
        refine wpAnyH_take (i := 2) (oi := { dst := some 95, op := Op.load 57 (Operand.tmp 94), type := 57, pos := "law.go:154", after := #[{ on := 1, ground := Ground.data }], guard := none }) (v := ?_) rfl (by kernel_rfl) (by kernel_rfl) (by kernel_rfl) (fun _ _ _ h => h) (Or.inl ⟨by rfl, ?_⟩) hHeld ?_
        rotate_left 1
        · intro u hSu
          have hO := K1.out.1.keep hSu.out
          have c0 := cell_of_row _ _ 0 _ _ _ hO.b
          obtain ⟨t0, t1⟩ := row_cells hO.t
          have hll := hO.tg.l
          rw [HE1.out] at hll t1
          obtain ⟨r0, r1, r2, r3⟩ := rdl_at2 hll HTT.out
          go_simp
          first | done | with_reducible rfl
        (try simp only [Act.put, List.setIfInBounds_toArray, List.set_cons_zero, List.set_cons_succ])
        refine wpAnyH_take (i := 3) (oi := { dst := some 96, op := Op.move (Operand.tmp 10), type := 3, pos := "law.go:154", after := #[], guard := none }) (v := ?_) rfl (by kernel_rfl) (by kernel_rfl) (by kernel_rfl) (fun _ _ _ h => h) (Or.inl ⟨by rfl, ?_⟩) hHeld ?_
        rotate_left 1
        · intro u hSu
          have hO := K1.out.1.keep hSu.out
          have c0 := cell_of_row _ _ 0 _ _ _ hO.b
          obtain ⟨t0, t1⟩ := row_cells hO.t
          have hll := hO.tg.l
          rw [HE1.out] at hll t1
          obtain ⟨r0, r1, r2, r3⟩ := rdl_at2 hll HTT.out
          go_simp
          first | done | with_reducible rfl
        (try simp only [Act.put, List.setIfInBounds_toArray, List.set_cons_zero, List.set_cons_succ])
        refine wpAnyH_take (i := 4) (oi := { dst := some 97, op := Op.indexAddr 57 (Operand.tmp 95) (Operand.tmp 96), type := 0, pos := "law.go:154", after := #[{ on := 2, ground := Ground.data }, { on := 3, ground := Ground.data }], guard := none }) (v := ?_) rfl (by kernel_rfl) (by kernel_rfl) (by kernel_rfl) (fun _ _ _ h => h) (Or.inl ⟨by rfl, ?_⟩) hHeld ?_
        rotate_left 1
        · intro u hSu
          have hO := K1.out.1.keep hSu.out
          have c0 := cell_of_row _ _ 0 _ _ _ hO.b
          obtain ⟨t0, t1⟩ := row_cells hO.t
          have hll := hO.tg.l
          rw [HE1.out] at hll t1
          obtain ⟨r0, r1, r2, r3⟩ := rdl_at2 hll HTT.out
          go_simp
          first | done | with_reducible rfl
        (try simp only [Act.put, List.setIfInBounds_toArray, List.set_cons_zero, List.set_cons_succ])
        refine wpAnyH_take (i := 5) (oi := { dst := some 98, op := Op.fieldAddr 71 (Operand.tmp 97) 1, type := 0, pos := "law.go:154", after := #[{ on := 4, ground := Ground.data }], guard := none }) (v := ?_) rfl (by kernel_rfl) (by kernel_rfl) (by kernel_rfl) (fun _ _ _ h => h) (Or.inl ⟨by rfl, ?_⟩) hHeld ?_
        rotate_left 1
        · intro u hSu
          have hO := K1.out.1.keep hSu.out
          have c0 := cell_of_row _ _ 0 _ _ _ hO.b
          obtain ⟨t0, t1⟩ := row_cells hO.t
          have hll := hO.tg.l
          rw [HE1.out] at hll t1
          obtain ⟨r0, r1, r2, r3⟩ := rdl_at2 hll HTT.out
          go_simp
          first | done | with_reducible rfl
        (try simp only [Act.put, List.setIfInBounds_toArray, List.set_cons_zero, List.set_cons_succ])
        refine wpAnyH_take (i := 6) (oi := { dst := some 99, op := Op.load 3 (Operand.tmp 98), type := 3, pos := "law.go:154", after := #[{ on := 5, ground := Ground.data }], guard := none }) (v := ?_) rfl (by kernel_rfl) (by kernel_rfl) (by kernel_rfl) (fun _ _ _ h => h) (Or.inl ⟨by rfl, ?_⟩) hHeld ?_
        rotate_left 1
        · intro u hSu
          have hO := K1.out.1.keep hSu.out
          have c0 := cell_of_row _ _ 0 _ _ _ hO.b
          obtain ⟨t0, t1⟩ := row_cells hO.t
          have hll := hO.tg.l
          rw [HE1.out] at hll t1
          obtain ⟨r0, r1, r2, r3⟩ := rdl_at2 hll HTT.out
          go_simp
          first | done | with_reducible rfl
        (try simp only [Act.put, List.setIfInBounds_toArray, List.set_cons_zero, List.set_cons_succ])
        refine wpAnyH_ready (rs := [7, 11]) (by kernel_rfl) (by simp) ?_
        refine AllReadyH.cons (o := { dst := some 100, op := Op.call { callee := Callee.value (Operand.func 20), args := #[Operand.tmp 93, Operand.tmp 99], argTypes := #[25, 3] }, type := 39, pos := "law.go:154", after := #[{ on := 0, ground := Ground.data }, { on := 6, ground := Ground.data }], guard := none }) rfl (fun Kz hK => ?_) (AllReadyH.cons (o := { dst := some 13, op := Op.alloc 38, type := 0, pos := "law.go:154", after := #[], guard := none }) rfl (fun Kz hK => ?_) AllReadyH.nil)
        · go_simp
          go_at_call 20
          refine (rfind_any l m.b p c _ _ ((K1.out.1.db.old).keep hHeld.out) (by omega)).mono ?_
          rintro e w5 ⟨A1, rfl, hsm, hok, hg⟩
          obtain ⟨pz9, hpz⟩ : ∃ z, (fndA l m.b).isSome = z := ⟨_, rfl⟩
          rw [hpz]
          rw [HFB.out.1] at hsm
          have HA := Lib.hid (And.intro hsm hok)
          have hHn := Lib.hid (grown_trans hHeld.out hg)
          try replace HS9 := Lib.hid (show ∀ b, b = _ → _ from fun b hb => (HS9.out b hb).keep hg)
          clear hg hsm hok hpz
          refine hK.out _ _ (hHn) (fun hH2 => ?_)
          clear hK Kz hHeld
          have hHeld := hH2
          clear hH2
          (try simp only [Act.put, List.setIfInBounds_toArray, List.set_cons_zero, List.set_cons_succ])
          refine wpAnyH_take (i := 8) (oi := { dst := some 92, op := Op.move (Operand.tmp 100), type := 39, pos := "law.go:154", after := #[{ on := 7, ground := Ground.data }], guard := none }) (v := ?_) rfl (by kernel_rfl) (by kernel_rfl) (by kernel_rfl) (fun _ _ _ h => h) (Or.inl ⟨by rfl, ?_⟩) hHeld ?_
          rotate_left 1
          · intro u hSu
            have hO := K1.out.1.keep hSu.out
            have c0 := cell_of_row _ _ 0 _ _ _ hO.b
            obtain ⟨t0, t1⟩ := row_cells hO.t
            have hll := hO.tg.l
            rw [HE1.out] at hll t1
            obtain ⟨r0, r1, r2, r3⟩ := rdl_at2 hll HTT.out
            go_simp
            first | done | with_reducible rfl
          (try simp only [Act.put, List.setIfInBounds_toArray, List.set_cons_zero, List.set_cons_succ])
          refine wpAnyH_take (i := 9) (oi := { dst := some 101, op := Op.extract (Operand.tmp 92) 0, type := 38, pos := "law.go:154", after := #[{ on := 8, ground := Ground.data }], guard := none }) (v := ?_) rfl (by kernel_rfl) (by kernel_rfl) (by kernel_rfl) (fun _ _ _ h => h) (Or.inl ⟨by rfl, ?_⟩) hHeld ?_
          rotate_left 1
          · intro u hSu
            have hO := K1.out.1.keep hSu.out
            have c0 := cell_of_row _ _ 0 _ _ _ hO.b
            obtain ⟨t0, t1⟩ := row_cells hO.t
            have hll := hO.tg.l
            rw [HE1.out] at hll t1
            obtain ⟨r0, r1, r2, r3⟩ := rdl_at2 hll HTT.out
            go_simp
            first | done | with_reducible rfl
          (try simp only [Act.put, List.setIfInBounds_toArray, List.set_cons_zero, List.set_cons_succ])
          refine wpAnyH_take (i := 10) (oi := { dst := some 102, op := Op.extract (Operand.tmp 92) 1, type := 4, pos := "law.go:154", after := #[{ on := 8, ground := Ground.data }, { on := 12, ground := Ground.gcOnly Departure.lateStores }], guard := none }) (v := ?_) rfl (by kernel_rfl) (by kernel_rfl) (by kernel_rfl) (fun _ _ _ h => h) (Or.inl ⟨by rfl, ?_⟩) hHeld ?_
          rotate_left 1
          · intro u hSu
            have hO := K1.out.1.keep hSu.out
            have c0 := cell_of_row _ _ 0 _ _ _ hO.b
            obtain ⟨t0, t1⟩ := row_cells hO.t
            have hll := hO.tg.l
            rw [HE1.out] at hll t1
            obtain ⟨r0, r1, r2, r3⟩ := rdl_at2 hll HTT.out
            go_simp
            first | done | with_reducible rfl
          (try simp only [Act.put, List.setIfInBounds_toArray, List.set_cons_zero, List.set_cons_succ])
          refine wpAnyH_ready (rs := [11]) (by kernel_rfl) (by simp) ?_
          refine AllReadyH.cons (o := { dst := some 13, op := Op.alloc 38, type := 0, pos := "law.go:154", after := #[], guard := none }) rfl (fun Kz hK => ?_) AllReadyH.nil
          go_simp
          try replace HA := Lib.hid (And.intro HA.out.1 (HA.out.2.keep (World.grownBy_alloc _ (.cells #[.int .i64 0, .int .i64 0, .bool false, .slice none 0 0, .slice none 0 0] 38) none)))
          have HSN := nx_start #[.int .i64 0, .int .i64 0, .bool false, .slice none 0 0, .slice none 0 0] 38 hHeld.out
          have hHn := Lib.hid (grown_trans hHeld.out (World.grownBy_alloc _ (.cells #[.int .i64 0, .int .i64 0, .bool false, .slice none 0 0, .slice none 0 0] 38) none))
          have HS9 := Lib.hid HSN
          clear HSN
          generalize hwa : World.alloc _ _ = wA at *
          clear hwa
          refine hK.out _ _ (hHn) (fun hH2 => ?_)
          clear hK Kz hHeld
          have hHeld := hH2
          clear hH2
          (try simp only [Act.put, List.setIfInBounds_toArray, List.set_cons_zero, List.set_cons_succ])
          refine wpAnyH_ready (rs := [12]) (by kernel_rfl) (by simp) ?_
          refine AllReadyH.cons (o := { dst := none, op := Op.store 38 (Operand.tmp 13) (Operand.tmp 101), type := 0, pos := "law.go:154", after := #[{ on := 11, ground := Ground.data }, { on := 9, ground := Ground.data }, { on := 7, ground := Ground.chain }, { on := 0, ground := Ground.phase }, { on := 1, ground := Ground.phase }, { on := 2, ground := Ground.phase }, { on := 3, ground := Ground.phase }, { on := 4, ground := Ground.phase }, { on := 5, ground := Ground.phase }, { on := 6, ground := Ground.phase }, { on := 7, ground := Ground.phase }, { on := 8, ground := Ground.phase }, { on := 9, ground := Ground.phase }, { on := 10, ground := Ground.textOnly Departure.lateStores }, { on := 11, ground := Ground.phase }], guard := none }) rfl (fun Kz hK => ?_) AllReadyH.nil
          have hna := HS9.out _ rfl
          obtain ⟨k0, k1, k2, k3, k4⟩ := row5 hna.ab
          have f0 := frozen_of_row _ _ 0 _ _ hna.ab
          have f1 := frozen_of_row _ _ 1 _ _ hna.ab
          have f2 := frozen_of_row _ _ 2 _ _ hna.ab
          have f3 := frozen_of_row _ _ 3 _ _ hna.ab
          have f4 := frozen_of_row _ _ 4 _ _ hna.ab
          obtain ⟨s1, s2⟩ := store5 (.int .i64 A1.r) (.int .i64 A1.q) (.bool A1.cp) (.slice A1.pL A1.L.length A1.cL) (.slice A1.pC A1.C.length A1.cC) hna.ab
          have HE : Hid (A1.L = B.L ∧ AB _ A1 _ ∧ wq.grownBy _ none) := Lib.hid ⟨HA.out.1.2.2.2.1, ⟨s1, (HA.out.2.grown s2 (fun x hx e => by have h9 := Option.some.inj e; have := hna.lo; omega)).mono (fun _ _ => trivial)⟩, grown_new hHeld.out s2 hna.lo⟩
          go_simp
          clear k0 k1 k2 k3 k4 f0 f1 f2 f3 f4 s1 s2 hna
          refine hK.out _ _ (Lib.hid HE.out.2.2) (fun hH2 => ?_)
          clear hK Kz hHeld
          have hHeld := hH2
          clear hH2
          (try simp only [Act.put, List.setIfInBounds_toArray, List.set_cons_zero, List.set_cons_succ])
          refine wpAnyH_take (i := 13) (oi := { dst := some 14, op := Op.assign (Operand.tmp 102), type := 4, pos := "law.go:154", after := #[{ on := 10, ground := Ground.data }, { on := 12, ground := Ground.chain }, { on := 0, ground := Ground.phase }, { on := 1, ground := Ground.phase }, { on := 2, ground := Ground.phase }, { on := 3, ground := Ground.phase }, { on := 4, ground := Ground.phase }, { on := 5, ground := Ground.phase }, { on := 6, ground := Ground.phase }, { on := 7, ground := Ground.phase }, { on := 8, ground := Ground.phase }, { on := 9, ground := Ground.phase }, { on := 10, ground := Ground.phase }, { on := 11, ground := Ground.phase }, { on := 12, ground := Ground.phase }], guard := none }) (v := ?_) rfl (by kernel_rfl) (by kernel_rfl) (by kernel_rfl) (fun _ _ _ h => h) (Or.inl ⟨by rfl, ?_⟩) hHeld ?_
          rotate_left 1
          · intro u hSu
            have hO := K1.out.1.keep hSu.out
            have c0 := cell_of_row _ _ 0 _ _ _ hO.b
            obtain ⟨t0, t1⟩ := row_cells hO.t
            have hll := hO.tg.l
            rw [HE1.out] at hll t1
            obtain ⟨r0, r1, r2, r3⟩ := rdl_at2 hll HTT.out
            go_simp
            first | done | with_reducible rfl
          (try simp only [Act.put, List.setIfInBounds_toArray, List.set_cons_zero, List.set_cons_succ])
          refine wpAnyH_done (by kernel_rfl) ?_ _
          clear HD hHeld hHn HS9
          go_wp2_with fail
          go_meet
          exact ⟨_, A1, rfl, HE⟩
        · go_simp
          try replace HA := Lib.hid (And.intro HA.out.1 (HA.out.2.keep (World.grownBy_alloc _ (.cells #[.int .i64 0, .int .i64 0, .bool false, .slice none 0 0, .slice none 0 0] 38) none)))
          have HSN := nx_start #[.int .i64 0, .int .i64 0, .bool false, .slice none 0 0, .slice none 0 0] 38 hHeld.out
          have hHn := Lib.hid (grown_trans hHeld.out (World.grownBy_alloc _ (.cells #[.int .i64 0, .int .i64 0, .bool false, .slice none 0 0, .slice none 0 0] 38) none))
          have HS9 := Lib.hid HSN
          clear HSN
          generalize hwa : World.alloc _ _ = wA at *
          clear hwa
          refine hK.out _ _ (hHn) (fun hH2 => ?_)
          clear hK Kz hHeld
          have hHeld := hH2
          clear hH2
          (try simp only [Act.put, List.setIfInBounds_toArray, List.set_cons_zero, List.set_cons_succ])
          refine wpAnyH_ready (rs := [7]) (by kernel_rfl) (by simp) ?_
          refine AllReadyH.cons (o := { dst := some 100, op := Op.call { callee := Callee.value (Operand.func 20), args := #[Operand.tmp 93, Operand.tmp 99], argTypes := #[25, 3] }, type := 39, pos := "law.go:154", after := #[{ on := 0, ground := Ground.data }, { on := 6, ground := Ground.data }], guard := none }) rfl (fun Kz hK => ?_) AllReadyH.nil
          go_simp
          go_at_call 20
          refine (rfind_any l m.b p c _ _ ((K1.out.1.db.old).keep hHeld.out) (by omega)).mono ?_
          rintro e w5 ⟨A1, rfl, hsm, hok, hg⟩
          obtain ⟨pz9, hpz⟩ : ∃ z, (fndA l m.b).isSome = z := ⟨_, rfl⟩
          rw [hpz]
          rw [HFB.out.1] at hsm
          have HA := Lib.hid (And.intro hsm hok)
          have hHn := Lib.hid (grown_trans hHeld.out hg)
          try replace HS9 := Lib.hid (show ∀ b, b = _ → _ from fun b hb => (HS9.out b hb).keep hg)
          clear hg hsm hok hpz
          refine hK.out _ _ (hHn) (fun hH2 => ?_)
          clear hK Kz hHeld
          have hHeld := hH2
          clear hH2
          (try simp only [Act.put, List.setIfInBounds_toArray, List.set_cons_zero, List.set_cons_succ])
          refine wpAnyH_take (i := 8) (oi := { dst := some 92, op := Op.move (Operand.tmp 100), type := 39, pos := "law.go:154", after := #[{ on := 7, ground := Ground.data }], guard := none }) (v := ?_) rfl (by kernel_rfl) (by kernel_rfl) (by kernel_rfl) (fun _ _ _ h => h) (Or.inl ⟨by rfl, ?_⟩) hHeld ?_
          rotate_left 1
          · intro u hSu
            have hO := K1.out.1.keep hSu.out
            have c0 := cell_of_row _ _ 0 _ _ _ hO.b
            obtain ⟨t0, t1⟩ := row_cells hO.t
            have hll := hO.tg.l
            rw [HE1.out] at hll t1
            obtain ⟨r0, r1, r2, r3⟩ := rdl_at2 hll HTT.out
            go_simp
            first | done | with_reducible rfl
          (try simp only [Act.put, List.setIfInBounds_toArray, List.set_cons_zero, List.set_cons_succ])
          refine wpAnyH_take (i := 9) (oi := { dst := some 101, op := Op.extract (Operand.tmp 92) 0, type := 38, pos := "law.go:154", after := #[{ on := 8, ground := Ground.data }], guard := none }) (v := ?_) rfl (by kernel_rfl) (by kernel_rfl) (by kernel_rfl) (fun _ _ _ h => h) (Or.inl ⟨by rfl, ?_⟩) hHeld ?_
          rotate_left 1
          · intro u hSu
            have hO := K1.out.1.keep hSu.out
            have c0 := cell_of_row _ _ 0 _ _ _ hO.b
            obtain ⟨t0, t1⟩ := row_cells hO.t
            have hll := hO.tg.l
            rw [HE1.out] at hll t1
            obtain ⟨r0, r1, r2, r3⟩ := rdl_at2 hll HTT.out
            go_simp
            first | done | with_reducible rfl
          (try simp only [Act.put, List.setIfInBounds_toArray, List.set_cons_zero, List.set_cons_succ])
          refine wpAnyH_take (i := 10) (oi := { dst := some 102, op := Op.extract (Operand.tmp 92) 1, type := 4, pos := "law.go:154", after := #[{ on := 8, ground := Ground.data }, { on := 12, ground := Ground.gcOnly Departure.lateStores }], guard := none }) (v := ?_) rfl (by kernel_rfl) (by kernel_rfl) (by kernel_rfl) (fun _ _ _ h => h) (Or.inl ⟨by rfl, ?_⟩) hHeld ?_
          rotate_left 1
          · intro u hSu
            have hO := K1.out.1.keep hSu.out
            have c0 := cell_of_row _ _ 0 _ _ _ hO.b
            obtain ⟨t0, t1⟩ := row_cells hO.t
            have hll := hO.tg.l
            rw [HE1.out] at hll t1
            obtain ⟨r0, r1, r2, r3⟩ := rdl_at2 hll HTT.out
            go_simp
            first | done | with_reducible rfl
          (try simp only [Act.put, List.setIfInBounds_toArray, List.set_cons_zero, List.set_cons_succ])
          refine wpAnyH_ready (rs := [12]) (by kernel_rfl) (by simp) ?_
          refine AllReadyH.cons (o := { dst := none, op := Op.store 38 (Operand.tmp 13) (Operand.tmp 101), type := 0, pos := "law.go:154", after := #[{ on := 11, ground := Ground.data }, { on := 9, ground := Ground.data }, { on := 7, ground := Ground.chain }, { on := 0, ground := Ground.phase }, { on := 1, ground := Ground.phase }, { on := 2, ground := Ground.phase }, { on := 3, ground := Ground.phase }, { on := 4, ground := Ground.phase }, { on := 5, ground := Ground.phase }, { on := 6, ground := Ground.phase }, { on := 7, ground := Ground.phase }, { on := 8, ground := Ground.phase }, { on := 9, ground := Ground.phase }, { on := 10, ground := Ground.textOnly Departure.lateStores }, { on := 11, ground := Ground.phase }], guard := none }) rfl (fun Kz hK => ?_) AllReadyH.nil
          have hna := HS9.out _ rfl
          obtain ⟨k0, k1, k2, k3, k4⟩ := row5 hna.ab
          have f0 := frozen_of_row _ _ 0 _ _ hna.ab
          have f1 := frozen_of_row _ _ 1 _ _ hna.ab
          have f2 := frozen_of_row _ _ 2 _ _ hna.ab
          have f3 := frozen_of_row _ _ 3 _ _ hna.ab
          have f4 := frozen_of_row _ _ 4 _ _ hna.ab
          obtain ⟨s1, s2⟩ := store5 (.int .i64 A1.r) (.int .i64 A1.q) (.bool A1.cp) (.slice A1.pL A1.L.length A1.cL) (.slice A1.pC A1.C.length A1.cC) hna.ab
          have HE : Hid (A1.L = B.L ∧ AB _ A1 _ ∧ wq.grownBy _ none) := Lib.hid ⟨HA.out.1.2.2.2.1, ⟨s1, (HA.out.2.grown s2 (fun x hx e => by have h9 := Option.some.inj e; have := hna.lo; omega)).mono (fun _ _ => trivial)⟩, grown_new hHeld.out s2 hna.lo⟩
          go_simp
          clear k0 k1 k2 k3 k4 f0 f1 f2 f3 f4 s1 s2 hna
          refine hK.out _ _ (Lib.hid HE.out.2.2) (fun hH2 => ?_)
          clear hK Kz hHeld
          have hHeld := hH2
          clear hH2
          (try simp only [Act.put, List.setIfInBounds_toArray, List.set_cons_zero, List.set_cons_succ])
          refine wpAnyH_take (i := 13) (oi := { dst := some 14, op := Op.assign (Operand.tmp 102), type := 4, pos := "law.go:154", after := #[{ on := 10, ground := Ground.data }, { on := 12, ground := Ground.chain }, { on := 0, ground := Ground.phase }, { on := 1, ground := Ground.phase }, { on := 2, ground := Ground.phase }, { on := 3, ground := Ground.phase }, { on := 4, ground := Ground.phase }, { on := 5, ground := Ground.phase }, { on := 6, ground := Ground.phase }, { on := 7, ground := Ground.phase }, { on := 8, ground := Ground.phase }, { on := 9, ground := Ground.phase }, { on := 10, ground := Ground.phase }, { on := 11, ground := Ground.phase }, { on := 12, ground := Ground.phase }], guard := none }) (v := ?_) rfl (by kernel_rfl) (by kernel_rfl) (by kernel_rfl) (fun _ _ _ h => h) (Or.inl ⟨by rfl, ?_⟩) hHeld ?_
          rotate_left 1
          · intro u hSu
            have hO := K1.out.1.keep hSu.out
            have c0 := cell_of_row _ _ 0 _ _ _ hO.b
            obtain ⟨t0, t1⟩ := row_cells hO.t
            have hll := hO.tg.l
            rw [HE1.out] at hll t1
            obtain ⟨r0, r1, r2, r3⟩ := rdl_at2 hll HTT.out
            go_simp
            first | done | with_reducible rfl
          (try simp only [Act.put, List.setIfInBounds_toArray, List.set_cons_zero, List.set_cons_succ])
          refine wpAnyH_done (by kernel_rfl) ?_ _
          clear HD hHeld hHn HS9
          go_wp2_with fail
          go_meet
          exact ⟨_, A1, rfl, HE⟩
      case rest =>
      obtain ⟨b2, A2, rfl, HA2⟩ := hcut
      have K2 := Lib.hid (And.intro (K1.out.1.keep HA2.out.2.2) (And.intro (K1.out.2.keep HA2.out.2.2) HA2.out.2.1))
      have HR2 := Lib.hid (And.intro (rc_same HA2.out.1 HFB.out.2.1) HFB.out.2.2)
      clear K1 HA2 HFB wq
      rename World => wq
      go_upto_region 18 with fail
      go_cut [15, 16] from 103 to 113 (fun u o wx => ∃ (b : Nat) (y1 y2 y3 : Int), u = .pointer (some ⟨b, 0, none⟩) ∧ o = .bool true ∧ y2 = m.ca ∧ Hid (wx.heap[b]? = some (.cells #[.int .i64 y1, .int .i64 y2, .int .i64 y3] 73 (0, 0)) ∧ wq.grownBy wx none))
      case first =>
        have HD := Lib.hid (grown_drew (grown_refl wq none))
        refine wp_region_held_drew (S := fun w' => Hid (wq.grownBy w' none)) (by kernel_rfl) (HD) (fun hHeld => ?_)
        generalize hwd : wq.drew = wd at *
        clear hwd
        refine wpAnyH_take (i := 0) (oi := { dst := some 104, op := Op.load 38 (Operand.tmp 11), type := 38, pos := "law.go:155", after := #[], guard := none }) (v := ?_) rfl (by kernel_rfl) (by kernel_rfl) (by kernel_rfl) (fun _ _ _ h => h) (Or.inl ⟨by rfl, ?_⟩) hHeld ?_
        rotate_left 1
        · intro u hSu
          have hO := K2.out.1.keep hSu.out
          obtain ⟨t0, t1⟩ := row_cells hO.t
          have hll := hO.tg.l
          rw [HE1.out] at hll t1
          obtain ⟨r0, r1, r2, r3⟩ := rdl_at2 hll HTT.out
          obtain ⟨d0, d1, d2, d3, d4⟩ := row5 (K2.out.2.1.keep hSu.out).bx
          go_simp
          first | done | with_reducible rfl
        (try simp only [Act.put, List.setIfInBounds_toArray, List.set_cons_zero, List.set_cons_succ])
        refine wpAnyH_take (i := 1) (oi := { dst := some 105, op := Op.fieldAddr 59 (Operand.tmp 6) 1, type := 0, pos := "law.go:155", after := #[], guard := none }) (v := ?_) rfl (by kernel_rfl) (by kernel_rfl) (by kernel_rfl) (fun _ _ _ h => h) (Or.inl ⟨by rfl, ?_⟩) hHeld ?_
        rotate_left 1
        · intro u hSu
          have hO := K2.out.1.keep hSu.out
          obtain ⟨t0, t1⟩ := row_cells hO.t
          have hll := hO.tg.l
          rw [HE1.out] at hll t1
          obtain ⟨r0, r1, r2, r3⟩ := rdl_at2 hll HTT.out
          obtain ⟨d0, d1, d2, d3, d4⟩ := row5 (K2.out.2.1.keep hSu.out).bx
          go_simp
          first | done | with_reducible rfl
        (try simp only [Act.put, List.setIfInBounds_toArray, List.set_cons_zero, List.set_cons_succ])
        refine wpAnyH_take (i := 2) (oi := { dst := some 106, op := Op.load 57 (Operand.tmp 105), type := 57, pos := "law.go:155", after := #[{ on := 1, ground := Ground.data }], guard := none }) (v := ?_) rfl (by kernel_rfl) (by kernel_rfl) (by kernel_rfl) (fun _ _ _ h => h) (Or.inl ⟨by rfl, ?_⟩) hHeld ?_
        rotate_left 1
        · intro u hSu
          have hO := K2.out.1.keep hSu.out
          obtain ⟨t0, t1⟩ := row_cells hO.t
          have hll := hO.tg.l
          rw [HE1.out] at hll t1
          obtain ⟨r0, r1, r2, r3⟩ := rdl_at2 hll HTT.out
          obtain ⟨d0, d1, d2, d3, d4⟩ := row5 (K2.out.2.1.keep hSu.out).bx
          go_simp
          first | done | with_reducible rfl
        (try simp only [Act.put, List.setIfInBounds_toArray, List.set_cons_zero, List.set_cons_succ])
        refine wpAnyH_take (i := 3) (oi := { dst := some 107, op := Op.move (Operand.tmp 10), type := 3, pos := "law.go:155", after := #[], guard := none }) (v := ?_) rfl (by kernel_rfl) (by kernel_rfl) (by kernel_rfl) (fun _ _ _ h => h) (Or.inl ⟨by rfl, ?_⟩) hHeld ?_
        rotate_left 1
        · intro u hSu
          have hO := K2.out.1.keep hSu.out
          obtain ⟨t0, t1⟩ := row_cells hO.t
          have hll := hO.tg.l
          rw [HE1.out] at hll t1
          obtain ⟨r0, r1, r2, r3⟩ := rdl_at2 hll HTT.out
          obtain ⟨d0, d1, d2, d3, d4⟩ := row5 (K2.out.2.1.keep hSu.out).bx
          go_simp
          first | done | with_reducible rfl
        (try simp only [Act.put, List.setIfInBounds_toArray, List.set_cons_zero, List.set_cons_succ])
        refine wpAnyH_take (i := 4) (oi := { dst := some 108, op := Op.indexAddr 57 (Operand.tmp 106) (Operand.tmp 107), type := 0, pos := "law.go:155", after := #[{ on := 2, ground := Ground.data }, { on := 3, ground := Ground.data }], guard := none }) (v := ?_) rfl (by kernel_rfl) (by kernel_rfl) (by kernel_rfl) (fun _ _ _ h => h) (Or.inl ⟨by rfl, ?_⟩) hHeld ?_
        rotate_left 1
        · intro u hSu
          have hO := K2.out.1.keep hSu.out
          obtain ⟨t0, t1⟩ := row_cells hO.t
          have hll := hO.tg.l
          rw [HE1.out] at hll t1
          obtain ⟨r0, r1, r2, r3⟩ := rdl_at2 hll HTT.out
          obtain ⟨d0, d1, d2, d3, d4⟩ := row5 (K2.out.2.1.keep hSu.out).bx
          go_simp
          first | done | with_reducible rfl
        (try simp only [Act.put, List.setIfInBounds_toArray, List.set_cons_zero, List.set_cons_succ])
        refine wpAnyH_take (i := 5) (oi := { dst := some 109, op := Op.fieldAddr 71 (Operand.tmp 108) 1, type := 0, pos := "law.go:155", after := #[{ on := 4, ground := Ground.data }], guard := none }) (v := ?_) rfl (by kernel_rfl) (by kernel_rfl) (by kernel_rfl) (fun _ _ _ h => h) (Or.inl ⟨by rfl, ?_⟩) hHeld ?_
        rotate_left 1
        · intro u hSu
          have hO := K2.out.1.keep hSu.out
          obtain ⟨t0, t1⟩ := row_cells hO.t
          have hll := hO.tg.l
          rw [HE1.out] at hll t1
          obtain ⟨r0, r1, r2, r3⟩ := rdl_at2 hll HTT.out
          obtain ⟨d0, d1, d2, d3, d4⟩ := row5 (K2.out.2.1.keep hSu.out).bx
          go_simp
          first | done | with_reducible rfl
        (try simp only [Act.put, List.setIfInBounds_toArray, List.set_cons_zero, List.set_cons_succ])
        refine wpAnyH_take (i := 6) (oi := { dst := some 110, op := Op.load 3 (Operand.tmp 109), type := 3, pos := "law.go:155", after := #[{ on := 5, ground := Ground.data }], guard := none }) (v := ?_) rfl (by kernel_rfl) (by kernel_rfl) (by kernel_rfl) (fun _ _ _ h => h) (Or.inl ⟨by rfl, ?_⟩) hHeld ?_
        rotate_left 1
        · intro u hSu
          have hO := K2.out.1.keep hSu.out
          obtain ⟨t0, t1⟩ := row_cells hO.t
          have hll := hO.tg.l
          rw [HE1.out] at hll t1
          obtain ⟨r0, r1, r2, r3⟩ := rdl_at2 hll HTT.out
          obtain ⟨d0, d1, d2, d3, d4⟩ := row5 (K2.out.2.1.keep hSu.out).bx
          go_simp
          first | done | with_reducible rfl
        (try simp only [Act.put, List.setIfInBounds_toArray, List.set_cons_zero, List.set_cons_succ])
        refine wpAnyH_ready (rs := [7, 11]) (by kernel_rfl) (by simp) ?_
        refine AllReadyH.cons (o := { dst := some 111, op := Op.call { callee := Callee.value (Operand.func 39), args := #[Operand.tmp 104, Operand.tmp 110], argTypes := #[38, 3] }, type := 74, pos := "law.go:155", after := #[{ on := 0, ground := Ground.data }, { on := 6, ground := Ground.data }], guard := none }) rfl (fun Kz hK => ?_) (AllReadyH.cons (o := { dst := some 15, op := Op.alloc 73, type := 0, pos := "law.go:155", after := #[], guard := none }) rfl (fun Kz hK => ?_) AllReadyH.nil)
        · go_simp
          go_at_call 39
          refine (rreach_any A1 m.b _ _ ((K2.out.2.1.keep hHeld.out).ok)).mono ?_
          rintro e w5 ⟨rfl, hg⟩
          rw [rcV_some HR1.out.1, HR1.out.1]
          simp only [Option.isSome_some]
          have hHn := Lib.hid (grown_trans hHeld.out hg)
          try replace HS9 := Lib.hid (show ∀ b, b = _ → _ from fun b hb => (HS9.out b hb).keep hg)
          clear hg
          refine hK.out _ _ (hHn) (fun hH2 => ?_)
          clear hK Kz hHeld
          have hHeld := hH2
          clear hH2
          (try simp only [Act.put, List.setIfInBounds_toArray, List.set_cons_zero, List.set_cons_succ])
          refine wpAnyH_take (i := 8) (oi := { dst := some 103, op := Op.move (Operand.tmp 111), type := 74, pos := "law.go:155", after := #[{ on := 7, ground := Ground.data }], guard := none }) (v := ?_) rfl (by kernel_rfl) (by kernel_rfl) (by kernel_rfl) (fun _ _ _ h => h) (Or.inl ⟨by rfl, ?_⟩) hHeld ?_
          rotate_left 1
          · intro u hSu
            have hO := K2.out.1.keep hSu.out
            obtain ⟨t0, t1⟩ := row_cells hO.t
            have hll := hO.tg.l
            rw [HE1.out] at hll t1
            obtain ⟨r0, r1, r2, r3⟩ := rdl_at2 hll HTT.out
            obtain ⟨d0, d1, d2, d3, d4⟩ := row5 (K2.out.2.1.keep hSu.out).bx
            go_simp
            first | done | with_reducible rfl
          (try simp only [Act.put, List.setIfInBounds_toArray, List.set_cons_zero, List.set_cons_succ])
          refine wpAnyH_take (i := 9) (oi := { dst := some 112, op := Op.extract (Operand.tmp 103) 0, type := 73, pos := "law.go:155", after := #[{ on := 8, ground := Ground.data }], guard := none }) (v := ?_) rfl (by kernel_rfl) (by kernel_rfl) (by kernel_rfl) (fun _ _ _ h => h) (Or.inl ⟨by rfl, ?_⟩) hHeld ?_
          rotate_left 1
          · intro u hSu
            have hO := K2.out.1.keep hSu.out
            obtain ⟨t0, t1⟩ := row_cells hO.t
            have hll := hO.tg.l
            rw [HE1.out] at hll t1
            obtain ⟨r0, r1, r2, r3⟩ := rdl_at2 hll HTT.out
            obtain ⟨d0, d1, d2, d3, d4⟩ := row5 (K2.out.2.1.keep hSu.out).bx
            go_simp
            first | done | with_reducible rfl
          (try simp only [Act.put, List.setIfInBounds_toArray, List.set_cons_zero, List.set_cons_succ])
          refine wpAnyH_take (i := 10) (oi := { dst := some 113, op := Op.extract (Operand.tmp 103) 1, type := 4, pos := "law.go:155", after := #[{ on := 8, ground := Ground.data }, { on := 12, ground := Ground.gcOnly Departure.lateStores }], guard := none }) (v := ?_) rfl (by kernel_rfl) (by kernel_rfl) (by kernel_rfl) (fun _ _ _ h => h) (Or.inl ⟨by rfl, ?_⟩) hHeld ?_
          rotate_left 1
          · intro u hSu
            have hO := K2.out.1.keep hSu.out
            obtain ⟨t0, t1⟩ := row_cells hO.t
            have hll := hO.tg.l
            rw [HE1.out] at hll t1
            obtain ⟨r0, r1, r2, r3⟩ := rdl_at2 hll HTT.out
            obtain ⟨d0, d1, d2, d3, d4⟩ := row5 (K2.out.2.1.keep hSu.out).bx
            go_simp
            first | done | with_reducible rfl
          (try simp only [Act.put, List.setIfInBounds_toArray, List.set_cons_zero, List.set_cons_succ])
          refine wpAnyH_ready (rs := [11]) (by kernel_rfl) (by simp) ?_
          refine AllReadyH.cons (o := { dst := some 15, op := Op.alloc 73, type := 0, pos := "law.go:155", after := #[], guard := none }) rfl (fun Kz hK => ?_) AllReadyH.nil
          go_simp
          have HSN := nx_start #[.int .i64 0, .int .i64 0, .int .i64 0] 73 hHeld.out
          have hHn := Lib.hid (grown_trans hHeld.out (World.grownBy_alloc _ (.cells #[.int .i64 0, .int .i64 0, .int .i64 0] 73) none))
          have HS9 := Lib.hid HSN
          clear HSN
          generalize hwa : World.alloc _ _ = wA at *
          clear hwa
          refine hK.out _ _ (hHn) (fun hH2 => ?_)
          clear hK Kz hHeld
          have hHeld := hH2
          clear hH2
          (try simp only [Act.put, List.setIfInBounds_toArray, List.set_cons_zero, List.set_cons_succ])
          refine wpAnyH_ready (rs := [12]) (by kernel_rfl) (by simp) ?_
          refine AllReadyH.cons (o := { dst := none, op := Op.store 73 (Operand.tmp 15) (Operand.tmp 112), type := 0, pos := "law.go:155", after := #[{ on := 11, ground := Ground.data }, { on := 9, ground := Ground.data }, { on := 7, ground := Ground.chain }, { on := 0, ground := Ground.phase }, { on := 1, ground := Ground.phase }, { on := 2, ground := Ground.phase }, { on := 3, ground := Ground.phase }, { on := 4, ground := Ground.phase }, { on := 5, ground := Ground.phase }, { on := 6, ground := Ground.phase }, { on := 7, ground := Ground.phase }, { on := 8, ground := Ground.phase }, { on := 9, ground := Ground.phase }, { on := 10, ground := Ground.textOnly Departure.lateStores }, { on := 11, ground := Ground.phase }], guard := none }) rfl (fun Kz hK => ?_) AllReadyH.nil
          have hna := HS9.out _ rfl
          obtain ⟨k0, k1, k2⟩ := row3 hna.ab
          have f0 := frozen_of_row _ _ 0 _ _ hna.ab
          have f1 := frozen_of_row _ _ 1 _ _ hna.ab
          have f2 := frozen_of_row _ _ 2 _ _ hna.ab
          obtain ⟨s1, s2⟩ := store3r (.int .i64 x.a) (.int .i64 x.b) (.int .i64 x.c) hna.ab
          have HE := Lib.hid (And.intro s1 (grown_new hHeld.out s2 hna.lo))
          go_simp
          clear k0 k1 k2 f0 f1 f2 s1 s2 hna
          refine hK.out _ _ (Lib.hid HE.out.2) (fun hH2 => ?_)
          clear hK Kz hHeld
          have hHeld := hH2
          clear hH2
          (try simp only [Act.put, List.setIfInBounds_toArray, List.set_cons_zero, List.set_cons_succ])
          refine wpAnyH_take (i := 13) (oi := { dst := some 16, op := Op.assign (Operand.tmp 113), type := 4, pos := "law.go:155", after := #[{ on := 10, ground := Ground.data }, { on := 12, ground := Ground.chain }, { on := 0, ground := Ground.phase }, { on := 1, ground := Ground.phase }, { on := 2, ground := Ground.phase }, { on := 3, ground := Ground.phase }, { on := 4, ground := Ground.phase }, { on := 5, ground := Ground.phase }, { on := 6, ground := Ground.phase }, { on := 7, ground := Ground.phase }, { on := 8, ground := Ground.phase }, { on := 9, ground := Ground.phase }, { on := 10, ground := Ground.phase }, { on := 11, ground := Ground.phase }, { on := 12, ground := Ground.phase }], guard := none }) (v := ?_) rfl (by kernel_rfl) (by kernel_rfl) (by kernel_rfl) (fun _ _ _ h => h) (Or.inl ⟨by rfl, ?_⟩) hHeld ?_
          rotate_left 1
          · intro u hSu
            have hO := K2.out.1.keep hSu.out
            obtain ⟨t0, t1⟩ := row_cells hO.t
            have hll := hO.tg.l
            rw [HE1.out] at hll t1
            obtain ⟨r0, r1, r2, r3⟩ := rdl_at2 hll HTT.out
            obtain ⟨d0, d1, d2, d3, d4⟩ := row5 (K2.out.2.1.keep hSu.out).bx
            go_simp
            first | done | with_reducible rfl
          (try simp only [Act.put, List.setIfInBounds_toArray, List.set_cons_zero, List.set_cons_succ])
          refine wpAnyH_done (by kernel_rfl) ?_ _
          clear HD hHeld hHn HS9
          go_wp2_with fail
          go_meet
          exact ⟨_, _, _, _, rfl, rfl, HR1.out.2, HE⟩
        · go_simp
          have HSN := nx_start #[.int .i64 0, .int .i64 0, .int .i64 0] 73 hHeld.out
          have hHn := Lib.hid (grown_trans hHeld.out (World.grownBy_alloc _ (.cells #[.int .i64 0, .int .i64 0, .int .i64 0] 73) none))
          have HS9 := Lib.hid HSN
          clear HSN
          generalize hwa : World.alloc _ _ = wA at *
          clear hwa
          refine hK.out _ _ (hHn) (fun hH2 => ?_)
          clear hK Kz hHeld
          have hHeld := hH2
          clear hH2
          (try simp only [Act.put, List.setIfInBounds_toArray, List.set_cons_zero, List.set_cons_succ])
          refine wpAnyH_ready (rs := [7]) (by kernel_rfl) (by simp) ?_
          refine AllReadyH.cons (o := { dst := some 111, op := Op.call { callee := Callee.value (Operand.func 39), args := #[Operand.tmp 104, Operand.tmp 110], argTypes := #[38, 3] }, type := 74, pos := "law.go:155", after := #[{ on := 0, ground := Ground.data }, { on := 6, ground := Ground.data }], guard := none }) rfl (fun Kz hK => ?_) AllReadyH.nil
          go_simp
          go_at_call 39
          refine (rreach_any A1 m.b _ _ ((K2.out.2.1.keep hHeld.out).ok)).mono ?_
          rintro e w5 ⟨rfl, hg⟩
          rw [rcV_some HR1.out.1, HR1.out.1]
          simp only [Option.isSome_some]
          have hHn := Lib.hid (grown_trans hHeld.out hg)
          try replace HS9 := Lib.hid (show ∀ b, b = _ → _ from fun b hb => (HS9.out b hb).keep hg)
          clear hg
          refine hK.out _ _ (hHn) (fun hH2 => ?_)
          clear hK Kz hHeld
          have hHeld := hH2
          clear hH2
          (try simp only [Act.put, List.setIfInBounds_toArray, List.set_cons_zero, List.set_cons_succ])
          refine wpAnyH_take (i := 8) (oi := { dst := some 103, op := Op.move (Operand.tmp 111), type := 74, pos := "law.go:155", after := #[{ on := 7, ground := Ground.data }], guard := none }) (v := ?_) rfl (by kernel_rfl) (by kernel_rfl) (by kernel_rfl) (fun _ _ _ h => h) (Or.inl ⟨by rfl, ?_⟩) hHeld ?_
          rotate_left 1
          · intro u hSu
            have hO := K2.out.1.keep hSu.out
            obtain ⟨t0, t1⟩ := row_cells hO.t
            have hll := hO.tg.l
            rw [HE1.out] at hll t1
            obtain ⟨r0, r1, r2, r3⟩ := rdl_at2 hll HTT.out
            obtain ⟨d0, d1, d2, d3, d4⟩ := row5 (K2.out.2.1.keep hSu.out).bx
            go_simp
            first | done | with_reducible rfl
          (try simp only [Act.put, List.setIfInBounds_toArray, List.set_cons_zero, List.set_cons_succ])
          refine wpAnyH_take (i := 9) (oi := { dst := some 112, op := Op.extract (Operand.tmp 103) 0, type := 73, pos := "law.go:155", after := #[{ on := 8, ground := Ground.data }], guard := none }) (v := ?_) rfl (by kernel_rfl) (by kernel_rfl) (by kernel_rfl) (fun _ _ _ h => h) (Or.inl ⟨by rfl, ?_⟩) hHeld ?_
          rotate_left 1
          · intro u hSu
            have hO := K2.out.1.keep hSu.out
            obtain ⟨t0, t1⟩ := row_cells hO.t
            have hll := hO.tg.l
            rw [HE1.out] at hll t1
            obtain ⟨r0, r1, r2, r3⟩ := rdl_at2 hll HTT.out
            obtain ⟨d0, d1, d2, d3, d4⟩ := row5 (K2.out.2.1.keep hSu.out).bx
            go_simp
            first | done | with_reducible rfl
          (try simp only [Act.put, List.setIfInBounds_toArray, List.set_cons_zero, List.set_cons_succ])
          refine wpAnyH_take (i := 10) (oi := { dst := some 113, op := Op.extract (Operand.tmp 103) 1, type := 4, pos := "law.go:155", after := #[{ on := 8, ground := Ground.data }, { on := 12, ground := Ground.gcOnly Departure.lateStores }], guard := none }) (v := ?_) rfl (by kernel_rfl) (by kernel_rfl) (by kernel_rfl) (fun _ _ _ h => h) (Or.inl ⟨by rfl, ?_⟩) hHeld ?_
          rotate_left 1
          · intro u hSu
            have hO := K2.out.1.keep hSu.out
            obtain ⟨t0, t1⟩ := row_cells hO.t
            have hll := hO.tg.l
            rw [HE1.out] at hll t1
            obtain ⟨r0, r1, r2, r3⟩ := rdl_at2 hll HTT.out
            obtain ⟨d0, d1, d2, d3, d4⟩ := row5 (K2.out.2.1.keep hSu.out).bx
            go_simp
            first | done | with_reducible rfl
          (try simp only [Act.put, List.setIfInBounds_toArray, List.set_cons_zero, List.set_cons_succ])
          refine wpAnyH_ready (rs := [12]) (by kernel_rfl) (by simp) ?_
          refine AllReadyH.cons (o := { dst := none, op := Op.store 73 (Operand.tmp 15) (Operand.tmp 112), type := 0, pos := "law.go:155", after := #[{ on := 11, ground := Ground.data }, { on := 9, ground := Ground.data }, { on := 7, ground := Ground.chain }, { on := 0, ground := Ground.phase }, { on := 1, ground := Ground.phase }, { on := 2, ground := Ground.phase }, { on := 3, ground := Ground.phase }, { on := 4, ground := Ground.phase }, { on := 5, ground := Ground.phase }, { on := 6, ground := Ground.phase }, { on := 7, ground := Ground.phase }, { on := 8, ground := Ground.phase }, { on := 9, ground := Ground.phase }, { on := 10, ground := Ground.textOnly Departure.lateStores }, { on := 11, ground := Ground.phase }], guard := none }) rfl (fun Kz hK => ?_) AllReadyH.nil
          have hna := HS9.out _ rfl
          obtain ⟨k0, k1, k2⟩ := row3 hna.ab
          have f0 := frozen_of_row _ _ 0 _ _ hna.ab
          have f1 := frozen_of_row _ _ 1 _ _ hna.ab
          have f2 := frozen_of_row _ _ 2 _ _ hna.ab
          obtain ⟨s1, s2⟩ := store3r (.int .i64 x.a) (.int .i64 x.b) (.int .i64 x.c) hna.ab
          have HE := Lib.hid (And.intro s1 (grown_new hHeld.out s2 hna.lo))
          go_simp
          clear k0 k1 k2 f0 f1 f2 s1 s2 hna
          refine hK.out _ _ (Lib.hid HE.out.2) (fun hH2 => ?_)
          clear hK Kz hHeld
          have hHeld := hH2
          clear hH2
          (try simp only [Act.put, List.setIfInBounds_toArray, List.set_cons_zero, List.set_cons_succ])
          refine wpAnyH_take (i := 13) (oi := { dst := some 16, op := Op.assign (Operand.tmp 113), type := 4, pos := "law.go:155", after := #[{ on := 10, ground := Ground.data }, { on := 12, ground := Ground.chain }, { on := 0, ground := Ground.phase }, { on := 1, ground := Ground.phase }, { on := 2, ground := Ground.phase }, { on := 3, ground := Ground.phase }, { on := 4, ground := Ground.phase }, { on := 5, ground := Ground.phase }, { on := 6, ground := Ground.phase }, { on := 7, ground := Ground.phase }, { on := 8, ground := Ground.phase }, { on := 9, ground := Ground.phase }, { on := 10, ground := Ground.phase }, { on := 11, ground := Ground.phase }, { on := 12, ground := Ground.phase }], guard := none }) (v := ?_) rfl (by kernel_rfl) (by kernel_rfl) (by kernel_rfl) (fun _ _ _ h => h) (Or.inl ⟨by rfl, ?_⟩) hHeld ?_
          rotate_left 1
          · intro u hSu
            have hO := K2.out.1.keep hSu.out
            obtain ⟨t0, t1⟩ := row_cells hO.t
            have hll := hO.tg.l
            rw [HE1.out] at hll t1
            obtain ⟨r0, r1, r2, r3⟩ := rdl_at2 hll HTT.out
            obtain ⟨d0, d1, d2, d3, d4⟩ := row5 (K2.out.2.1.keep hSu.out).bx
            go_simp
            first | done | with_reducible rfl
          (try simp only [Act.put, List.setIfInBounds_toArray, List.set_cons_zero, List.set_cons_succ])
          refine wpAnyH_done (by kernel_rfl) ?_ _
          clear HD hHeld hHn HS9
          go_wp2_with fail
          go_meet
          exact ⟨_, _, _, _, rfl, rfl, HR1.out.2, HE⟩
      case rest =>
      obtain ⟨b3, u1, u2, u3, rfl, rfl, rfl, HB3⟩ := hcut
      have K3 := Lib.hid (And.intro (K2.out.1.keep HB3.out.2) (And.intro (K2.out.2.2.keep HB3.out.2) HB3.out.1))
      clear K2 HB3 HR1 wq
      rename World => wq
      go_upto_region 19 with fail
      go_cut [17, 18] from 114 to 124 (fun u o wx => ∃ (b : Nat) (y1 y2 y3 : Int), u = .pointer (some ⟨b, 0, none⟩) ∧ o = .bool true ∧ y2 = m.cb ∧ Hid (wx.heap[b]? = some (.cells #[.int .i64 y1, .int .i64 y2, .int .i64 y3] 73 (0, 0)) ∧ wq.grownBy wx none))
      case first =>
        have HD := Lib.hid (grown_drew (grown_refl wq none))
        refine wp_region_held_drew (S := fun w' => Hid (wq.grownBy w' none)) (by kernel_rfl) (HD) (fun hHeld => ?_)
        generalize hwd : wq.drew = wd at *
        clear hwd
        refine wpAnyH_take (i := 0) (oi := { dst := some 115, op := Op.load 38 (Operand.tmp 13), type := 38, pos := "law.go:156", after := #[], guard := none }) (v := ?_) rfl (by kernel_rfl) (by kernel_rfl) (by kernel_rfl) (fun _ _ _ h => h) (Or.inl ⟨by rfl, ?_⟩) hHeld ?_
        rotate_left 1
        · intro u hSu
          have hO := K3.out.1.keep hSu.out
          obtain ⟨t0, t1⟩ := row_cells hO.t
          have hll := hO.tg.l
          rw [HE1.out] at hll t1
          obtain ⟨r0, r1, r2, r3⟩ := rdl_at2 hll HTT.out
          obtain ⟨d0, d1, d2, d3, d4⟩ := row5 (K3.out.2.1.keep hSu.out).bx
          go_simp
          first | done | with_reducible rfl
        (try simp only [Act.put, List.setIfInBounds_toArray, List.set_cons_zero, List.set_cons_succ])
        refine wpAnyH_take (i := 1) (oi := { dst := some 116, op := Op.fieldAddr 59 (Operand.tmp 6) 1, type := 0, pos := "law.go:156", after := #[], guard := none }) (v := ?_) rfl (by kernel_rfl) (by kernel_rfl) (by kernel_rfl) (fun _ _ _ h => h) (Or.inl ⟨by rfl, ?_⟩) hHeld ?_
        rotate_left 1
        · intro u hSu
          have hO := K3.out.1.keep hSu.out
          obtain ⟨t0, t1⟩ := row_cells hO.t
          have hll := hO.tg.l
          rw [HE1.out] at hll t1
          obtain ⟨r0, r1, r2, r3⟩ := rdl_at2 hll HTT.out
          obtain ⟨d0, d1, d2, d3, d4⟩ := row5 (K3.out.2.1.keep hSu.out).bx
          go_simp
          first | done | with_reducible rfl
        (try simp only [Act.put, List.setIfInBounds_toArray, List.set_cons_zero, List.set_cons_succ])
        refine wpAnyH_take (i := 2) (oi := { dst := some 117, op := Op.load 57 (Operand.tmp 116), type := 57, pos := "law.go:156", after := #[{ on := 1, ground := Ground.data }], guard := none }) (v := ?_) rfl (by kernel_rfl) (by kernel_rfl) (by kernel_rfl) (fun _ _ _ h => h) (Or.inl ⟨by rfl, ?_⟩) hHeld ?_
        rotate_left 1
        · intro u hSu
          have hO := K3.out.1.keep hSu.out
          obtain ⟨t0, t1⟩ := row_cells hO.t
          have hll := hO.tg.l
          rw [HE1.out] at hll t1
          obtain ⟨r0, r1, r2, r3⟩ := rdl_at2 hll HTT.out
          obtain ⟨d0, d1, d2, d3, d4⟩ := row5 (K3.out.2.1.keep hSu.out).bx
          go_simp
          first | done | with_reducible rfl
        (try simp only [Act.put, List.setIfInBounds_toArray, List.set_cons_zero, List.set_cons_succ])
        refine wpAnyH_take (i := 3) (oi := { dst := some 118, op := Op.move (Operand.tmp 10), type := 3, pos := "law.go:156", after := #[], guard := none }) (v := ?_) rfl (by kernel_rfl) (by kernel_rfl) (by kernel_rfl) (fun _ _ _ h => h) (Or.inl ⟨by rfl, ?_⟩) hHeld ?_
        rotate_left 1
        · intro u hSu
          have hO := K3.out.1.keep hSu.out
          obtain ⟨t0, t1⟩ := row_cells hO.t
          have hll := hO.tg.l
          rw [HE1.out] at hll t1
          obtain ⟨r0, r1, r2, r3⟩ := rdl_at2 hll HTT.out
          obtain ⟨d0, d1, d2, d3, d4⟩ := row5 (K3.out.2.1.keep hSu.out).bx
          go_simp
          first | done | with_reducible rfl
        (try simp only [Act.put, List.setIfInBounds_toArray, List.set_cons_zero, List.set_cons_succ])
        refine wpAnyH_take (i := 4) (oi := { dst := some 119, op := Op.indexAddr 57 (Operand.tmp 117) (Operand.tmp 118), type := 0, pos := "law.go:156", after := #[{ on := 2, ground := Ground.data }, { on := 3, ground := Ground.data }], guard := none }) (v := ?_) rfl (by kernel_rfl) (by kernel_rfl) (by kernel_rfl) (fun _ _ _ h => h) (Or.inl ⟨by rfl, ?_⟩) hHeld ?_
        rotate_left 1
        · intro u hSu
          have hO := K3.out.1.keep hSu.out
          obtain ⟨t0, t1⟩ := row_cells hO.t
          have hll := hO.tg.l
          rw [HE1.out] at hll t1
          obtain ⟨r0, r1, r2, r3⟩ := rdl_at2 hll HTT.out
          obtain ⟨d0, d1, d2, d3, d4⟩ := row5 (K3.out.2.1.keep hSu.out).bx
          go_simp
          first | done | with_reducible rfl
        (try simp only [Act.put, List.setIfInBounds_toArray, List.set_cons_zero, List.set_cons_succ])
        refine wpAnyH_take (i := 5) (oi := { dst := some 120, op := Op.fieldAddr 71 (Operand.tmp 119) 0, type := 0, pos := "law.go:156", after := #[{ on := 4, ground := Ground.data }], guard := none }) (v := ?_) rfl (by kernel_rfl) (by kernel_rfl) (by kernel_rfl) (fun _ _ _ h => h) (Or.inl ⟨by rfl, ?_⟩) hHeld ?_
        rotate_left 1
        · intro u hSu
          have hO := K3.out.1.keep hSu.out
          obtain ⟨t0, t1⟩ := row_cells hO.t
          have hll := hO.tg.l
          rw [HE1.out] at hll t1
          obtain ⟨r0, r1, r2, r3⟩ := rdl_at2 hll HTT.out
          obtain ⟨d0, d1, d2, d3, d4⟩ := row5 (K3.out.2.1.keep hSu.out).bx
          go_simp
          first | done | with_reducible rfl
        (try simp only [Act.put, List.setIfInBounds_toArray, List.set_cons_zero, List.set_cons_succ])
        refine wpAnyH_take (i := 6) (oi := { dst := some 121, op := Op.load 3 (Operand.tmp 120), type := 3, pos := "law.go:156", after := #[{ on := 5, ground := Ground.data }], guard := none }) (v := ?_) rfl (by kernel_rfl) (by kernel_rfl) (by kernel_rfl) (fun _ _ _ h => h) (Or.inl ⟨by rfl, ?_⟩) hHeld ?_
        rotate_left 1
        · intro u hSu
          have hO := K3.out.1.keep hSu.out
          obtain ⟨t0, t1⟩ := row_cells hO.t
          have hll := hO.tg.l
          rw [HE1.out] at hll t1
          obtain ⟨r0, r1, r2, r3⟩ := rdl_at2 hll HTT.out
          obtain ⟨d0, d1, d2, d3, d4⟩ := row5 (K3.out.2.1.keep hSu.out).bx
          go_simp
          first | done | with_reducible rfl
        (try simp only [Act.put, List.setIfInBounds_toArray, List.set_cons_zero, List.set_cons_succ])
        refine wpAnyH_ready (rs := [7, 11]) (by kernel_rfl) (by simp) ?_
        refine AllReadyH.cons (o := { dst := some 122, op := Op.call { callee := Callee.value (Operand.func 39), args := #[Operand.tmp 115, Operand.tmp 121], argTypes := #[38, 3] }, type := 74, pos := "law.go:156", after := #[{ on := 0, ground := Ground.data }, { on := 6, ground := Ground.data }], guard := none }) rfl (fun Kz hK => ?_) (AllReadyH.cons (o := { dst := some 17, op := Op.alloc 73, type := 0, pos := "law.go:156", after := #[], guard := none }) rfl (fun Kz hK => ?_) AllReadyH.nil)
        · go_simp
          go_at_call 39
          refine (rreach_any A2 m.a _ _ ((K3.out.2.1.keep hHeld.out).ok)).mono ?_
          rintro e w5 ⟨rfl, hg⟩
          rw [rcV_some HR2.out.1, HR2.out.1]
          simp only [Option.isSome_some]
          have hHn := Lib.hid (grown_trans hHeld.out hg)
          try replace HS9 := Lib.hid (show ∀ b, b = _ → _ from fun b hb => (HS9.out b hb).keep hg)
          clear hg
          refine hK.out _ _ (hHn) (fun hH2 => ?_)
          clear hK Kz hHeld
          have hHeld := hH2
          clear hH2
          (try simp only [Act.put, List.setIfInBounds_toArray, List.set_cons_zero, List.set_cons_succ])
          refine wpAnyH_take (i := 8) (oi := { dst := some 114, op := Op.move (Operand.tmp 122), type := 74, pos := "law.go:156", after := #[{ on := 7, ground := Ground.data }], guard := none }) (v := ?_) rfl (by kernel_rfl) (by kernel_rfl) (by kernel_rfl) (fun _ _ _ h => h) (Or.inl ⟨by rfl, ?_⟩) hHeld ?_
          rotate_left 1
          · intro u hSu
            have hO := K3.out.1.keep hSu.out
            obtain ⟨t0, t1⟩ := row_cells hO.t
            have hll := hO.tg.l
            rw [HE1.out] at hll t1
            obtain ⟨r0, r1, r2, r3⟩ := rdl_at2 hll HTT.out
            obtain ⟨d0, d1, d2, d3, d4⟩ := row5 (K3.out.2.1.keep hSu.out).bx
            go_simp
            first | done | with_reducible rfl
          (try simp only [Act.put, List.setIfInBounds_toArray, List.set_cons_zero, List.set_cons_succ])
          refine wpAnyH_take (i := 9) (oi := { dst := some 123, op := Op.extract (Operand.tmp 114) 0, type := 73, pos := "law.go:156", after := #[{ on := 8, ground := Ground.data }], guard := none }) (v := ?_) rfl (by kernel_rfl) (by kernel_rfl) (by kernel_rfl) (fun _ _ _ h => h) (Or.inl ⟨by rfl, ?_⟩) hHeld ?_
          rotate_left 1
          · intro u hSu
            have hO := K3.out.1.keep hSu.out
            obtain ⟨t0, t1⟩ := row_cells hO.t
            have hll := hO.tg.l
            rw [HE1.out] at hll t1
            obtain ⟨r0, r1, r2, r3⟩ := rdl_at2 hll HTT.out
            obtain ⟨d0, d1, d2, d3, d4⟩ := row5 (K3.out.2.1.keep hSu.out).bx
            go_simp
            first | done | with_reducible rfl
          (try simp only [Act.put, List.setIfInBounds_toArray, List.set_cons_zero, List.set_cons_succ])
          refine wpAnyH_take (i := 10) (oi := { dst := some 124, op := Op.extract (Operand.tmp 114) 1, type := 4, pos := "law.go:156", after := #[{ on := 8, ground := Ground.data }, { on := 12, ground := Ground.gcOnly Departure.lateStores }], guard := none }) (v := ?_) rfl (by kernel_rfl) (by kernel_rfl) (by kernel_rfl) (fun _ _ _ h => h) (Or.inl ⟨by rfl, ?_⟩) hHeld ?_
          rotate_left 1
          · intro u hSu
            have hO := K3.out.1.keep hSu.out
            obtain ⟨t0, t1⟩ := row_cells hO.t
            have hll := hO.tg.l
            rw [HE1.out] at hll t1
            obtain ⟨r0, r1, r2, r3⟩ := rdl_at2 hll HTT.out
            obtain ⟨d0, d1, d2, d3, d4⟩ := row5 (K3.out.2.1.keep hSu.out).bx
            go_simp
            first | done | with_reducible rfl
          (try simp only [Act.put, List.setIfInBounds_toArray, List.set_cons_zero, List.set_cons_succ])
          refine wpAnyH_ready (rs := [11]) (by kernel_rfl) (by simp) ?_
          refine AllReadyH.cons (o := { dst := some 17, op := Op.alloc 73, type := 0, pos := "law.go:156", after := #[], guard := none }) rfl (fun Kz hK => ?_) AllReadyH.nil
          go_simp
          have HSN := nx_start #[.int .i64 0, .int .i64 0, .int .i64 0] 73 hHeld.out
          have hHn := Lib.hid (grown_trans hHeld.out (World.grownBy_alloc _ (.cells #[.int .i64 0, .int .i64 0, .int .i64 0] 73) none))
          have HS9 := Lib.hid HSN
          clear HSN
          generalize hwa : World.alloc _ _ = wA at *
          clear hwa
          refine hK.out _ _ (hHn) (fun hH2 => ?_)
          clear hK Kz hHeld
          have hHeld := hH2
          clear hH2
          (try simp only [Act.put, List.setIfInBounds_toArray, List.set_cons_zero, List.set_cons_succ])
          refine wpAnyH_ready (rs := [12]) (by kernel_rfl) (by simp) ?_
          refine AllReadyH.cons (o := { dst := none, op := Op.store 73 (Operand.tmp 17) (Operand.tmp 123), type := 0, pos := "law.go:156", after := #[{ on := 11, ground := Ground.data }, { on := 9, ground := Ground.data }, { on := 7, ground := Ground.chain }, { on := 0, ground := Ground.phase }, { on := 1, ground := Ground.phase }, { on := 2, ground := Ground.phase }, { on := 3, ground := Ground.phase }, { on := 4, ground := Ground.phase }, { on := 5, ground := Ground.phase }, { on := 6, ground := Ground.phase }, { on := 7, ground := Ground.phase }, { on := 8, ground := Ground.phase }, { on := 9, ground := Ground.phase }, { on := 10, ground := Ground.textOnly Departure.lateStores }, { on := 11, ground := Ground.phase }], guard := none }) rfl (fun Kz hK => ?_) AllReadyH.nil
          have hna := HS9.out _ rfl
          obtain ⟨k0, k1, k2⟩ := row3 hna.ab
          have f0 := frozen_of_row _ _ 0 _ _ hna.ab
          have f1 := frozen_of_row _ _ 1 _ _ hna.ab
          have f2 := frozen_of_row _ _ 2 _ _ hna.ab
          obtain ⟨s1, s2⟩ := store3r (.int .i64 y.a) (.int .i64 y.b) (.int .i64 y.c) hna.ab
          have HE := Lib.hid (And.intro s1 (grown_new hHeld.out s2 hna.lo))
          go_simp
          clear k0 k1 k2 f0 f1 f2 s1 s2 hna
          refine hK.out _ _ (Lib.hid HE.out.2) (fun hH2 => ?_)
          clear hK Kz hHeld
          have hHeld := hH2
          clear hH2
          (try simp only [Act.put, List.setIfInBounds_toArray, List.set_cons_zero, List.set_cons_succ])
          refine wpAnyH_take (i := 13) (oi := { dst := some 18, op := Op.assign (Operand.tmp 124), type := 4, pos := "law.go:156", after := #[{ on := 10, ground := Ground.data }, { on := 12, ground := Ground.chain }, { on := 0, ground := Ground.phase }, { on := 1, ground := Ground.phase }, { on := 2, ground := Ground.phase }, { on := 3, ground := Ground.phase }, { on := 4, ground := Ground.phase }, { on := 5, ground := Ground.phase }, { on := 6, ground := Ground.phase }, { on := 7, ground := Ground.phase }, { on := 8, ground := Ground.phase }, { on := 9, ground := Ground.phase }, { on := 10, ground := Ground.phase }, { on := 11, ground := Ground.phase }, { on := 12, ground := Ground.phase }], guard := none }) (v := ?_) rfl (by kernel_rfl) (by kernel_rfl) (by kernel_rfl) (fun _ _ _ h => h) (Or.inl ⟨by rfl, ?_⟩) hHeld ?_
          rotate_left 1
          · intro u hSu
            have hO := K3.out.1.keep hSu.out
            obtain ⟨t0, t1⟩ := row_cells hO.t
            have hll := hO.tg.l
            rw [HE1.out] at hll t1
            obtain ⟨r0, r1, r2, r3⟩ := rdl_at2 hll HTT.out
            obtain ⟨d0, d1, d2, d3, d4⟩ := row5 (K3.out.2.1.keep hSu.out).bx
            go_simp
            first | done | with_reducible rfl
          (try simp only [Act.put, List.setIfInBounds_toArray, List.set_cons_zero, List.set_cons_succ])
          refine wpAnyH_done (by kernel_rfl) ?_ _
          clear HD hHeld hHn HS9
          go_wp2_with fail
          go_meet
          exact ⟨_, _, _, _, rfl, rfl, HR2.out.2, HE⟩
        · go_simp
          have HSN := nx_start #[.int .i64 0, .int .i64 0, .int .i64 0] 73 hHeld.out
          have hHn := Lib.hid (grown_trans hHeld.out (World.grownBy_alloc _ (.cells #[.int .i64 0, .int .i64 0, .int .i64 0] 73) none))
          have HS9 := Lib.hid HSN
          clear HSN
          generalize hwa : World.alloc _ _ = wA at *
          clear hwa
          refine hK.out _ _ (hHn) (fun hH2 => ?_)
          clear hK Kz hHeld
          have hHeld := hH2
          clear hH2
          (try simp only [Act.put, List.setIfInBounds_toArray, List.set_cons_zero, List.set_cons_succ])
          refine wpAnyH_ready (rs := [7]) (by kernel_rfl) (by simp) ?_
          refine AllReadyH.cons (o := { dst := some 122, op := Op.call { callee := Callee.value (Operand.func 39), args := #[Operand.tmp 115, Operand.tmp 121], argTypes := #[38, 3] }, type := 74, pos := "law.go:156", after := #[{ on := 0, ground := Ground.data }, { on := 6, ground := Ground.data }], guard := none }) rfl (fun Kz hK => ?_) AllReadyH.nil
          go_simp
          go_at_call 39
          refine (rreach_any A2 m.a _ _ ((K3.out.2.1.keep hHeld.out).ok)).mono ?_
          rintro e w5 ⟨rfl, hg⟩
          rw [rcV_some HR2.out.1, HR2.out.1]
          simp only [Option.isSome_some]
          have hHn := Lib.hid (grown_trans hHeld.out hg)
          try replace HS9 := Lib.hid (show ∀ b, b = _ → _ from fun b hb => (HS9.out b hb).keep hg)
          clear hg
          refine hK.out _ _ (hHn) (fun hH2 => ?_)
          clear hK Kz hHeld
          have hHeld := hH2
          clear hH2
          (try simp only [Act.put, List.setIfInBounds_toArray, List.set_cons_zero, List.set_cons_succ])
          refine wpAnyH_take (i := 8) (oi := { dst := some 114, op := Op.move (Operand.tmp 122), type := 74, pos := "law.go:156", after := #[{ on := 7, ground := Ground.data }], guard := none }) (v := ?_) rfl (by kernel_rfl) (by kernel_rfl) (by kernel_rfl) (fun _ _ _ h => h) (Or.inl ⟨by rfl, ?_⟩) hHeld ?_
          rotate_left 1
          · intro u hSu
            have hO := K3.out.1.keep hSu.out
            obtain ⟨t0, t1⟩ := row_cells hO.t
            have hll := hO.tg.l
            rw [HE1.out] at hll t1
            obtain ⟨r0, r1, r2, r3⟩ := rdl_at2 hll HTT.out
            obtain ⟨d0, d1, d2, d3, d4⟩ := row5 (K3.out.2.1.keep hSu.out).bx
            go_simp
            first | done | with_reducible rfl
          (try simp only [Act.put, List.setIfInBounds_toArray, List.set_cons_zero, List.set_cons_succ])
          refine wpAnyH_take (i := 9) (oi := { dst := some 123, op := Op.extract (Operand.tmp 114) 0, type := 73, pos := "law.go:156", after := #[{ on := 8, ground := Ground.data }], guard := none }) (v := ?_) rfl (by kernel_rfl) (by kernel_rfl) (by kernel_rfl) (fun _ _ _ h => h) (Or.inl ⟨by rfl, ?_⟩) hHeld ?_
          rotate_left 1
          · intro u hSu
            have hO := K3.out.1.keep hSu.out
            obtain ⟨t0, t1⟩ := row_cells hO.t
            have hll := hO.tg.l
            rw [HE1.out] at hll t1
            obtain ⟨r0, r1, r2, r3⟩ := rdl_at2 hll HTT.out
            obtain ⟨d0, d1, d2, d3, d4⟩ := row5 (K3.out.2.1.keep hSu.out).bx
            go_simp
            first | done | with_reducible rfl
          (try simp only [Act.put, List.setIfInBounds_toArray, List.set_cons_zero, List.set_cons_succ])
          refine wpAnyH_take (i := 10) (oi := { dst := some 124, op := Op.extract (Operand.tmp 114) 1, type := 4, pos := "law.go:156", after := #[{ on := 8, ground := Ground.data }, { on := 12, ground := Ground.gcOnly Departure.lateStores }], guard := none }) (v := ?_) rfl (by kernel_rfl) (by kernel_rfl) (by kernel_rfl) (fun _ _ _ h => h) (Or.inl ⟨by rfl, ?_⟩) hHeld ?_
          rotate_left 1
          · intro u hSu
            have hO := K3.out.1.keep hSu.out
            obtain ⟨t0, t1⟩ := row_cells hO.t
            have hll := hO.tg.l
            rw [HE1.out] at hll t1
            obtain ⟨r0, r1, r2, r3⟩ := rdl_at2 hll HTT.out
            obtain ⟨d0, d1, d2, d3, d4⟩ := row5 (K3.out.2.1.keep hSu.out).bx
            go_simp
            first | done | with_reducible rfl
          (try simp only [Act.put, List.setIfInBounds_toArray, List.set_cons_zero, List.set_cons_succ])
          refine wpAnyH_ready (rs := [12]) (by kernel_rfl) (by simp) ?_
          refine AllReadyH.cons (o := { dst := none, op := Op.store 73 (Operand.tmp 17) (Operand.tmp 123), type := 0, pos := "law.go:156", after := #[{ on := 11, ground := Ground.data }, { on := 9, ground := Ground.data }, { on := 7, ground := Ground.chain }, { on := 0, ground := Ground.phase }, { on := 1, ground := Ground.phase }, { on := 2, ground := Ground.phase }, { on := 3, ground := Ground.phase }, { on := 4, ground := Ground.phase }, { on := 5, ground := Ground.phase }, { on := 6, ground := Ground.phase }, { on := 7, ground := Ground.phase }, { on := 8, ground := Ground.phase }, { on := 9, ground := Ground.phase }, { on := 10, ground := Ground.textOnly Departure.lateStores }, { on := 11, ground := Ground.phase }], guard := none }) rfl (fun Kz hK => ?_) AllReadyH.nil
          have hna := HS9.out _ rfl
          obtain ⟨k0, k1, k2⟩ := row3 hna.ab
          have f0 := frozen_of_row _ _ 0 _ _ hna.ab
          have f1 := frozen_of_row _ _ 1 _ _ hna.ab
          have f2 := frozen_of_row _ _ 2 _ _ hna.ab
          obtain ⟨s1, s2⟩ := store3r (.int .i64 y.a) (.int .i64 y.b) (.int .i64 y.c) hna.ab
          have HE := Lib.hid (And.intro s1 (grown_new hHeld.out s2 hna.lo))
          go_simp
          clear k0 k1 k2 f0 f1 f2 s1 s2 hna
          refine hK.out _ _ (Lib.hid HE.out.2) (fun hH2 => ?_)
          clear hK Kz hHeld
          have hHeld := hH2
          clear hH2
          (try simp only [Act.put, List.setIfInBounds_toArray, List.set_cons_zero, List.set_cons_succ])
          refine wpAnyH_take (i := 13) (oi := { dst := some 18, op := Op.assign (Operand.tmp 124), type := 4, pos := "law.go:156", after := #[{ on := 10, ground := Ground.data }, { on := 12, ground := Ground.chain }, { on := 0, ground := Ground.phase }, { on := 1, ground := Ground.phase }, { on := 2, ground := Ground.phase }, { on := 3, ground := Ground.phase }, { on := 4, ground := Ground.phase }, { on := 5, ground := Ground.phase }, { on := 6, ground := Ground.phase }, { on := 7, ground := Ground.phase }, { on := 8, ground := Ground.phase }, { on := 9, ground := Ground.phase }, { on := 10, ground := Ground.phase }, { on := 11, ground := Ground.phase }, { on := 12, ground := Ground.phase }], guard := none }) (v := ?_) rfl (by kernel_rfl) (by kernel_rfl) (by kernel_rfl) (fun _ _ _ h => h) (Or.inl ⟨by rfl, ?_⟩) hHeld ?_
          rotate_left 1
          · intro u hSu
            have hO := K3.out.1.keep hSu.out
            obtain ⟨t0, t1⟩ := row_cells hO.t
            have hll := hO.tg.l
            rw [HE1.out] at hll t1
            obtain ⟨r0, r1, r2, r3⟩ := rdl_at2 hll HTT.out
            obtain ⟨d0, d1, d2, d3, d4⟩ := row5 (K3.out.2.1.keep hSu.out).bx
            go_simp
            first | done | with_reducible rfl
          (try simp only [Act.put, List.setIfInBounds_toArray, List.set_cons_zero, List.set_cons_succ])
          refine wpAnyH_done (by kernel_rfl) ?_ _
          clear HD hHeld hHn HS9
          go_wp2_with fail
          go_meet
          exact ⟨_, _, _, _, rfl, rfl, HR2.out.2, HE⟩
      case rest =>
      obtain ⟨b4, v1, v2, v3, rfl, rfl, rfl, HB4⟩ := hcut
      have K4 := Lib.hid (And.intro (K3.out.1.keep HB4.out.2) (And.intro (kept_row K3.out.2.2 HB4.out.2 (by simp)) HB4.out.1))
      clear K3 HB4 HR2 wq
      rename World => wq
      obtain ⟨t0, t1⟩ := row_cells K4.out.1.t
      have hll := K4.out.1.tg.l
      rw [HE1.out] at hll t1
      obtain ⟨r0, r1, r2, r3⟩ := rdl_at2 hll HTT.out
      obtain ⟨x0, x1, x2⟩ := row3 K4.out.2.1
      obtain ⟨y0, y1, y2⟩ := row3 K4.out.2.2
      have HN := fun n9 : Nat => Lib.hid (K4.out.1.keep (grown_drewN wq n9 none))
      clear K4 hll
      go_wp2_with fail
      go_quiet (fail)
      go_wp2_with fail
      exact ⟨⟨k + 1, by omega, congrArg _ (by omega), HN _⟩, by simp only [RowKit.intOf]; omega⟩
    · obtain rfl : k = T.L.length := by omega
      go_wp2_with fail
      refine (dawake_any _).mono ?_
      rintro e w5 ⟨rfl, hg⟩
      have HG := Lib.hid (grown_trans K.out.gr hg)
      clear hg K t0 t1
      go_wp2_with fail
      go_ret
      exact ⟨rfl, HG.out⟩
end Go.Proofs.Ytnpkihioklpnmaa

/- Parts of the proof, packed: ToMix, DbOfRt, AdTapB, DbM, DbVM, DbPlc. -/
import Derived.Test.YtnpkihioklpnmaaDo12
import Derived.Test.YtnpkihioklpnmaaDo9
import Derived.Test.YtnpkihioklpnmaaDo6
import Derived.Test.YtnpkihioklpnmaaDo1
import Derived.Deep.RegionHeld3
import Derived.Deep.CutBlock
import Derived.Deep.CutRange
import Derived.Test.YtnpkihioklpnmaaDo4
import Derived.Test.YtnpkihioklpnmaaDo2
import Derived.Test.YtnpkihioklpnmaaDo5
/- The tape's Router and Mixed. -/
namespace Go.Proofs.Ytnpkihioklpnmaa
open Go.RowKit Bs
/-- While a router is drawn: the topology's box. -/
structure RM (a : Nat) (w : World) (T : Tg) (q : Nat → Prop) (wr : World) : Prop where
  tb : wr.heap[w.heap.size]? = some (.cells #[.slice T.pR T.R.length T.cR, .slice T.pL T.L.length T.cL] 59 (0, 0))
  t : TgOk wr q T
  st : St a w wr
set_option maxRecDepth 100000 in
theorem RM.keep {a : Nat} {w wr w1 : World} {T : Tg} {q : Nat → Prop} (h : RM a w T q wr) (g : wr.grownBy w1 none) : RM a w T q w1 :=
  ⟨kept_row h.tb g (by simp), h.t.keep g, h.st.trans ⟨grown_none g _, h.st.2.keep g⟩⟩
set_option maxRecDepth 100000 in
theorem RM.tape {a : Nat} {w wr w1 : World} {T : Tg} {q : Nat → Prop} (h : RM a w T q wr) (ha : a < w.heap.size) (hq : ∀ b, q b → b ≠ a) (k : St a wr w1) : RM a w T q w1 :=
  ⟨kept_row h.tb k.1 (fun e => by have := Option.some.inj e; omega), h.t.grown k.1 (fun b hb e => hq b hb (Option.some.inj e)), h.st.trans k⟩
set_option maxRecDepth 100000 in
theorem RM.rt {a : Nat} {w wr : World} {R : List Rt} {L : List Lk} {pL : Option Addr} {cR cL b off i : Nat} {q : Nat → Prop} {m : Rt} (h : RM a w ⟨R, L, some ⟨b, off, none⟩, cR, pL, cL⟩ q wr) (hm : R[i]? = some m) :
    wr.cell? ⟨b, off + i * 2, none⟩ = some (.int .i64 m.id) ∧ wr.cell? ⟨b, off + i * 2 + 1, none⟩ = some (.bool m.cap) := by
  have h1 := (List.getElem?_eq_some_iff.1 hm).1
  obtain ⟨-, b', off', e, -, hc⟩ := rdr_cells (R := R) h.t.r (by omega)
  injection e with e
  injection e with e4 e5
  subst e4
  subst e5
  exact hc i m hm
/-- While routers turn capable or not: the topology's block B. -/
structure MK (a : Nat) (w : World) (B : Nat) (vR vL : Value) (R : List Rt) (L : List Lk) (wr : World) : Prop where
  gb : wr.heap[B]? = some (.cells #[vR, vL] 59 (0, 0))
  rb : wr.heap[w.heap.size]? = some (.cells #[.slice none 0 0, .slice none 0 0] 59 (0, 0))
  oR : wr.ownsRow (w.heap.size + 1) 69 2 vR R.length (R.flatMap rtC)
  oL : wr.ownsRow (w.heap.size + 1) 71 5 vL L.length (L.flatMap lkC)
  ap : ∀ g, vR.ownBlock = some g → vL.ownBlock ≠ some g
  nR : vR.ownBlock ≠ some B
  st : St a w wr
  bb : w.heap.size + 1 ≤ B
set_option maxRecDepth 100000 in
theorem MK.keep {a B : Nat} {w wr w1 : World} {vR vL : Value} {R : List Rt} {L : List Lk} (h : MK a w B vR vL R L wr) (g : wr.grownBy w1 none) : MK a w B vR vL R L w1 :=
  ⟨kept_row h.gb g (by simp), kept_row h.rb g (by simp), h.oR.kept g (by cases hv : vR.ownBlock <;> simp), h.oL.kept g (by cases hv : vL.ownBlock <;> simp), h.ap, h.nR, h.st.trans ⟨grown_none g _, h.st.2.keep g⟩, h.bb⟩
set_option maxRecDepth 100000 in
theorem MK.tape {a B : Nat} {w wr w1 : World} {vR vL : Value} {R : List Rt} {L : List Lk} (h : MK a w B vR vL R L wr) (ha : a < w.heap.size) (k : St a wr w1) : MK a w B vR vL R L w1 :=
  ⟨kept_row h.gb k.1 (fun e => by have := Option.some.inj e; have := h.bb; omega), kept_row h.rb k.1 (fun e => by have := Option.some.inj e; omega), own_other h.oR k.1 (by omega), own_other h.oL k.1 (by omega), h.ap, h.nR, h.st.trans k, h.bb⟩
set_option maxRecDepth 100000 in
theorem flat_setR : ∀ (R : List Rt) (k : Nat) (z : Bool), k < R.length → ∃ R' : List Rt, R'.length = R.length ∧ R'.map (·.id) = R.map (·.id) ∧ R'.flatMap rtC = (R.flatMap rtC).set (k * 2 + 1) (.bool z)
  | [], k, _, hk => absurd hk (Nat.not_lt_zero k)
  | m :: t, 0, z, _ => ⟨⟨m.id, z⟩ :: t, rfl, rfl, rfl⟩
  | m :: t, k + 1, z, hk => by
    obtain ⟨R', h1, h2, h3⟩ := flat_setR t k z (by simpa using hk)
    refine ⟨m :: R', by simp [h1], by rw [List.map_cons, h2, List.map_cons], ?_⟩
    rw [List.flatMap_cons, h3, List.flatMap_cons]
    have e : (k + 1) * 2 + 1 = (rtC m).length + (k * 2 + 1) := by
      show (k + 1) * 2 + 1 = 2 + (k * 2 + 1)
      omega
    rw [e, List.set_append_right _ _ (Nat.le_add_right _ _), Nat.add_sub_cancel_left]
set_option maxRecDepth 100000 in
theorem MK.setR {a B g n cap k : Nat} {w wr : World} {vL : Value} {R : List Rt} {L : List Lk} {z : Bool} (h : MK a w B (.slice (some ⟨g, 0, none⟩) n cap) vL R L wr) (ha : a < w.heap.size) (hk : k < R.length) :
    ∃ R' : List Rt, R'.length = R.length ∧ R'.map (·.id) = R.map (·.id) ∧ MK a w B (.slice (some ⟨g, 0, none⟩) n cap) vL R' L (wr.setCell ⟨g, k * 2 + 1, none⟩ (.bool z)) := by
  obtain ⟨R', hl, hm, hf⟩ := flat_setR R k z hk
  have hg0 := (h.oR.lt g rfl).1
  have hn : n = R.length := by
    obtain ⟨p, c, e, _⟩ := own_shape h.oR
    injection e
  subst hn
  obtain ⟨s1, s2⟩ := h.oR.stored (k * 2 + 1) (.bool z)
  refine ⟨R', hl, hm, kept_row h.gb s2 (fun e => h.nR (by rw [e]; rfl)), kept_row h.rb s2 (fun e => by have : w.heap.size = g := Option.some.inj e; omega), ?_, h.oL.kept s2 ?_, h.ap, h.nR, h.st.storeT s2 (by omega) ha, h.bb⟩
  · rw [hl, hf]; exact s1
  · cases hv : vL.ownBlock with
    | none => exact .inl rfl
    | some k => exact .inr (fun e => h.ap g rfl (by rw [hv, e]))
set_option maxRecDepth 100000 in
theorem MK.rtAt {a B g n cap k : Nat} {w wr : World} {vL : Value} {R : List Rt} {L : List Lk} {m : Rt} (h : MK a w B (.slice (some ⟨g, 0, none⟩) n cap) vL R L wr) (hm : R[k]? = some m) : wr.cell? ⟨g, k * 2 + 1, none⟩ = some (.bool m.cap) := by
  have h1 := (List.getElem?_eq_some_iff.1 hm).1
  have hn : n = R.length := by
    obtain ⟨p, c, e, _⟩ := own_shape h.oR
    injection e
  subst hn
  rw [h.oR.cellAt (k * 2 + 1) (by omega)]
  exact (flat_at rtC 2 (fun _ => rfl) R k 1 m hm (by decide)).trans rfl
set_option maxRecDepth 100000 in
theorem MK.frz {a B g n cap : Nat} {w wr : World} {vL : Value} {R : List Rt} {L : List Lk} (h : MK a w B (.slice (some ⟨g, 0, none⟩) n cap) vL R L wr) (j : Nat) : wr.frozen? ⟨g, j, none⟩ = false := by
  have hn : n = R.length := by
    obtain ⟨p, c, e, _⟩ := own_shape h.oR
    injection e
  subst hn
  exact h.oR.frozenAt j
set_option maxRecDepth 100000 in
set_option maxHeartbeats 3200000 in
theorem mixed_any (a most : Nat) (hm1 : 1 ≤ most) (hm8 : most ≤ 8) (w : World) (hT : Tp w a) :
    Calls Try.prog 40 #[.pointer (some ⟨a, 0, none⟩), .int .i64 (most : Int)] w fun e w' =>
      ∃ (R0 R : List Rt) (L : List Lk) (vR vL : Value), e = .returned (.agg #[vR, vL]) ∧ w'.ownsRow w.heap.size 69 2 vR R.length (R.flatMap rtC) ∧ w'.ownsRow w.heap.size 71 5 vL L.length (L.flatMap lkC) ∧ TopOf most 0 R0 L ∧ R.map (·.id) = R0.map (·.id) ∧ St a w w' := by
  have ha := hT.lt
  obtain ⟨k1, k2⟩ := tone_box w #[.slice none 0 0, .slice none 0 0] 59
  have HB := Lib.hid (And.intro k1 (And.intro k2 (hT.keep k2)))
  have hsz : w.heap.size + 1 = (w.alloc (.cells #[.slice none 0 0, .slice none 0 0] 59)).heap.size := by simp
  clear k1 k2 hT
  go_enter Try.func40, Try.ntmps40
  go_upto_region 1 with fail
  generalize w.alloc _ = wa at *
  go_wp2_with fail
  refine (topo_any a most 0 hm1 hm8 (by unfold I64; omega) wa HB.out.2.2).mono ?_
  rintro e w1 ⟨R0, L, vR, vL, rfl, hR, hL, hap, hO, hs⟩
  have gal := World.grownBy_alloc w1 (.cells #[vR, vL] 59) none
  have hw1 : wa.heap.size ≤ w1.heap.size := hs.1.size
  have HK0 : Hid (MK a w w1.heap.size vR vL R0 L (w1.alloc (.cells #[vR, vL] 59))) := Lib.hid ⟨heap_alloc_new w1 _, kept_row (kept_row HB.out.1 hs.1 (fun e => by have := Option.some.inj e; omega)) gal (by simp), (hR.mono (by omega)).alloc _, (hL.mono (by omega)).alloc _, hap, fun e => by have := (hR.lt _ e).2; omega, (show St a w w1 from ⟨grown_trans (grown_none HB.out.2.1 _) hs.1, hs.2⟩).trans ⟨grown_none gal _, hs.2.keep gal⟩, by omega⟩
  have HO := Lib.hid hO
  have hRl : R0.length ≤ 100 := by have := hO.2.2.1; omega
  obtain ⟨pR, cR, rfl, -, -⟩ := own_shape hR
  obtain ⟨pL, cL, rfl, -, -⟩ := own_shape hL
  clear hR hL hap hs gal hO HB
  obtain ⟨NR, hNR⟩ : ∃ NR, R0.length = NR := ⟨_, rfl⟩
  have HNR := Lib.hid hNR
  rw [hNR] at HK0 hRl
  rw [hNR]
  clear hNR
  go_upto_region 2 with fail
  generalize w1.alloc _ = w2 at *
  generalize w1.heap.size = B at *
  go_wp2_with fail
  go_loopw [6] (fun i wr => ∃ k : Nat, k ≤ NR ∧ i = .int .i64 (k : Int) ∧ ∃ R : List Rt, R.map (·.id) = R0.map (·.id) ∧ Hid (MK a w B (.slice pR NR cR) (.slice pL L.length cL) R L wr)) (fun i _ => NR - (RowKit.intOf i).toNat)
  case atStart => exact ⟨0, Nat.zero_le _, rfl, R0, rfl, HK0⟩
  case round =>
  obtain ⟨k, hk, rfl, R, hids, HK⟩ := hrel
  clear HK0
  have hRN : Hid (R.length = NR) := Lib.hid (by have := congrArg List.length hids; rw [List.length_map, List.length_map] at this; rw [this]; exact HNR.out)
  have HI := Lib.hid hids
  clear hids
  obtain ⟨c0, c1⟩ := row_cells HK.out.gb
  by_cases hlt : k < NR
  · have hkR : k < R.length := by rw [hRN.out]; exact hlt
    obtain ⟨g, rfl⟩ : ∃ g, pR = some ⟨g, 0, none⟩ := by
      rcases own_formF HK.out.oR with ⟨-, e0⟩ | ⟨g, cap, e, -⟩
      · omega
      · injection e with e1; exact ⟨g, e1⟩
    obtain ⟨m, hm⟩ : ∃ m, R[k]? = some m := ⟨_, List.getElem?_eq_getElem hkR⟩
    have HM := Lib.hid hm
    have i0 : (0 : Int) ≤ (k : Int) := by omega
    have i1 : (k : Int) < (NR : Int) := by omega
    clear hm
    go_upto_region 5 with fail
    clear c0 c1
    refine region_until (S := fun w' => Hid (MK a w B (.slice (some ⟨g, 0, none⟩) NR cR) (.slice pL L.length cL) R L w')) (fun j => j == 8) (by kernel_rfl) (Lib.hid (HK.out.keep (grown_drew (grown_refl _ _)))) (fun hHeld => ?_)
    refine anyU_take (i := 0) (oi := { dst := some 17, op := Op.fieldAddr 59 (Operand.tmp 5) 0, type := 0, pos := "make.go:285", after := #[], guard := none }) (v := ?_) rfl (by kernel_rfl) (by kernel_rfl) (by kernel_rfl) (by kernel_rfl) (by kernel_rfl) (fun _ _ _ h => h) (Or.inl ⟨by rfl, ?_⟩) hHeld ?_
    rotate_left 1
    · intro u hSu
      obtain ⟨q0, q1⟩ := row_cells hSu.out.gb
      go_simp
      first | done | with_reducible rfl
    (try simp only [Act.put, List.setIfInBounds_toArray, List.set_cons_zero, List.set_cons_succ])
    refine anyU_take (i := 1) (oi := { dst := some 18, op := Op.load 56 (Operand.tmp 17), type := 56, pos := "make.go:285", after := #[{ on := 0, ground := Ground.data }], guard := none }) (v := ?_) rfl (by kernel_rfl) (by kernel_rfl) (by kernel_rfl) (by kernel_rfl) (by kernel_rfl) (fun _ _ _ h => h) (Or.inl ⟨by rfl, ?_⟩) hHeld ?_
    rotate_left 1
    · intro u hSu
      obtain ⟨q0, q1⟩ := row_cells hSu.out.gb
      go_simp
      first | done | with_reducible rfl
    (try simp only [Act.put, List.setIfInBounds_toArray, List.set_cons_zero, List.set_cons_succ])
    refine anyU_take (i := 2) (oi := { dst := some 19, op := Op.move (Operand.tmp 6), type := 3, pos := "make.go:285", after := #[], guard := none }) (v := ?_) rfl (by kernel_rfl) (by kernel_rfl) (by kernel_rfl) (by kernel_rfl) (by kernel_rfl) (fun _ _ _ h => h) (Or.inl ⟨by rfl, ?_⟩) hHeld ?_
    rotate_left 1
    · intro u hSu
      obtain ⟨q0, q1⟩ := row_cells hSu.out.gb
      go_simp
      first | done | with_reducible rfl
    (try simp only [Act.put, List.setIfInBounds_toArray, List.set_cons_zero, List.set_cons_succ])
    refine anyU_take (i := 3) (oi := { dst := some 20, op := Op.move (Operand.tmp 0), type := 26, pos := "make.go:285", after := #[], guard := none }) (v := ?_) rfl (by kernel_rfl) (by kernel_rfl) (by kernel_rfl) (by kernel_rfl) (by kernel_rfl) (fun _ _ _ h => h) (Or.inl ⟨by rfl, ?_⟩) hHeld ?_
    rotate_left 1
    · intro u hSu
      obtain ⟨q0, q1⟩ := row_cells hSu.out.gb
      go_simp
      first | done | with_reducible rfl
    (try simp only [Act.put, List.setIfInBounds_toArray, List.set_cons_zero, List.set_cons_succ])
    refine anyU_ready (rs := [4]) (by kernel_rfl) (by simp) ?_
    refine EachU.cons (o := { dst := some 21, op := Op.call { callee := Callee.value (Operand.func 24), args := #[Operand.tmp 20, Operand.const (Value.int IntKind.i64 3)], argTypes := #[26, 3] }, type := 4, pos := "make.go:285", after := #[{ on := 3, ground := Ground.data }], guard := none }) rfl (fun Kz hK => ?_) EachU.nil
    go_simp
    go_at_call 24
    refine (one_any a 3 (by unfold I64; omega) _ hHeld.out.st.2).mono ?_
    rintro e w5 ⟨z, rfl, hs⟩
    have H5n := Lib.hid (hHeld.out.tape ha hs)
    clear hs
    refine hK.out _ _ (fun _ => H5n) (fun hH2 => ?_)
    clear hK Kz hHeld
    have hHeld := hH2 rfl
    clear hH2
    (try simp only [Act.put, List.setIfInBounds_toArray, List.set_cons_zero, List.set_cons_succ])
    refine anyU_take (i := 5) (oi := { dst := some 22, op := Op.unOp UnOp.not 4 (Operand.tmp 21), type := 4, pos := "make.go:285", after := #[{ on := 4, ground := Ground.data }], guard := none }) (v := ?_) rfl (by kernel_rfl) (by kernel_rfl) (by kernel_rfl) (by kernel_rfl) (by kernel_rfl) (fun _ _ _ h => h) (Or.inl ⟨by rfl, ?_⟩) hHeld ?_
    rotate_left 1
    · intro u hSu
      obtain ⟨q0, q1⟩ := row_cells hSu.out.gb
      go_simp
      first | done | with_reducible rfl
    (try simp only [Act.put, List.setIfInBounds_toArray, List.set_cons_zero, List.set_cons_succ])
    refine anyU_take (i := 6) (oi := { dst := some 23, op := Op.indexAddr 56 (Operand.tmp 18) (Operand.tmp 19), type := 0, pos := "make.go:285", after := #[{ on := 1, ground := Ground.data }, { on := 2, ground := Ground.data }, { on := 0, ground := Ground.phase }, { on := 1, ground := Ground.phase }, { on := 2, ground := Ground.phase }, { on := 3, ground := Ground.phase }, { on := 4, ground := Ground.phase }, { on := 5, ground := Ground.phase }], guard := none }) (v := ?_) rfl (by kernel_rfl) (by kernel_rfl) (by kernel_rfl) (by kernel_rfl) (by kernel_rfl) (fun _ _ _ h => h) (Or.inl ⟨by rfl, ?_⟩) hHeld ?_
    rotate_left 1
    · intro u hSu
      obtain ⟨q0, q1⟩ := row_cells hSu.out.gb
      go_simp
      first | done | with_reducible rfl
    (try simp only [Act.put, List.setIfInBounds_toArray, List.set_cons_zero, List.set_cons_succ])
    refine anyU_take (i := 7) (oi := { dst := some 24, op := Op.fieldAddr 69 (Operand.tmp 23) 1, type := 0, pos := "make.go:285", after := #[{ on := 6, ground := Ground.data }, { on := 0, ground := Ground.phase }, { on := 1, ground := Ground.phase }, { on := 2, ground := Ground.phase }, { on := 3, ground := Ground.phase }, { on := 4, ground := Ground.phase }, { on := 5, ground := Ground.phase }], guard := none }) (v := ?_) rfl (by kernel_rfl) (by kernel_rfl) (by kernel_rfl) (by kernel_rfl) (by kernel_rfl) (fun _ _ _ h => h) (Or.inl ⟨by rfl, ?_⟩) hHeld ?_
    rotate_left 1
    · intro u hSu
      obtain ⟨q0, q1⟩ := row_cells hSu.out.gb
      go_simp
      first | done | with_reducible rfl
    (try simp only [Act.put, List.setIfInBounds_toArray, List.set_cons_zero, List.set_cons_succ])
    refine anyU_ready (rs := [8]) (by kernel_rfl) (by simp) ?_
    refine EachU.cons (o := { dst := none, op := Op.store 4 (Operand.tmp 24) (Operand.tmp 22), type := 0, pos := "make.go:285", after := #[{ on := 7, ground := Ground.data }, { on := 5, ground := Ground.data }, { on := 4, ground := Ground.chain }, { on := 0, ground := Ground.phase }, { on := 1, ground := Ground.phase }, { on := 2, ground := Ground.phase }, { on := 3, ground := Ground.phase }, { on := 4, ground := Ground.phase }, { on := 5, ground := Ground.phase }], guard := none }) rfl (fun Kz hK => ?_) EachU.nil
    have cS := hHeld.out.rtAt HM.out
    have fS := hHeld.out.frz (k * 2 + 1)
    go_simp
    refine hK.out _ _ (fun h => by cases h) (fun _ => ?_)
    clear hK Kz
    (try simp only [Act.put, List.setIfInBounds_toArray, List.set_cons_zero, List.set_cons_succ])
    refine anyU_done (by kernel_rfl) ?_ _
    obtain ⟨R', hl', hm', HS⟩ := hHeld.out.setR (z := !z) ha hkR
    have HS := Lib.hid HS
    have hid' : R'.map (·.id) = R0.map (·.id) := hm'.trans HI.out
    clear hHeld hl' hm' cS fS
    go_wp2_with fail
    exact ⟨⟨k + 1, by omega, congrArg _ (by omega), R', hid', HS⟩, by simp only [RowKit.intOf]; omega⟩
  · obtain rfl : k = NR := by omega
    obtain ⟨d0, d1⟩ := row_cells HK.out.rb
    have f0 := frozen_of_row _ _ 0 _ _ HK.out.rb
    have f1 := frozen_of_row _ _ 1 _ _ HK.out.rb
    have hrow := store2 (u := .slice pR k cR) (z := .slice pL L.length cL) HK.out.rb
    have hst := grown_store2 wr w.heap.size (.slice pR k cR) (.slice pL L.length cL)
    have HR := Lib.hid (And.intro hrow (And.intro (own_other HK.out.oR hst (by omega)) (And.intro (own_other HK.out.oL hst (by omega)) (HK.out.st.storeT hst (Nat.le_refl _) ha))))
    clear hrow hst HK
    go_wp2_with fail
    refine bodyPost_ret (res_topo rfl _ _ w.heap.size _ _ rfl HR.out.1) rfl ?_
    exact ⟨R0, R, L, _, _, rfl, HR.out.2.1.mono (by omega), HR.out.2.2.1.mono (by omega), HO.out, HI.out, HR.out.2.2.2⟩
end Go.Proofs.Ytnpkihioklpnmaa

/- The tape's Router, of a topology with routers: it is one of them. -/
namespace Go.Proofs.Ytnpkihioklpnmaa
open Go.RowKit Bs
set_option maxRecDepth 100000 in
set_option maxHeartbeats 3200000 in
theorem routerM_any (a : Nat) (T : Tg) (h0 : 0 < T.R.length) (q : Nat → Prop) (w : World) (hT : TgOk w q T) (hq : ∀ b, q b → b ≠ a) (hp : Tp w a) :
    Calls Try.prog 42 #[.pointer (some ⟨a, 0, none⟩), .agg #[.slice T.pR T.R.length T.cR, .slice T.pL T.L.length T.cL], .int .i64 0] w fun e w' => ∃ m ∈ T.R, e = .returned (.int .i64 m.id) ∧ St a w w' := by
  have ha := hp.lt
  have hmR := Nat.le_trans hT.cr.1 hT.cr.2
  obtain ⟨k1, k2⟩ := tone_box w #[.slice T.pR T.R.length T.cR, .slice T.pL T.L.length T.cL] 59
  have H0 : Hid (RM a w T q _) := Lib.hid ⟨k1, hT.keep k2, ⟨grown_none k2 _, hp.keep k2⟩⟩
  have HQ := Lib.hid hq
  clear k1 k2 hT hp hq
  obtain ⟨R, L, pR, cR, pL, cL⟩ := T
  simp only at hmR H0 h0 ⊢
  obtain ⟨-, b, off, rfl, -, -⟩ := rdr_cells (R := R) H0.out.t.r h0
  go_enter Try.func42, Try.ntmps42
  go_upto_region 1 with fail
  generalize w.alloc _ = wa at *
  obtain ⟨c0, c1⟩ := row_cells H0.out.tb
  have hz : ((R.length : Int) == 0) = false := by rw [beq_eq_false_iff_ne]; omega
  go_cut [19] from 7 to 19 (fun bb wx => bb = .bool false ∧ Hid (RM a w ⟨R, L, some ⟨b, off, none⟩, cR, pL, cL⟩ q wx))
  case first =>
    go_wp2_with fail
    go_meet
    exact ⟨rfl, H0⟩
  case rest =>
  obtain ⟨rfl, H1⟩ := hcut
  clear H0 c0 c1
  go_upto_if 19 with fail
  have i1 : 0 < R.length := h0
  go_upto_region 3 with fail
  refine wp_region_held_drew (S := fun w' => Hid (RM a w ⟨R, L, some ⟨b, off, none⟩, cR, pL, cL⟩ q w')) (by kernel_rfl) (Lib.hid (H1.out.keep (grown_drew (grown_refl _ _)))) (fun hHeld => ?_)
  refine wpAnyH_take (i := 0) (oi := { dst := some 23, op := Op.fieldAddr 59 (Operand.tmp 4) 0, type := 0, pos := "make.go:639", after := #[], guard := none }) (v := ?_) rfl (by kernel_rfl) (by kernel_rfl) (by kernel_rfl) (fun _ _ _ h => h) (Or.inl ⟨by rfl, ?_⟩) hHeld ?_
  rotate_left 1
  · intro u hSu
    obtain ⟨q0, q1⟩ := row_cells hSu.out.tb
    go_simp
    first | done | with_reducible rfl
  (try simp only [Act.put, List.setIfInBounds_toArray, List.set_cons_zero, List.set_cons_succ])
  refine wpAnyH_take (i := 1) (oi := { dst := some 24, op := Op.load 56 (Operand.tmp 23), type := 56, pos := "make.go:639", after := #[{ on := 0, ground := Ground.data }], guard := none }) (v := ?_) rfl (by kernel_rfl) (by kernel_rfl) (by kernel_rfl) (fun _ _ _ h => h) (Or.inl ⟨by rfl, ?_⟩) hHeld ?_
  rotate_left 1
  · intro u hSu
    obtain ⟨q0, q1⟩ := row_cells hSu.out.tb
    go_simp
    first | done | with_reducible rfl
  (try simp only [Act.put, List.setIfInBounds_toArray, List.set_cons_zero, List.set_cons_succ])
  refine wpAnyH_take (i := 2) (oi := { dst := some 25, op := Op.move (Operand.tmp 0), type := 26, pos := "make.go:639", after := #[], guard := none }) (v := ?_) rfl (by kernel_rfl) (by kernel_rfl) (by kernel_rfl) (fun _ _ _ h => h) (Or.inl ⟨by rfl, ?_⟩) hHeld ?_
  rotate_left 1
  · intro u hSu
    obtain ⟨q0, q1⟩ := row_cells hSu.out.tb
    go_simp
    first | done | with_reducible rfl
  (try simp only [Act.put, List.setIfInBounds_toArray, List.set_cons_zero, List.set_cons_succ])
  refine wpAnyH_take (i := 3) (oi := { dst := some 26, op := Op.fieldAddr 59 (Operand.tmp 4) 0, type := 0, pos := "make.go:639", after := #[], guard := none }) (v := ?_) rfl (by kernel_rfl) (by kernel_rfl) (by kernel_rfl) (fun _ _ _ h => h) (Or.inl ⟨by rfl, ?_⟩) hHeld ?_
  rotate_left 1
  · intro u hSu
    obtain ⟨q0, q1⟩ := row_cells hSu.out.tb
    go_simp
    first | done | with_reducible rfl
  (try simp only [Act.put, List.setIfInBounds_toArray, List.set_cons_zero, List.set_cons_succ])
  refine wpAnyH_take (i := 4) (oi := { dst := some 27, op := Op.load 56 (Operand.tmp 26), type := 56, pos := "make.go:639", after := #[{ on := 3, ground := Ground.data }], guard := none }) (v := ?_) rfl (by kernel_rfl) (by kernel_rfl) (by kernel_rfl) (fun _ _ _ h => h) (Or.inl ⟨by rfl, ?_⟩) hHeld ?_
  rotate_left 1
  · intro u hSu
    obtain ⟨q0, q1⟩ := row_cells hSu.out.tb
    go_simp
    first | done | with_reducible rfl
  (try simp only [Act.put, List.setIfInBounds_toArray, List.set_cons_zero, List.set_cons_succ])
  refine wpAnyH_take (i := 5) (oi := { dst := some 28, op := Op.call { callee := Callee.builtin Builtin.len, args := #[Operand.tmp 27], argTypes := #[56] }, type := 3, pos := "make.go:639", after := #[{ on := 4, ground := Ground.data }], guard := none }) (v := ?_) rfl (by kernel_rfl) (by kernel_rfl) (by kernel_rfl) (fun _ _ _ h => h) (Or.inl ⟨by rfl, ?_⟩) hHeld ?_
  rotate_left 1
  · intro u hSu
    obtain ⟨q0, q1⟩ := row_cells hSu.out.tb
    go_simp
    first | done | with_reducible rfl
  (try simp only [Act.put, List.setIfInBounds_toArray, List.set_cons_zero, List.set_cons_succ])
  refine wpAnyH_ready (rs := [6]) (by kernel_rfl) (by simp) ?_
  refine AllReadyH.cons (o := { dst := some 29, op := Op.call { callee := Callee.value (Operand.func 25), args := #[Operand.tmp 25, Operand.tmp 28], argTypes := #[26, 3] }, type := 3, pos := "make.go:639", after := #[{ on := 2, ground := Ground.data }, { on := 5, ground := Ground.data }], guard := none }) rfl (fun Kz hK => ?_) AllReadyH.nil
  go_simp
  go_at_call 25
  refine (next_any a R.length (by unfold I64; omega) _ hHeld.out.st.2).mono ?_
  rintro e w5 ⟨y, rfl, hy, hs⟩
  obtain ⟨i, rfl⟩ := Int.eq_ofNat_of_zero_le hy.1
  have hi : i < R.length := by have := hy.2.1 (by omega); omega
  have H5n := Lib.hid (hHeld.out.tape ha HQ.out hs)
  clear hy hs
  have j0 : (0 : Int) ≤ (i : Int) := by omega
  have j1 : (i : Int) < (R.length : Int) := by omega
  obtain ⟨m, hm⟩ : ∃ m, R[i]? = some m := ⟨_, List.getElem?_eq_getElem hi⟩
  have HM := Lib.hid hm
  clear hm
  refine hK.out _ _ (H5n) (fun hH2 => ?_)
  clear hK Kz hHeld
  have hHeld := hH2
  clear hH2
  (try simp only [Act.put, List.setIfInBounds_toArray, List.set_cons_zero, List.set_cons_succ])
  refine wpAnyH_take (i := 7) (oi := { dst := some 30, op := Op.indexAddr 56 (Operand.tmp 24) (Operand.tmp 29), type := 0, pos := "make.go:639", after := #[{ on := 1, ground := Ground.data }, { on := 6, ground := Ground.data }], guard := none }) (v := ?_) rfl (by kernel_rfl) (by kernel_rfl) (by kernel_rfl) (fun _ _ _ h => h) (Or.inl ⟨by rfl, ?_⟩) hHeld ?_
  rotate_left 1
  · intro u hSu
    obtain ⟨q0, q1⟩ := row_cells hSu.out.tb
    go_simp
    first | done | with_reducible rfl
  (try simp only [Act.put, List.setIfInBounds_toArray, List.set_cons_zero, List.set_cons_succ])
  refine wpAnyH_take (i := 8) (oi := { dst := some 31, op := Op.fieldAddr 69 (Operand.tmp 30) 0, type := 0, pos := "make.go:639", after := #[{ on := 7, ground := Ground.data }], guard := none }) (v := ?_) rfl (by kernel_rfl) (by kernel_rfl) (by kernel_rfl) (fun _ _ _ h => h) (Or.inl ⟨by rfl, ?_⟩) hHeld ?_
  rotate_left 1
  · intro u hSu
    obtain ⟨q0, q1⟩ := row_cells hSu.out.tb
    go_simp
    first | done | with_reducible rfl
  (try simp only [Act.put, List.setIfInBounds_toArray, List.set_cons_zero, List.set_cons_succ])
  refine wpAnyH_take (i := 9) (oi := { dst := some 32, op := Op.load 3 (Operand.tmp 31), type := 3, pos := "make.go:639", after := #[{ on := 8, ground := Ground.data }], guard := none }) (v := ?_) rfl (by kernel_rfl) (by kernel_rfl) (by kernel_rfl) (fun _ _ _ h => h) (Or.inl ⟨by rfl, ?_⟩) hHeld ?_
  rotate_left 1
  · intro u hSu
    obtain ⟨q0, q1⟩ := row_cells hSu.out.tb
    obtain ⟨e0, e1⟩ := hSu.out.rt HM.out
    go_simp
    first | done | with_reducible rfl
  (try simp only [Act.put, List.setIfInBounds_toArray, List.set_cons_zero, List.set_cons_succ])
  refine wpAnyH_take (i := 10) (oi := { dst := some 6, op := Op.assign (Operand.tmp 32), type := 3, pos := "make.go:639", after := #[{ on := 9, ground := Ground.data }, { on := 6, ground := Ground.chain }, { on := 0, ground := Ground.phase }, { on := 1, ground := Ground.phase }, { on := 2, ground := Ground.phase }, { on := 3, ground := Ground.phase }, { on := 4, ground := Ground.phase }, { on := 5, ground := Ground.phase }, { on := 6, ground := Ground.phase }, { on := 7, ground := Ground.phase }, { on := 8, ground := Ground.phase }, { on := 9, ground := Ground.phase }], guard := none }) (v := ?_) rfl (by kernel_rfl) (by kernel_rfl) (by kernel_rfl) (fun _ _ _ h => h) (Or.inl ⟨by rfl, ?_⟩) hHeld ?_
  rotate_left 1
  · intro u hSu
    obtain ⟨q0, q1⟩ := row_cells hSu.out.tb
    go_simp
    first | done | with_reducible rfl
  (try simp only [Act.put, List.setIfInBounds_toArray, List.set_cons_zero, List.set_cons_succ])
  refine wpAnyH_done (by kernel_rfl) ?_ _
  have H9 := Lib.hid hHeld.out.st
  clear hHeld
  go_wp2_with fail
  go_ret
  exact ⟨m, List.mem_of_getElem? HM.out, rfl, H9.out⟩
end Go.Proofs.Ytnpkihioklpnmaa

/- While the tape makes an advert. -/
namespace Go.Proofs.Ytnpkihioklpnmaa
open Go.RowKit Bs
/-! What a list of the tape's keeps. -/
section
variable {a : Nat} {W w w1 : World} {Z B : Nat} {r q : Int} {cp : Bool} {uL uC vL vC v' : Value} {L C : List T3}
end
/-- Lists that are nil have no room. -/
def AdNl (A : Ad) : Prop := (A.pL = none → A.cL = 0) ∧ (A.pC = none → A.cC = 0)
end Go.Proofs.Ytnpkihioklpnmaa

/- Databases: rows of adverts; when a database is valid. -/
namespace Go.Proofs.Ytnpkihioklpnmaa
open Go.RowKit Bs
def adL (A : Ad) : List Value := [.int .i64 A.r, .int .i64 A.q, .bool A.cp, .slice A.pL A.L.length A.cL, .slice A.pC A.C.length A.cC]
set_option maxRecDepth 100000 in
theorem adL_len (A : Ad) : (adL A).length = 5 := rfl
set_option maxRecDepth 100000 in
theorem ad_one (x : Ad) : ∀ u ∈ adL x, u.oneCell' = true := by
  intro u hu
  simp [adL] at hu
  rcases hu with rfl | rfl | rfl | rfl | rfl <;> rfl
/-- Adverts in a row, which can be read with their lists. -/
structure RdA (w : World) (q : Nat → Prop) (v : Value) (l : List Ad) : Prop where
  row : RdF w q v l.length (l.flatMap adL)
  ok : ∀ A ∈ l, AdOk w q A
  nl : ∀ A ∈ l, AdNl A
set_option maxRecDepth 100000 in
theorem RdA.grown {w w' : World} {q : Nat → Prop} {v : Value} {l : List Ad} {r : Option Nat} (h : RdA w q v l) (g : w.grownBy w' r) (hq : ∀ b, q b → some b ≠ r) : RdA w' q v l := ⟨h.row.grown g hq, fun A hA => (h.ok A hA).grown g hq, h.nl⟩
set_option maxRecDepth 100000 in
theorem RdA.keep {w w' : World} {q : Nat → Prop} {v : Value} {l : List Ad} (h : RdA w q v l) (g : w.grownBy w' none) : RdA w' q v l := h.grown g (fun _ _ => by simp)
set_option maxRecDepth 100000 in
theorem RdA.mono {w : World} {q q' : Nat → Prop} {v : Value} {l : List Ad} (h : RdA w q v l) (hq : ∀ b, q b → q' b) : RdA w q' v l := ⟨h.row.mono hq, fun A hA => (h.ok A hA).mono hq, h.nl⟩
set_option maxRecDepth 100000 in
theorem RdA.old {w : World} {q : Nat → Prop} {v : Value} {l : List Ad} (h : RdA w q v l) : RdA w (· < w.heap.size) v l := ⟨rdfA_old h.row, fun A hA => (h.ok A hA).old, h.nl⟩
set_option maxRecDepth 100000 in
/-- The cells of adverts, whatever world has grown out of this one. -/
theorem rda_cells {w : World} {q : Nat → Prop} {p : Option Addr} {n c : Nat} {l : List Ad} (h : RdA w q (.slice p n c) l) (hn : 0 < l.length) :
    n = l.length ∧ ∃ b off, p = some ⟨b, off, none⟩ ∧ q b ∧ ∀ i x, l[i]? = some x → w.cell? ⟨b, off + i * 5, none⟩ = some (.int .i64 x.r) ∧ w.cell? ⟨b, off + i * 5 + 1, none⟩ = some (.int .i64 x.q) ∧ w.cell? ⟨b, off + i * 5 + 2, none⟩ = some (.bool x.cp) ∧ w.cell? ⟨b, off + i * 5 + 3, none⟩ = some (.slice x.pL x.L.length x.cL) ∧ w.cell? ⟨b, off + i * 5 + 4, none⟩ = some (.slice x.pC x.C.length x.cC) := by
  obtain ⟨h0, b, off, hp, hq, hc⟩ := RdF.cells (f := adL) (k := 5) adL_len (by decide) h.row hn
  exact ⟨h0, b, off, hp, hq, fun i x hi => ⟨hc i x hi 0 _ rfl, hc i x hi 1 _ rfl, hc i x hi 2 _ rfl, hc i x hi 3 _ rfl, hc i x hi 4 _ rfl⟩⟩
set_option maxRecDepth 100000 in
theorem rda_at {w : World} {q : Nat → Prop} {b off n c k : Nat} {l : List Ad} {x : Ad} (h : RdA w q (.slice (some ⟨b, off, none⟩) n c) l) (hx : l[k]? = some x) :
    w.cell? ⟨b, off + k * 5, none⟩ = some (.int .i64 x.r) ∧ w.cell? ⟨b, off + k * 5 + 1, none⟩ = some (.int .i64 x.q) ∧ w.cell? ⟨b, off + k * 5 + 2, none⟩ = some (.bool x.cp) ∧ w.cell? ⟨b, off + k * 5 + 3, none⟩ = some (.slice x.pL x.L.length x.cL) ∧ w.cell? ⟨b, off + k * 5 + 4, none⟩ = some (.slice x.pC x.C.length x.cC) := by
  obtain ⟨-, b', o', e, -, hc⟩ := rda_cells h (by have := (List.getElem?_eq_some_iff.1 hx).1; omega)
  injection e with e
  injection e with e1 e2
  subst e1
  subst e2
  exact hc k x hx
set_option maxRecDepth 100000 in
theorem rda_nil (w : World) (q : Nat → Prop) : RdA w q (.slice none 0 0) [] := ⟨⟨none, 0, rfl, fun h => absurd rfl h⟩, (fun _ h => by cases h), fun _ h => by cases h⟩
/-- Are the routers ascending, behind one? -/
def ascD : Int → List Ad → Bool
  | _, [] => true
  | last, A :: t => decide (last < A.r) && ascD A.r t
def notV (A : Ad) : Bool := !vAd A
/-- What Check returns. -/
def chkD (l : List Ad) : Int := if 99 < l.length then 3 else if l.any notV then 1 else if ascD 0 l = false then 25 else 0
def okD (l : List Ad) : Bool := chkD l == 0
def lastD (l : List Ad) (k : Nat) : Int := match (l.take k).getLast? with
  | some x => x.r
  | none => 0
set_option maxRecDepth 100000 in
theorem lastD_succ {l : List Ad} {k : Nat} {x : Ad} (h : l[k]? = some x) : lastD l (k + 1) = x.r := by
  unfold lastD
  rw [List.take_add_one, h]
  simp
set_option maxRecDepth 100000 in
theorem lastD_zero (l : List Ad) : lastD l 0 = 0 := by unfold lastD; simp
set_option maxRecDepth 100000 in
theorem dropA_at {l : List Ad} {k : Nat} {x : Ad} (h : l[k]? = some x) : l.drop k = x :: l.drop (k + 1) := by
  obtain ⟨hk, he⟩ := List.getElem?_eq_some_iff.1 h
  rw [← he, ← List.drop_eq_getElem_cons hk]
set_option maxRecDepth 100000 in
theorem ascD_step {l : List Ad} {k : Nat} {x : Ad} (hx : l[k]? = some x) : ascD (lastD l k) (l.drop k) = (decide (lastD l k < x.r) && ascD (lastD l (k + 1)) (l.drop (k + 1))) := by
  rw [dropA_at hx, ascD, lastD_succ hx]
/-- What a valid database meets. -/
structure OkD (l : List Ad) : Prop where
  len : l.length ≤ 99
  v : ∀ A ∈ l, vAd A = true
  asc : ascD 0 l = true
set_option maxRecDepth 100000 in
theorem chk_OkD {l : List Ad} (h : chkD l = 0) : OkD l := by
  unfold chkD at h
  by_cases h1 : 99 < l.length
  · rw [if_pos h1] at h; cases h
  rw [if_neg h1] at h
  cases h2 : l.any notV with
  | true => rw [h2] at h; cases h
  | false =>
    rw [h2, if_neg (by decide)] at h
    cases h3 : ascD 0 l with
    | false => rw [h3, if_pos rfl] at h; cases h
    | true =>
      refine ⟨by omega, fun A hA => ?_, h3⟩
      have := List.any_eq_false.1 h2 A hA
      unfold notV at this
      simpa using this
set_option maxRecDepth 100000 in
theorem asc_pair : ∀ (l : List Ad) (last : Int), ascD last l = true → (∀ A ∈ l, last < A.r) ∧ l.Pairwise (fun A B => A.r < B.r)
  | [], _, _ => ⟨(fun _ h => by cases h), List.Pairwise.nil⟩
  | A :: t, last, h => by
    rw [ascD, Bool.and_eq_true] at h
    have h1 := of_decide_eq_true h.1
    obtain ⟨h2, h3⟩ := asc_pair t A.r h.2
    refine ⟨fun B hB => ?_, List.pairwise_cons.2 ⟨h2, h3⟩⟩
    rcases List.mem_cons.1 hB with rfl | hB
    · exact h1
    · have := h2 B hB; omega
set_option maxRecDepth 100000 in
theorem OkD.pair {l : List Ad} (h : OkD l) : l.Pairwise (fun A B => A.r < B.r) := (asc_pair l 0 h.asc).2
end Go.Proofs.Ytnpkihioklpnmaa

/- What View says: look-ups, linked routers, the routers that are reached, the topology. The mathematics. -/
namespace Go.Proofs.Ytnpkihioklpnmaa
open Go.RowKit Bs
def isR (r : Int) (A : Ad) : Bool := decide (A.r = r)
def fndA (l : List Ad) (r : Int) : Option Ad := l.find? (isR r)
def isN (r : Int) (x : T3) : Bool := decide (x.a = r)
def rcA (A : Ad) (r : Int) : Option T3 := A.L.find? (isN r)
def rcV (A : Ad) (r : Int) : T3 := (rcA A r).getD ⟨0, 0, 0⟩
/-- The advert that a link leads to, if it leads back. -/
def lk1 (l : List Ad) (A : Ad) (x : T3) : List Ad := match fndA l x.a with
  | some B => if (rcA B A.r).isSome = true then [B] else []
  | none => []
/-- The adverts of the routers that are linked with A's. -/
def lnk (l : List Ad) (A : Ad) : List Ad := A.L.flatMap (lk1 l A)
set_option maxRecDepth 100000 in
theorem fndA_some {l : List Ad} {r : Int} {B : Ad} (h : fndA l r = some B) : B ∈ l ∧ B.r = r := by
  have h2 : isR r B = true := List.find?_some h
  exact ⟨List.mem_of_find?_eq_some h, of_decide_eq_true h2⟩
set_option maxRecDepth 100000 in
theorem lnk_mem {l : List Ad} {A B : Ad} (h : B ∈ lnk l A) : B ∈ l := by
  unfold lnk at h
  obtain ⟨x, _, hx⟩ := List.mem_flatMap.1 h
  unfold lk1 at hx
  cases hf : fndA l x.a with
  | none => rw [hf] at hx; cases hx
  | some C =>
    rw [hf] at hx
    simp only at hx
    split at hx
    · rw [List.mem_singleton] at hx; subst hx; exact (fndA_some hf).1
    · cases hx
set_option maxRecDepth 100000 in
theorem lnk_len (l : List Ad) (A : Ad) : (lnk l A).length ≤ A.L.length := by
  unfold lnk
  generalize A.L = M
  induction M with
  | nil => simp
  | cons x M ih =>
    rw [List.flatMap_cons, List.length_append, List.length_cons]
    have : (lk1 l A x).length ≤ 1 := by
      unfold lk1
      cases fndA l x.a with
      | none => simp
      | some C => simp only; split <;> simp
    omega
set_option maxRecDepth 100000 in
theorem lnk_snoc {l : List Ad} {A : Ad} {k : Nat} {x : T3} (h : A.L[k]? = some x) : (A.L.take (k + 1)).flatMap (lk1 l A) = (A.L.take k).flatMap (lk1 l A) ++ lk1 l A x := by
  rw [List.take_add_one, h, List.flatMap_append]
  simp
def inS (S : List Int) (r : Int) : Bool := S.any (fun x => decide (x = r))
set_option maxRecDepth 100000 in
theorem inS_app (S T : List Int) (r : Int) : inS (S ++ T) r = (inS S r || inS T r) := by unfold inS; rw [List.any_append]
set_option maxRecDepth 100000 in
theorem inS_one (x r : Int) : inS [x] r = decide (x = r) := by unfold inS; simp
/-- One linked router is met: what has been reached, and what has still to be looked at. -/
def addA (st : List Int × List Ad) (B : Ad) : List Int × List Ad := if inS st.1 B.r = true then st else (st.1 ++ [B.r], st.2 ++ [B])
/-- How many adverts' routers have not been reached. -/
def unv (l : List Ad) (S : List Int) : Nat := (l.filter (fun A => !inS S A.r)).length
def bfs (l : List Ad) : Nat → List Int → List Ad → List Int
  | 0, S, _ => S
  | _ + 1, S, [] => S
  | n + 1, S, A :: W => bfs l n ((lnk l A).foldl addA (S, W)).1 ((lnk l A).foldl addA (S, W)).2
set_option maxRecDepth 100000 in
theorem bfs_nil (l : List Ad) (n : Nat) (S : List Int) : bfs l n S [] = S := by cases n <;> rfl
set_option maxRecDepth 100000 in
theorem unv_add {l : List Ad} (hp : l.Pairwise (fun A B => A.r < B.r)) {S : List Int} {B : Ad} (hB : B ∈ l) (h : inS S B.r = false) : unv l (S ++ [B.r]) + 1 = unv l S := by
  unfold unv
  induction l with
  | nil => cases hB
  | cons A t ih =>
    obtain ⟨h1, h2⟩ := List.pairwise_cons.1 hp
    rw [List.filter_cons, List.filter_cons, inS_app, inS_one]
    rcases List.mem_cons.1 hB with e | hB
    · subst e
      have hne : t.filter (fun A => !inS (S ++ [B.r]) A.r) = t.filter (fun A => !inS S A.r) := by
        refine List.filter_congr fun A hA => ?_
        have := h1 A hA
        rw [inS_app, inS_one, decide_eq_false (by omega), Bool.or_false]
      rw [hne, h]
      simp
    · have := h1 B hB
      rw [decide_eq_false (show ¬ B.r = A.r by omega), Bool.or_false]
      have ih := ih h2 hB
      cases inS S A.r
      · simp only [Bool.not_false, if_true, List.length_cons]; omega
      · simp only [Bool.not_true]; exact ih
set_option maxRecDepth 100000 in
theorem add_keep {l : List Ad} (hp : l.Pairwise (fun A B => A.r < B.r)) : ∀ (M : List Ad), (∀ B ∈ M, B ∈ l) → ∀ st : List Int × List Ad, unv l (M.foldl addA st).1 + (M.foldl addA st).2.length = unv l st.1 + st.2.length
  | [], _, st => rfl
  | B :: M, hM, st => by
    rw [List.foldl_cons, add_keep hp M (fun C hC => hM C (List.mem_cons_of_mem _ hC))]
    unfold addA
    split
    · rfl
    · rename_i h
      have := unv_add hp (S := st.1) (hM B List.mem_cons_self) (by simpa using h)
      simp only [List.length_append, List.length_singleton]
      omega
/-- The routers that are reached from one. -/
def reS (l : List Ad) (r : Int) : List Int := match fndA l r with
  | none => []
  | some A => bfs l (unv l [r] + 1) [r] [A]
set_option maxRecDepth 100000 in
theorem bfs_step {l : List Ad} (hp : l.Pairwise (fun A B => A.r < B.r)) {S : List Int} {A : Ad} {W : List Ad} : bfs l (unv l S + (A :: W).length) S (A :: W) = bfs l (unv l ((lnk l A).foldl addA (S, W)).1 + ((lnk l A).foldl addA (S, W)).2.length) ((lnk l A).foldl addA (S, W)).1 ((lnk l A).foldl addA (S, W)).2 := by
  rw [add_keep hp (lnk l A) (fun B hB => lnk_mem hB) (S, W)]
  show bfs l (unv l S + W.length + 1) S (A :: W) = _
  rw [bfs]
set_option maxRecDepth 100000 in
/-- What is to be looked at comes from the database. -/
theorem add_from {l : List Ad} : ∀ (M : List Ad), (∀ B ∈ M, B ∈ l) → ∀ st : List Int × List Ad, (∀ B ∈ st.2, B ∈ l) → ∀ B ∈ (M.foldl addA st).2, B ∈ l
  | [], _, st, h, B, hB => h B hB
  | C :: M, hM, st, h, B, hB => by
    rw [List.foldl_cons] at hB
    refine add_from M (fun D hD => hM D (List.mem_cons_of_mem _ hD)) (addA st C) (fun D hD => ?_) B hB
    unfold addA at hD
    split at hD
    · exact h D hD
    · rcases List.mem_append.1 hD with hD | hD
      · exact h D hD
      · rw [List.mem_singleton] at hD; subst hD; exact hM D List.mem_cons_self
/-- The link between two linked routers. -/
def btw (A B : Ad) : Lk := ⟨A.r, B.r, (rcV A B.r).b, (rcV B A.r).b, min (rcV A B.r).c (rcV B A.r).c⟩
def ltA (A B : Ad) : Bool := decide (A.r < B.r)
/-- The links of one router to greater ones. -/
def vL1 (l : List Ad) (A : Ad) : List Lk := ((lnk l A).filter (ltA A)).map (btw A)
def inV (S : List Int) (A : Ad) : Bool := inS S A.r
def toR (A : Ad) : Rt := ⟨A.r, A.cp⟩
def vwR (l : List Ad) (S : List Int) : List Rt := (l.filter (inV S)).map toR
def vwL (l : List Ad) (S : List Int) : List Lk := (l.filter (inV S)).flatMap (vL1 l)
/-- The view. -/
def viewV (l : List Ad) (r : Int) : List Rt × List Lk :=
  if okD l = true then (if chk (vwR l (reS l r)) (vwL l (reS l r)) = 0 then (vwR l (reS l r), vwL l (reS l r)) else ([], [])) else ([], [])
end Go.Proofs.Ytnpkihioklpnmaa

/- database: where the advert of a router is (place); what an advert says of a router (reach); the link between two. -/
namespace Go.Proofs.Ytnpkihioklpnmaa
open Go.RowKit Bs
/-- Where the search for a router ends. -/
structure PlP (l : List Ad) (t : Int) (i : Nat) (b : Bool) : Prop where
  le : i ≤ l.length
  lo : ∀ x, 0 < i → l[i - 1]? = some x → x.r < t
  hi : ∀ x, l[i]? = some x → t ≤ x.r
  eq : b = (match l[i]? with | some x => decide (x.r = t) | none => false)
set_option maxRecDepth 100000 in
/-- In ascending adverts: it finds what there is. -/
theorem PlP.fnd {l : List Ad} (hp : l.Pairwise (fun A B => A.r < B.r)) {t : Int} {i : Nat} {b : Bool} (h : PlP l t i b) : (b = true → l[i]? = fndA l t ∧ (fndA l t).isSome = true) ∧ (b = false → fndA l t = none) := by
  have hlt : ∀ (a c : Nat) (x y : Ad), l[a]? = some x → l[c]? = some y → a < c → x.r < y.r := fun a c x y ha hc hac => by
    obtain ⟨h1, rfl⟩ := List.getElem?_eq_some_iff.1 ha
    obtain ⟨h2, rfl⟩ := List.getElem?_eq_some_iff.1 hc
    exact List.pairwise_iff_getElem.1 hp a c h1 h2 hac
  have heq := h.eq
  constructor
  · intro hb
    cases hx : l[i]? with
    | none => rw [hx] at heq; rw [heq] at hb; cases hb
    | some x =>
      rw [hx] at heq
      simp only at heq
      rw [hb] at heq
      have hxr : x.r = t := of_decide_eq_true heq.symm
      cases hf : fndA l t with
      | none =>
        have := List.find?_eq_none.1 hf x (List.mem_of_getElem? hx)
        unfold isR at this
        rw [decide_eq_true hxr] at this
        exact absurd rfl this
      | some B =>
        obtain ⟨h1, h2⟩ := fndA_some hf
        obtain ⟨j, hj⟩ := List.mem_iff_getElem?.1 h1
        refine ⟨congrArg some ?_, rfl⟩
        rcases Nat.lt_trichotomy i j with h3 | h3 | h3
        · have := hlt i j x B hx hj h3; omega
        · subst h3; rw [hx] at hj; exact Option.some.inj hj
        · have := hlt j i B x hj hx h3; omega
  · intro hb
    cases hf : fndA l t with
    | none => rfl
    | some B =>
      obtain ⟨h1, h2⟩ := fndA_some hf
      obtain ⟨j, hj⟩ := List.mem_iff_getElem?.1 h1
      exfalso
      rcases Nat.lt_trichotomy i j with h3 | h3 | h3
      · have hil : i < l.length := by have := (List.getElem?_eq_some_iff.1 hj).1; omega
        have hxi : l[i]? = some l[i] := List.getElem?_eq_getElem hil
        have h4 := hlt i j _ B hxi hj h3
        have h5 := h.hi _ hxi
        omega
      · subst h3
        rw [hj] at heq
        simp only at heq
        rw [hb, decide_eq_true h2] at heq
        cases heq
      · have hil : i - 1 < l.length := by have := h.le; omega
        have hxi : l[i - 1]? = some l[i - 1] := List.getElem?_eq_getElem hil
        have h5 := h.lo _ (by omega) hxi
        rcases Nat.lt_or_ge j (i - 1) with h6 | h6
        · have := hlt j (i - 1) B _ hj hxi h6; omega
        · have : j = i - 1 := by omega
          subst this
          rw [hj] at hxi
          have := Option.some.inj hxi
          rw [← this] at h5
          omega
def PlPost (l : List Ad) (t : Int) (w : World) (e : Ending) (w' : World) : Prop := ∃ (i : Nat) (b : Bool), e = .returned (.tuple #[.int .i64 (i : Int), .bool b]) ∧ PlP l t i b ∧ w.grownBy w' none
set_option maxRecDepth 100000 in
theorem dpl1_any (A : Ad) (t : Int) (w : World) :
    Calls Try.prog 119 #[.agg #[.int .i64 A.r, .int .i64 A.q, .bool A.cp, .slice A.pL A.L.length A.cL, .slice A.pC A.C.length A.cC], .int .i64 t] w fun e w' => e = .returned (.int .i64 (cmpV A.r t)) ∧ w.grownBy w' none := by
  obtain ⟨k1, k2⟩ := tone_box w #[.int .i64 A.r, .int .i64 A.q, .bool A.cp, .slice A.pL A.L.length A.cL, .slice A.pC A.C.length A.cC] 38
  have HB := Lib.hid (And.intro k1 k2)
  clear k1 k2
  go_enter Try.func119, Try.ntmps119
  go_upto_region 1 with fail
  generalize w.alloc _ = wa at *
  obtain ⟨c0, c1, c2, c3, c4⟩ := row5 HB.out.1
  go_wp2_with fail
  refine (tcmp_any _ _ _).mono ?_
  rintro e w1 ⟨rfl, rfl⟩
  go_wp2_with fail
  go_ret
  exact ⟨rfl, HB.out.2⟩
set_option maxRecDepth 100000 in
set_option maxHeartbeats 3200000 in
theorem dbs_any (l : List Ad) (t : Int) (p : Option Addr) (c : Nat) (q : Nat → Prop) (w : World) (hR : RdA w q (.slice p l.length c) l) (hm : l.length ≤ 1000000) :
    Calls Try.prog 118 #[.slice p l.length c, .int .i64 t, .func (.func 119) #[] #[]] w fun e w' => PlPost l t w e w' := by
  have eg : EnterF 119 := enters_of Try.func119 (by kernel_rfl) rfl
  have HR := Lib.hid hR
  clear hR
  have GZ : Hid (w.grownBy w none) := Lib.hid (grown_refl _ _)
  go_enter Try.func118, Try.ntmps118
  go_wp2_with fail
  go_loopw [9, 10] (fun vi vj wr => ∃ I J : Nat, I ≤ J ∧ J ≤ l.length ∧ vi = .int .i64 (I : Int) ∧ vj = .int .i64 (J : Int) ∧ Hid ((∀ x, 0 < I → l[I - 1]? = some x → x.r < t) ∧ ∀ x, l[J]? = some x → t ≤ x.r) ∧ Hid (w.grownBy wr none)) (fun vi vj _ => ((RowKit.intOf vj) - (RowKit.intOf vi)).toNat)
  case atStart => exact ⟨0, l.length, Nat.zero_le _, Nat.le_refl _, rfl, rfl, Lib.hid ⟨fun x h => by omega, fun x h => by rw [List.getElem?_eq_none (Nat.le_refl _)] at h; cases h⟩, GZ⟩
  case round =>
  obtain ⟨I, J, hIJ, hJ, rfl, rfl, HI, G⟩ := hrel
  clear GZ
  by_cases hlt : I < J
  · have hlt' : (I : Int) < (J : Int) := by omega
    obtain ⟨h, hh⟩ : ∃ h, (I + J) / 2 = h := ⟨_, rfl⟩
    have h1 : I ≤ h := by omega
    have h2 : h < J := by omega
    have hsum : (I : Int) + (J : Int) ≤ 2000000 := by omega
    go_upto_region 4 with fail
    go_cut [11] from 18 to 23 (fun v wx => v = .int .i64 (h : Int) ∧ wr = wx)
    case first =>
      go_wp2_with fail
      go_meet
      exact ⟨congrArg _ (by omega), rfl⟩
    case rest =>
    obtain ⟨rfl, rfl⟩ := hcut
    clear hh hsum
    obtain ⟨-, b, off, rfl, -, hc⟩ := rda_cells (HR.out.keep G.out) (by omega)
    obtain ⟨y, hy⟩ : ∃ y, l[h]? = some y := ⟨_, List.getElem?_eq_getElem (by omega)⟩
    obtain ⟨a0, a1, a2, a3, a4⟩ := hc h y hy
    have HY := Lib.hid hy
    have i0 : (0 : Int) ≤ (h : Int) := by omega
    have i1 : (h : Int) < (l.length : Int) := by omega
    obtain ⟨z, hz⟩ : ∃ z, cmpV y.r t = z := ⟨_, rfl⟩
    have hcall := dpl1_any y t wr
    rw [hz] at hcall
    have HZ := Lib.hid hz
    clear hc hy hz
    by_cases hzn : z < 0
    · have hzd : decide (z < 0) = true := decide_eq_true hzn
      go_wp2_with fail
      refine hcall.mono ?_
      rintro e w' ⟨rfl, hg⟩
      have H9 := Lib.hid (grown_trans G.out hg)
      clear hg a0 a1 a2 a3 a4
      go_wp2_with fail
      exact ⟨⟨h + 1, J, by omega, hJ, congrArg _ (by omega), rfl, Lib.hid ⟨fun x _ hx => by rw [Nat.add_sub_cancel, HY.out] at hx; obtain rfl := Option.some.inj hx; exact cmpV_lt.1 (by rw [HZ.out]; exact hzn), HI.out.2⟩, H9⟩, by simp only [RowKit.intOf]; omega⟩
    · have hzd : decide (z < 0) = false := decide_eq_false hzn
      go_wp2_with fail
      refine hcall.mono ?_
      rintro e w' ⟨rfl, hg⟩
      have H9 := Lib.hid (grown_trans G.out hg)
      clear hg a0 a1 a2 a3 a4
      go_wp2_with fail
      exact ⟨⟨I, h, h1, by omega, rfl, rfl, Lib.hid ⟨HI.out.1, fun x hx => by rw [HY.out] at hx; obtain rfl := Option.some.inj hx; exact cmpV_ge.1 (by rw [HZ.out]; omega)⟩, H9⟩, by simp only [RowKit.intOf]; omega⟩
  · obtain rfl : I = J := by omega
    have hnl : ¬ ((I : Int) < (I : Int)) := by omega
    by_cases hn : I < l.length
    · obtain ⟨-, b, off, rfl, -, hc⟩ := rda_cells (HR.out.keep G.out) (by omega)
      obtain ⟨y, hy⟩ : ∃ y, l[I]? = some y := ⟨_, List.getElem?_eq_getElem hn⟩
      obtain ⟨a0, a1, a2, a3, a4⟩ := hc I y hy
      have HY := Lib.hid hy
      have i0 : (0 : Int) ≤ (I : Int) := by omega
      have i1 : (I : Int) < (l.length : Int) := by omega
      have i2 : decide ((I : Int) < (l.length : Int)) = true := decide_eq_true i1
      obtain ⟨z, hz⟩ : ∃ z, cmpV y.r t = z := ⟨_, rfl⟩
      have hcall := dpl1_any y t wr
      rw [hz] at hcall
      have HZ := Lib.hid hz
      clear hc hy hz
      go_wp2_with fail
      refine hcall.mono ?_
      rintro e w' ⟨rfl, hg⟩
      have H9 := Lib.hid (grown_trans G.out hg)
      clear hg a0 a1 a2 a3 a4
      go_wp2_with fail
      go_ret2
      refine ⟨I, _, rfl, ⟨hJ, HI.out.1, HI.out.2, ?_⟩, H9.out⟩
      rw [HY.out]
      simp only
      rw [← HZ.out, Bool.eq_iff_iff, beq_iff_eq, decide_eq_true_eq]
      exact cmpV_eq
    · obtain rfl : I = l.length := by omega
      have hn' : decide ((l.length : Int) < (l.length : Int)) = false := decide_eq_false (by omega)
      go_wp2_with fail
      go_ret2
      refine ⟨l.length, _, rfl, ⟨hJ, HI.out.1, HI.out.2, ?_⟩, G.out⟩
      rw [List.getElem?_eq_none (Nat.le_refl _)]
set_option maxRecDepth 100000 in
theorem dplace_any (l : List Ad) (t : Int) (p : Option Addr) (c : Nat) (q : Nat → Prop) (w : World) (hR : RdA w q (.slice p l.length c) l) (hm : l.length ≤ 1000000) :
    Calls Try.prog 88 #[.slice p l.length c, .int .i64 t] w fun e w' => PlPost l t w e w' := by
  have HR := Lib.hid hR
  clear hR
  go_enter Try.func88, Try.ntmps88
  go_wp2_with fail
  refine (dbs_any l t p c q w HR.out hm).mono ?_
  rintro e w1 ⟨i, b, rfl, hP, hg⟩
  have HP := Lib.hid (And.intro hP hg)
  clear hP hg
  go_wp2_with fail
  go_ret2
  exact ⟨i, b, rfl, HP.out.1, HP.out.2⟩
set_option maxRecDepth 100000 in
theorem re_size : (Try.prog.info? 73).map (·.size) = some 3 := by kernel_rfl
set_option maxRecDepth 100000 in
theorem res_re_b {fn : Func} {p u : Tmp} (h : fn.results = #[.cell p 73, .tmp u]) (tmps : Array Value) (w : World) (g : Nat) (x y z : Value) (hp : tmps.getD p undef = .pointer (some ⟨g, 0, none⟩)) (hg : w.heap[g]? = some (.cells #[x, y, z] 73 (0, 0))) :
    (results fn tmps).run Try.prog w = .ok (.tuple #[.agg #[x, y, z], tmps.getD u undef]) w := by
  have hp' : tmps[p]?.getD undef = .pointer (some ⟨g, 0, none⟩) := by simpa using hp
  rw [results_cell_tmp h]
  simp [hp', asAddr, run_loadVar_row w g _ _ _ _ _ hg Try.underlying73 rfl re_size, Result.andThen]
set_option maxRecDepth 100000 in
theorem store3r {w : World} {g : Nat} {x0 x1 x2 : Value} {t : TypeId} (u0 u1 u2 : Value) (h : w.heap[g]? = some (.cells #[x0, x1, x2] t (0, 0))) :
    (((w.setCell ⟨g, 0, none⟩ u0).setCell ⟨g, 1, none⟩ u1).setCell ⟨g, 2, none⟩ u2).heap[g]? = some (.cells #[u0, u1, u2] t (0, 0)) ∧ w.grownBy (((w.setCell ⟨g, 0, none⟩ u0).setCell ⟨g, 1, none⟩ u1).setCell ⟨g, 2, none⟩ u2) (some g) := by
  have h0 : TRow w g t [x0, x1, x2] := h
  have S : ∀ (u : World) (j : Nat) (x : Value), u.grownBy (u.setCell ⟨g, j, none⟩ x) (some g) := fun u j x => grown_setCell u ⟨g, j, none⟩ x
  exact ⟨(((h0.set 0 u0).set 1 u1).set 2 u2), grown_trans (grown_trans (S _ _ _) (S _ _ _)) (S _ _ _)⟩
set_option maxRecDepth 100000 in
theorem rc_take {A : Ad} {r : Int} {k : Nat} {x : T3} (h : (A.L.take k).find? (isN r) = none) (hx : A.L[k]? = some x) : (A.L.take (k + 1)).find? (isN r) = if x.a = r then some x else none := by
  rw [List.take_add_one, hx, List.find?_append, h]
  unfold isN
  by_cases e : x.a = r <;> simp [e]
set_option maxRecDepth 100000 in
theorem rc_hit {A : Ad} {r : Int} {k : Nat} {x : T3} (h : (A.L.take k).find? (isN r) = none) (hx : A.L[k]? = some x) (e : x.a = r) : rcA A r = some x := by
  unfold rcA
  have h2 := rc_take h hx
  rw [if_pos e] at h2
  rw [← List.take_append_drop (k + 1) A.L, List.find?_append, h2]
  rfl
set_option maxRecDepth 100000 in
set_option maxHeartbeats 3200000 in
theorem dreach_any (A : Ad) (t : Int) (q : Nat → Prop) (w : World) (hA : AdOk w q A) :
    Calls Try.prog 97 #[.agg #[.int .i64 A.r, .int .i64 A.q, .bool A.cp, .slice A.pL A.L.length A.cL, .slice A.pC A.C.length A.cC], .int .i64 t] w fun e w' => e = .returned (.tuple #[.agg #[.int .i64 (rcV A t).a, .int .i64 (rcV A t).b, .int .i64 (rcV A t).c], .bool (rcA A t).isSome]) ∧ w.grownBy w' none := by
  obtain ⟨k1, k2, k3, k4⟩ := two_boxes w #[.int .i64 A.r, .int .i64 A.q, .bool A.cp, .slice A.pL A.L.length A.cL, .slice A.pC A.C.length A.cC] #[.int .i64 0, .int .i64 0, .int .i64 0] 38 73
  have HB := Lib.hid (And.intro k1 (And.intro k2 (And.intro k3 (hA.keep k3))))
  have hml : A.L.length ≤ 9223372036854775807 := Nat.le_trans hA.hl.1 hA.hl.2
  clear k1 k2 k3 k4 hA
  obtain ⟨r, q2, cp, L, C, pL, cL, pC, cC⟩ := A
  simp only at HB hml ⊢
  obtain ⟨O, hO⟩ : ∃ O, rcA ⟨r, q2, cp, L, C, pL, cL, pC, cC⟩ t = O := ⟨_, rfl⟩
  unfold rcV
  rw [hO]
  have HO := Lib.hid hO
  clear hO
  go_enter Try.func97, Try.ntmps97
  go_upto_region 1 with fail
  generalize (w.alloc _).alloc _ = wa at *
  obtain ⟨c0, c1, c2, c3, c4⟩ := row5 HB.out.1
  go_wp2_with fail
  go_loopw [11] (fun a wr => ∃ k : Nat, k ≤ L.length ∧ a = .int .i64 (k : Int) ∧ Hid ((L.take k).find? (isN t) = none) ∧ Hid (wa.grownBy wr none)) (fun a _ => L.length - (RowKit.intOf a).toNat)
  case atStart => exact ⟨0, Nat.zero_le _, rfl, Lib.hid rfl, Lib.hid (grown_refl _ _)⟩
  case round =>
    obtain ⟨k, hk, rfl, HN, G⟩ := hrel
    clear c0 c1 c2 c3 c4
    by_cases hlt : k < L.length
    · obtain ⟨-, b, off, rfl, hq, hc⟩ := rd3_cells (HB.out.2.2.2.keep G.out).l (show 0 < L.length by omega)
      obtain ⟨x, hx⟩ : ∃ x, L[k]? = some x := ⟨_, List.getElem?_eq_getElem hlt⟩
      obtain ⟨a0, a1, a2⟩ := hc k x hx
      have HX := Lib.hid hx
      have gal := World.grownBy_alloc wr (.cells #[.int .i64 x.a, .int .i64 x.b, .int .i64 x.c] 73) none
      have HL := Lib.hid (And.intro (heap_alloc_new wr (.cells #[.int .i64 x.a, .int .i64 x.b, .int .i64 x.c] 73)) (And.intro (kept_row HB.out.2.1 (grown_trans G.out gal) (by simp)) (grown_trans G.out gal)))
      clear hc hx gal
      go_upto_region 4 with fail
      clear a0 a1 a2
      generalize wr.alloc _ = wy at *
      obtain ⟨d0, d1, d2⟩ := row3 HL.out.1
      by_cases e : x.a = t
      · have e' : (x.a == t) = true := by simpa using e
        obtain rfl : some x = O := by rw [← HO.out]; exact (rc_hit (A := ⟨r, q2, cp, L, C, some ⟨b, off, none⟩, cL, pC, cC⟩) HN.out HX.out e).symm
        obtain ⟨z0, z1, z2⟩ := row3 HL.out.2.1
        have f0 := frozen_of_row _ _ 0 _ _ HL.out.2.1
        have f1 := frozen_of_row _ _ 1 _ _ HL.out.2.1
        have f2 := frozen_of_row _ _ 2 _ _ HL.out.2.1
        have HT := Lib.hid (store3r (.int .i64 x.a) (.int .i64 x.b) (.int .i64 x.c) HL.out.2.1)
        have HG := Lib.hid (grown_trans HB.out.2.2.1 HL.out.2.2)
        clear HL HB e
        go_wp2_with fail
        refine bodyPost_ret (res_re_b rfl _ _ (w.heap.size + 1) _ _ _ rfl HT.out.1) rfl ?_
        exact ⟨rfl, grown_new HG.out HT.out.2 (by omega)⟩
      · have e' : (x.a == t) = false := by simpa using e
        have HN2 : Hid ((L.take (k + 1)).find? (isN t) = none) := Lib.hid (by rw [rc_take (A := ⟨r, q2, cp, L, C, some ⟨b, off, none⟩, cL, pC, cC⟩) HN.out HX.out, if_neg e])
        clear e
        go_wp2_with fail
        exact ⟨⟨k + 1, by omega, congrArg _ (by omega), HN2, Lib.hid HL.out.2.2⟩, by simp only [RowKit.intOf]; omega⟩
    · obtain rfl : k = L.length := by omega
      obtain rfl : none = O := by rw [← HO.out]; unfold rcA; have := HN.out; rw [List.take_length] at this; exact this.symm
      have HZ := Lib.hid (kept_row HB.out.2.1 G.out (by simp))
      obtain ⟨z0, z1, z2⟩ := row3 HZ.out
      have f0 := frozen_of_row _ _ 0 _ _ HZ.out
      have f1 := frozen_of_row _ _ 1 _ _ HZ.out
      have f2 := frozen_of_row _ _ 2 _ _ HZ.out
      have HT := Lib.hid (store3r (.int .i64 0) (.int .i64 0) (.int .i64 0) HZ.out)
      have HG := Lib.hid (grown_trans HB.out.2.2.1 G.out)
      clear HZ HB G
      go_wp2_with fail
      refine bodyPost_ret (res_re_b rfl _ _ (w.heap.size + 1) _ _ _ rfl HT.out.1) rfl ?_
      exact ⟨rfl, grown_new HG.out HT.out.2 (by omega)⟩
end Go.Proofs.Ytnpkihioklpnmaa

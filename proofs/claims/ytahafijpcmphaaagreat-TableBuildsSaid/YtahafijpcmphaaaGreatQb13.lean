/- Parts of the proof, packed: ToFlr, ToMix, ToRtr, ShRtr, ToChkLaw, ToUnt2, ShPre, ShCtM, ShNxM, ToReach, ToStep, ToOpn, ToOpnF. -/
import Derived.Test.YtahafijpcmphaaaGreatQb10
import Derived.Test.YtahafijpcmphaaaGreatQb11
import Derived.Test.YtahafijpcmphaaaGreatQb3
import Derived.Deep.CutBlock
import Derived.Test.YtahafijpcmphaaaGreatQb12
import Derived.Test.YtahafijpcmphaaaGreatQb4
import Derived.Test.YtahafijpcmphaaaGreatQb1
import Derived.Test.YtahafijpcmphaaaGreatQb6
import Derived.Maps.AppendAt
import Derived.Test.YtahafijpcmphaaaGreatQb5
/- empty -/
namespace Go.Proofs.YtahafijpcmphaaaGreat
end Go.Proofs.YtahafijpcmphaaaGreat

/- The tape's Router and Mixed. -/
namespace Go.Proofs.YtahafijpcmphaaaGreat
open Go.RowKit Bs
/-- While a router is drawn: the topology's box. -/
structure RM (a : Nat) (w : World) (T : Tg) (q : Nat → Prop) (wr : World) : Prop where
  tb : wr.heap[w.heap.size]? = some (.cells #[.slice T.pR T.R.length T.cR, .slice T.pL T.L.length T.cL] 45 (0, 0))
  t : TgOk wr q T
  st : St a w wr
set_option maxRecDepth 100000 in
theorem RM.keep {a : Nat} {w wr w1 : World} {T : Tg} {q : Nat → Prop} (h : RM a w T q wr) (g : wr.grownBy w1 none) : RM a w T q w1 :=
  ⟨kept_row h.tb g (by simp), h.t.keep g, h.st.trans ⟨grown_none g _, h.st.2.keep g⟩⟩
set_option maxRecDepth 100000 in
theorem RM.tape {a : Nat} {w wr w1 : World} {T : Tg} {q : Nat → Prop} (h : RM a w T q wr) (ha : a < w.heap.size) (hq : ∀ b, q b → b ≠ a) (k : St a wr w1) : RM a w T q w1 :=
  ⟨kept_row h.tb k.1 (fun e => by have := Option.some.inj e; omega), h.t.grown k.1 (fun b hb e => hq b hb (Option.some.inj e)), h.st.trans k⟩
set_option maxRecDepth 100000 in
theorem RM.rt {a : Nat} {w wr : World} {R : List Rt} {L : List Lk} {pL : Option Addr} {cR cL b off i : Nat} {q : Nat → Prop} {m : Rt} (h : RM a w ⟨R, L, some ⟨b, off, none⟩, cR, pL, cL⟩ q wr) (hm : R[i]? = some m) :
    wr.cell? ⟨b, off + i * 2, none⟩ = some (.int .i64 m.id) ∧ wr.cell? ⟨b, off + i * 2 + 1, none⟩ = some (.bool m.cap) := by
  have h1 := (List.getElem?_eq_some_iff.1 hm).1
  obtain ⟨-, b', off', e, -, hc⟩ := rdr_cells (R := R) h.t.r (by omega)
  injection e with e
  injection e with e4 e5
  subst e4
  subst e5
  exact hc i m hm
/-- While routers turn capable or not: the topology's block B. -/
structure MK (a : Nat) (w : World) (B : Nat) (vR vL : Value) (R : List Rt) (L : List Lk) (wr : World) : Prop where
  gb : wr.heap[B]? = some (.cells #[vR, vL] 45 (0, 0))
  rb : wr.heap[w.heap.size]? = some (.cells #[.slice none 0 0, .slice none 0 0] 45 (0, 0))
  oR : wr.ownsRow (w.heap.size + 1) 92 2 vR R.length (R.flatMap rtC)
  oL : wr.ownsRow (w.heap.size + 1) 94 5 vL L.length (L.flatMap lkC)
  ap : ∀ g, vR.ownBlock = some g → vL.ownBlock ≠ some g
  nR : vR.ownBlock ≠ some B
  st : St a w wr
  bb : w.heap.size + 1 ≤ B
set_option maxRecDepth 100000 in
theorem MK.keep {a B : Nat} {w wr w1 : World} {vR vL : Value} {R : List Rt} {L : List Lk} (h : MK a w B vR vL R L wr) (g : wr.grownBy w1 none) : MK a w B vR vL R L w1 :=
  ⟨kept_row h.gb g (by simp), kept_row h.rb g (by simp), h.oR.kept g (by cases hv : vR.ownBlock <;> simp), h.oL.kept g (by cases hv : vL.ownBlock <;> simp), h.ap, h.nR, h.st.trans ⟨grown_none g _, h.st.2.keep g⟩, h.bb⟩
set_option maxRecDepth 100000 in
theorem MK.tape {a B : Nat} {w wr w1 : World} {vR vL : Value} {R : List Rt} {L : List Lk} (h : MK a w B vR vL R L wr) (ha : a < w.heap.size) (k : St a wr w1) : MK a w B vR vL R L w1 :=
  ⟨kept_row h.gb k.1 (fun e => by have := Option.some.inj e; have := h.bb; omega), kept_row h.rb k.1 (fun e => by have := Option.some.inj e; omega), own_other h.oR k.1 (by omega), own_other h.oL k.1 (by omega), h.ap, h.nR, h.st.trans k, h.bb⟩
set_option maxRecDepth 100000 in
theorem flat_setR : ∀ (R : List Rt) (k : Nat) (z : Bool), k < R.length → ∃ R' : List Rt, R'.length = R.length ∧ R'.map (·.id) = R.map (·.id) ∧ R'.flatMap rtC = (R.flatMap rtC).set (k * 2 + 1) (.bool z)
  | [], k, _, hk => absurd hk (Nat.not_lt_zero k)
  | m :: t, 0, z, _ => ⟨⟨m.id, z⟩ :: t, rfl, rfl, rfl⟩
  | m :: t, k + 1, z, hk => by
    obtain ⟨R', h1, h2, h3⟩ := flat_setR t k z (by simpa using hk)
    refine ⟨m :: R', by simp [h1], by rw [List.map_cons, h2, List.map_cons], ?_⟩
    rw [List.flatMap_cons, h3, List.flatMap_cons]
    have e : (k + 1) * 2 + 1 = (rtC m).length + (k * 2 + 1) := by
      show (k + 1) * 2 + 1 = 2 + (k * 2 + 1)
      omega
    rw [e, List.set_append_right _ _ (Nat.le_add_right _ _), Nat.add_sub_cancel_left]
set_option maxRecDepth 100000 in
theorem MK.setR {a B g n cap k : Nat} {w wr : World} {vL : Value} {R : List Rt} {L : List Lk} {z : Bool} (h : MK a w B (.slice (some ⟨g, 0, none⟩) n cap) vL R L wr) (ha : a < w.heap.size) (hk : k < R.length) :
    ∃ R' : List Rt, R'.length = R.length ∧ R'.map (·.id) = R.map (·.id) ∧ MK a w B (.slice (some ⟨g, 0, none⟩) n cap) vL R' L (wr.setCell ⟨g, k * 2 + 1, none⟩ (.bool z)) := by
  obtain ⟨R', hl, hm, hf⟩ := flat_setR R k z hk
  have hg0 := (h.oR.lt g rfl).1
  have hn : n = R.length := by
    obtain ⟨p, c, e, _⟩ := own_shape h.oR
    injection e
  subst hn
  obtain ⟨s1, s2⟩ := h.oR.stored (k * 2 + 1) (.bool z)
  refine ⟨R', hl, hm, kept_row h.gb s2 (fun e => h.nR (by rw [e]; rfl)), kept_row h.rb s2 (fun e => by have : w.heap.size = g := Option.some.inj e; omega), ?_, h.oL.kept s2 ?_, h.ap, h.nR, h.st.storeT s2 (by omega) ha, h.bb⟩
  · rw [hl, hf]; exact s1
  · cases hv : vL.ownBlock with
    | none => exact .inl rfl
    | some k => exact .inr (fun e => h.ap g rfl (by rw [hv, e]))
set_option maxRecDepth 100000 in
theorem MK.rtAt {a B g n cap k : Nat} {w wr : World} {vL : Value} {R : List Rt} {L : List Lk} {m : Rt} (h : MK a w B (.slice (some ⟨g, 0, none⟩) n cap) vL R L wr) (hm : R[k]? = some m) : wr.cell? ⟨g, k * 2 + 1, none⟩ = some (.bool m.cap) := by
  have h1 := (List.getElem?_eq_some_iff.1 hm).1
  have hn : n = R.length := by
    obtain ⟨p, c, e, _⟩ := own_shape h.oR
    injection e
  subst hn
  rw [h.oR.cellAt (k * 2 + 1) (by omega)]
  exact (flat_at rtC 2 (fun _ => rfl) R k 1 m hm (by decide)).trans rfl
set_option maxRecDepth 100000 in
theorem MK.frz {a B g n cap : Nat} {w wr : World} {vL : Value} {R : List Rt} {L : List Lk} (h : MK a w B (.slice (some ⟨g, 0, none⟩) n cap) vL R L wr) (j : Nat) : wr.frozen? ⟨g, j, none⟩ = false := by
  have hn : n = R.length := by
    obtain ⟨p, c, e, _⟩ := own_shape h.oR
    injection e
  subst hn
  exact h.oR.frozenAt j
set_option maxRecDepth 100000 in
set_option maxHeartbeats 3200000 in
theorem mixed_any (a most : Nat) (hm1 : 1 ≤ most) (hm8 : most ≤ 8) (w : World) (hT : Tp w a) :
    Calls Tryz.prog 28 #[.pointer (some ⟨a, 0, none⟩), .int .i64 (most : Int)] w fun e w' =>
      ∃ (R0 R : List Rt) (L : List Lk) (vR vL : Value), e = .returned (.agg #[vR, vL]) ∧ w'.ownsRow w.heap.size 92 2 vR R.length (R.flatMap rtC) ∧ w'.ownsRow w.heap.size 94 5 vL L.length (L.flatMap lkC) ∧ TopOf most 0 R0 L ∧ R.map (·.id) = R0.map (·.id) ∧ St a w w' := by
  have ha := hT.lt
  obtain ⟨k1, k2⟩ := tone_box w #[.slice none 0 0, .slice none 0 0] 45
  have HB := Lib.hid (And.intro k1 (And.intro k2 (hT.keep k2)))
  have hsz : w.heap.size + 1 = (w.alloc (.cells #[.slice none 0 0, .slice none 0 0] 45)).heap.size := by simp
  clear k1 k2 hT
  go_enter Tryz.func28, Tryz.ntmps28
  go_upto_region 1 with fail
  generalize w.alloc _ = wa at *
  go_wp2_with fail
  refine (topo_any a most 0 hm1 hm8 (by unfold I64; omega) wa HB.out.2.2).mono ?_
  rintro e w1 ⟨R0, L, vR, vL, rfl, hR, hL, hap, hO, hs⟩
  have gal := World.grownBy_alloc w1 (.cells #[vR, vL] 45) none
  have hw1 : wa.heap.size ≤ w1.heap.size := hs.1.size
  have HK0 : Hid (MK a w w1.heap.size vR vL R0 L (w1.alloc (.cells #[vR, vL] 45))) := Lib.hid ⟨heap_alloc_new w1 _, kept_row (kept_row HB.out.1 hs.1 (fun e => by have := Option.some.inj e; omega)) gal (by simp), (hR.mono (by omega)).alloc _, (hL.mono (by omega)).alloc _, hap, fun e => by have := (hR.lt _ e).2; omega, (show St a w w1 from ⟨grown_trans (grown_none HB.out.2.1 _) hs.1, hs.2⟩).trans ⟨grown_none gal _, hs.2.keep gal⟩, by omega⟩
  have HO := Lib.hid hO
  have hRl : R0.length ≤ 100 := by have := hO.2.2.1; omega
  obtain ⟨pR, cR, rfl, -, -⟩ := own_shape hR
  obtain ⟨pL, cL, rfl, -, -⟩ := own_shape hL
  clear hR hL hap hs gal hO HB
  obtain ⟨NR, hNR⟩ : ∃ NR, R0.length = NR := ⟨_, rfl⟩
  have HNR := Lib.hid hNR
  rw [hNR] at HK0 hRl
  rw [hNR]
  clear hNR
  go_upto_region 2 with fail
  generalize w1.alloc _ = w2 at *
  generalize w1.heap.size = B at *
  go_wp2_with fail
  go_loopw [6] (fun i wr => ∃ k : Nat, k ≤ NR ∧ i = .int .i64 (k : Int) ∧ ∃ R : List Rt, R.map (·.id) = R0.map (·.id) ∧ Hid (MK a w B (.slice pR NR cR) (.slice pL L.length cL) R L wr)) (fun i _ => NR - (RowKit.intOf i).toNat)
  case atStart => exact ⟨0, Nat.zero_le _, rfl, R0, rfl, HK0⟩
  case round =>
  obtain ⟨k, hk, rfl, R, hids, HK⟩ := hrel
  clear HK0
  have hRN : Hid (R.length = NR) := Lib.hid (by have := congrArg List.length hids; rw [List.length_map, List.length_map] at this; rw [this]; exact HNR.out)
  have HI := Lib.hid hids
  clear hids
  obtain ⟨c0, c1⟩ := row_cells HK.out.gb
  by_cases hlt : k < NR
  · have hkR : k < R.length := by rw [hRN.out]; exact hlt
    obtain ⟨g, rfl⟩ : ∃ g, pR = some ⟨g, 0, none⟩ := by
      rcases own_formF HK.out.oR with ⟨-, e0⟩ | ⟨g, cap, e, -⟩
      · omega
      · injection e with e1; exact ⟨g, e1⟩
    obtain ⟨m, hm⟩ : ∃ m, R[k]? = some m := ⟨_, List.getElem?_eq_getElem hkR⟩
    have HM := Lib.hid hm
    have i0 : (0 : Int) ≤ (k : Int) := by omega
    have i1 : (k : Int) < (NR : Int) := by omega
    clear hm
    go_upto_region 5 with fail
    clear c0 c1
    refine region_until (S := fun w' => Hid (MK a w B (.slice (some ⟨g, 0, none⟩) NR cR) (.slice pL L.length cL) R L w')) (fun j => j == 8) (by kernel_rfl) (Lib.hid (HK.out.keep (grown_drew (grown_refl _ _)))) (fun hHeld => ?_)
    refine anyU_take (i := 0) (oi := { dst := some 17, op := Op.fieldAddr 45 (Operand.tmp 5) 0, type := 0, pos := "make.go:285", after := #[], guard := none }) (v := ?_) rfl (by kernel_rfl) (by kernel_rfl) (by kernel_rfl) (by kernel_rfl) (by kernel_rfl) (fun _ _ _ h => h) (Or.inl ⟨by rfl, ?_⟩) hHeld ?_
    rotate_left 1
    · intro u hSu
      obtain ⟨q0, q1⟩ := row_cells hSu.out.gb
      go_simp
      first | done | with_reducible rfl
    (try simp only [Act.put, List.setIfInBounds_toArray, List.set_cons_zero, List.set_cons_succ])
    refine anyU_take (i := 1) (oi := { dst := some 18, op := Op.load 42 (Operand.tmp 17), type := 42, pos := "make.go:285", after := #[{ on := 0, ground := Ground.data }], guard := none }) (v := ?_) rfl (by kernel_rfl) (by kernel_rfl) (by kernel_rfl) (by kernel_rfl) (by kernel_rfl) (fun _ _ _ h => h) (Or.inl ⟨by rfl, ?_⟩) hHeld ?_
    rotate_left 1
    · intro u hSu
      obtain ⟨q0, q1⟩ := row_cells hSu.out.gb
      go_simp
      first | done | with_reducible rfl
    (try simp only [Act.put, List.setIfInBounds_toArray, List.set_cons_zero, List.set_cons_succ])
    refine anyU_take (i := 2) (oi := { dst := some 19, op := Op.move (Operand.tmp 6), type := 3, pos := "make.go:285", after := #[], guard := none }) (v := ?_) rfl (by kernel_rfl) (by kernel_rfl) (by kernel_rfl) (by kernel_rfl) (by kernel_rfl) (fun _ _ _ h => h) (Or.inl ⟨by rfl, ?_⟩) hHeld ?_
    rotate_left 1
    · intro u hSu
      obtain ⟨q0, q1⟩ := row_cells hSu.out.gb
      go_simp
      first | done | with_reducible rfl
    (try simp only [Act.put, List.setIfInBounds_toArray, List.set_cons_zero, List.set_cons_succ])
    refine anyU_take (i := 3) (oi := { dst := some 20, op := Op.move (Operand.tmp 0), type := 26, pos := "make.go:285", after := #[], guard := none }) (v := ?_) rfl (by kernel_rfl) (by kernel_rfl) (by kernel_rfl) (by kernel_rfl) (by kernel_rfl) (fun _ _ _ h => h) (Or.inl ⟨by rfl, ?_⟩) hHeld ?_
    rotate_left 1
    · intro u hSu
      obtain ⟨q0, q1⟩ := row_cells hSu.out.gb
      go_simp
      first | done | with_reducible rfl
    (try simp only [Act.put, List.setIfInBounds_toArray, List.set_cons_zero, List.set_cons_succ])
    refine anyU_ready (rs := [4]) (by kernel_rfl) (by simp) ?_
    refine EachU.cons (o := { dst := some 21, op := Op.call { callee := Callee.value (Operand.func 23), args := #[Operand.tmp 20, Operand.const (Value.int IntKind.i64 3)], argTypes := #[26, 3] }, type := 4, pos := "make.go:285", after := #[{ on := 3, ground := Ground.data }], guard := none }) rfl (fun Kz hK => ?_) EachU.nil
    go_simp
    go_at_call 23
    refine (one_any a 3 (by unfold I64; omega) _ hHeld.out.st.2).mono ?_
    rintro e w5 ⟨z, rfl, hs⟩
    have H5n := Lib.hid (hHeld.out.tape ha hs)
    clear hs
    refine hK.out _ _ (fun _ => H5n) (fun hH2 => ?_)
    clear hK Kz hHeld
    have hHeld := hH2 rfl
    clear hH2
    (try simp only [Act.put, List.setIfInBounds_toArray, List.set_cons_zero, List.set_cons_succ])
    refine anyU_take (i := 5) (oi := { dst := some 22, op := Op.unOp UnOp.not 4 (Operand.tmp 21), type := 4, pos := "make.go:285", after := #[{ on := 4, ground := Ground.data }], guard := none }) (v := ?_) rfl (by kernel_rfl) (by kernel_rfl) (by kernel_rfl) (by kernel_rfl) (by kernel_rfl) (fun _ _ _ h => h) (Or.inl ⟨by rfl, ?_⟩) hHeld ?_
    rotate_left 1
    · intro u hSu
      obtain ⟨q0, q1⟩ := row_cells hSu.out.gb
      go_simp
      first | done | with_reducible rfl
    (try simp only [Act.put, List.setIfInBounds_toArray, List.set_cons_zero, List.set_cons_succ])
    refine anyU_take (i := 6) (oi := { dst := some 23, op := Op.indexAddr 42 (Operand.tmp 18) (Operand.tmp 19), type := 0, pos := "make.go:285", after := #[{ on := 1, ground := Ground.data }, { on := 2, ground := Ground.data }, { on := 0, ground := Ground.phase }, { on := 1, ground := Ground.phase }, { on := 2, ground := Ground.phase }, { on := 3, ground := Ground.phase }, { on := 4, ground := Ground.phase }, { on := 5, ground := Ground.phase }], guard := none }) (v := ?_) rfl (by kernel_rfl) (by kernel_rfl) (by kernel_rfl) (by kernel_rfl) (by kernel_rfl) (fun _ _ _ h => h) (Or.inl ⟨by rfl, ?_⟩) hHeld ?_
    rotate_left 1
    · intro u hSu
      obtain ⟨q0, q1⟩ := row_cells hSu.out.gb
      go_simp
      first | done | with_reducible rfl
    (try simp only [Act.put, List.setIfInBounds_toArray, List.set_cons_zero, List.set_cons_succ])
    refine anyU_take (i := 7) (oi := { dst := some 24, op := Op.fieldAddr 92 (Operand.tmp 23) 1, type := 0, pos := "make.go:285", after := #[{ on := 6, ground := Ground.data }, { on := 0, ground := Ground.phase }, { on := 1, ground := Ground.phase }, { on := 2, ground := Ground.phase }, { on := 3, ground := Ground.phase }, { on := 4, ground := Ground.phase }, { on := 5, ground := Ground.phase }], guard := none }) (v := ?_) rfl (by kernel_rfl) (by kernel_rfl) (by kernel_rfl) (by kernel_rfl) (by kernel_rfl) (fun _ _ _ h => h) (Or.inl ⟨by rfl, ?_⟩) hHeld ?_
    rotate_left 1
    · intro u hSu
      obtain ⟨q0, q1⟩ := row_cells hSu.out.gb
      go_simp
      first | done | with_reducible rfl
    (try simp only [Act.put, List.setIfInBounds_toArray, List.set_cons_zero, List.set_cons_succ])
    refine anyU_ready (rs := [8]) (by kernel_rfl) (by simp) ?_
    refine EachU.cons (o := { dst := none, op := Op.store 4 (Operand.tmp 24) (Operand.tmp 22), type := 0, pos := "make.go:285", after := #[{ on := 7, ground := Ground.data }, { on := 5, ground := Ground.data }, { on := 4, ground := Ground.chain }, { on := 0, ground := Ground.phase }, { on := 1, ground := Ground.phase }, { on := 2, ground := Ground.phase }, { on := 3, ground := Ground.phase }, { on := 4, ground := Ground.phase }, { on := 5, ground := Ground.phase }], guard := none }) rfl (fun Kz hK => ?_) EachU.nil
    have cS := hHeld.out.rtAt HM.out
    have fS := hHeld.out.frz (k * 2 + 1)
    go_simp
    refine hK.out _ _ (fun h => by cases h) (fun _ => ?_)
    clear hK Kz
    (try simp only [Act.put, List.setIfInBounds_toArray, List.set_cons_zero, List.set_cons_succ])
    refine anyU_done (by kernel_rfl) ?_ _
    obtain ⟨R', hl', hm', HS⟩ := hHeld.out.setR (z := !z) ha hkR
    have HS := Lib.hid HS
    have hid' : R'.map (·.id) = R0.map (·.id) := hm'.trans HI.out
    clear hHeld hl' hm' cS fS
    go_wp2_with fail
    exact ⟨⟨k + 1, by omega, congrArg _ (by omega), R', hid', HS⟩, by simp only [RowKit.intOf]; omega⟩
  · obtain rfl : k = NR := by omega
    obtain ⟨d0, d1⟩ := row_cells HK.out.rb
    have f0 := frozen_of_row _ _ 0 _ _ HK.out.rb
    have f1 := frozen_of_row _ _ 1 _ _ HK.out.rb
    have hrow := store2 (u := .slice pR k cR) (z := .slice pL L.length cL) HK.out.rb
    have hst := grown_store2 wr w.heap.size (.slice pR k cR) (.slice pL L.length cL)
    have HR := Lib.hid (And.intro hrow (And.intro (own_other HK.out.oR hst (by omega)) (And.intro (own_other HK.out.oL hst (by omega)) (HK.out.st.storeT hst (Nat.le_refl _) ha))))
    clear hrow hst HK
    go_wp2_with fail
    refine bodyPost_ret (res_topo rfl _ _ w.heap.size _ _ rfl HR.out.1) rfl ?_
    exact ⟨R0, R, L, _, _, rfl, HR.out.2.1.mono (by omega), HR.out.2.2.1.mono (by omega), HO.out, HI.out, HR.out.2.2.2⟩
end Go.Proofs.YtahafijpcmphaaaGreat

/- The tape's Router of any topology. -/
namespace Go.Proofs.YtahafijpcmphaaaGreat
open Go.RowKit Bs
end Go.Proofs.YtahafijpcmphaaaGreat

/- The tape's Router of any topology: what is known of its number. -/
namespace Go.Proofs.YtahafijpcmphaaaGreat
open Go.RowKit Bs
def RtP (T : Tg) (n x : Int) : Prop := (∃ r ∈ T.R, r.id = x) ∨ ((0 < n ∨ T.R.length = 0) ∧ -1 ≤ x ∧ x ≤ 77)
set_option maxRecDepth 100000 in
set_option maxHeartbeats 3200000 in
theorem srouter_any (a : Nat) (T : Tg) (n : Int) (hn : I64 n) (h0 : 0 < T.R.length) (q : Nat → Prop) (w : World) (hT : TgOk w q T) (hq : ∀ b, q b → b ≠ a) (hp : Tp w a) :
    Calls Tryz.prog 30 #[.pointer (some ⟨a, 0, none⟩), .agg #[.slice T.pR T.R.length T.cR, .slice T.pL T.L.length T.cL], .int .i64 n] w fun e w' => ∃ x : Int, RtP T n x ∧ e = .returned (.int .i64 x) ∧ St a w w' := by
  have ha := hp.lt
  have hmR := Nat.le_trans hT.cr.1 hT.cr.2
  obtain ⟨k1, k2⟩ := tone_box w #[.slice T.pR T.R.length T.cR, .slice T.pL T.L.length T.cL] 45
  have H0 : Hid (RM a w T q _) := Lib.hid ⟨k1, hT.keep k2, ⟨grown_none k2 _, hp.keep k2⟩⟩
  have HQ := Lib.hid hq
  clear k1 k2 hT hp hq
  obtain ⟨R, L, pR, cR, pL, cL⟩ := T
  simp only at hmR H0 h0 ⊢
  obtain ⟨-, b, off, rfl, -, -⟩ := rdr_cells (R := R) H0.out.t.r h0
  go_enter Tryz.func30, Tryz.ntmps30
  go_upto_region 1 with fail
  generalize w.alloc _ = wa at *
  obtain ⟨c0, c1⟩ := row_cells H0.out.tb
  have hz : ((R.length : Int) == 0) = false := by rw [beq_eq_false_iff_ne]; omega
  go_cut [19] from 7 to 19 (fun bb wx => ∃ z, bb = .bool z ∧ (z = true → 0 < n) ∧ Hid (RM a w ⟨R, L, some ⟨b, off, none⟩, cR, pL, cL⟩ q wx))
  case first =>
    by_cases hn1 : 0 < n
    · go_wp2_with fail
      refine (one_any a n hn _ H0.out.st.2).mono ?_
      rintro e w5 ⟨z, rfl, hs⟩
      have H1 := Lib.hid (H0.out.tape ha HQ.out hs)
      clear hs c0 c1 H0
      obtain ⟨c0, c1⟩ := row_cells H1.out.tb
      cases z
      · go_wp2_with fail
        go_meet
        exact ⟨_, rfl, fun _ => hn1, H1⟩
      · go_wp2_with fail
        go_meet
        exact ⟨_, rfl, fun _ => hn1, H1⟩
    · go_wp2_with fail
      go_meet
      exact ⟨false, rfl, (fun h => (by cases h)), H0⟩
  case rest =>
  obtain ⟨z, rfl, hzn, H1⟩ := hcut
  have HZN := Lib.hid hzn
  clear hzn
  clear H0 c0 c1
  go_upto_if 19 with fail
  cases z
  · have i1 : 0 < R.length := h0
    go_upto_region 3 with fail
    refine wp_region_held_drew (S := fun w' => Hid (RM a w ⟨R, L, some ⟨b, off, none⟩, cR, pL, cL⟩ q w')) (by kernel_rfl) (Lib.hid (H1.out.keep (grown_drew (grown_refl _ _)))) (fun hHeld => ?_)
    refine wpAnyH_take (i := 0) (oi := { dst := some 23, op := Op.fieldAddr 45 (Operand.tmp 4) 0, type := 0, pos := "make.go:639", after := #[], guard := none }) (v := ?_) rfl (by kernel_rfl) (by kernel_rfl) (by kernel_rfl) (fun _ _ _ h => h) (Or.inl ⟨by rfl, ?_⟩) hHeld ?_
    rotate_left 1
    · intro u hSu
      obtain ⟨q0, q1⟩ := row_cells hSu.out.tb
      go_simp
      first | done | with_reducible rfl
    (try simp only [Act.put, List.setIfInBounds_toArray, List.set_cons_zero, List.set_cons_succ])
    refine wpAnyH_take (i := 1) (oi := { dst := some 24, op := Op.load 42 (Operand.tmp 23), type := 42, pos := "make.go:639", after := #[{ on := 0, ground := Ground.data }], guard := none }) (v := ?_) rfl (by kernel_rfl) (by kernel_rfl) (by kernel_rfl) (fun _ _ _ h => h) (Or.inl ⟨by rfl, ?_⟩) hHeld ?_
    rotate_left 1
    · intro u hSu
      obtain ⟨q0, q1⟩ := row_cells hSu.out.tb
      go_simp
      first | done | with_reducible rfl
    (try simp only [Act.put, List.setIfInBounds_toArray, List.set_cons_zero, List.set_cons_succ])
    refine wpAnyH_take (i := 2) (oi := { dst := some 25, op := Op.move (Operand.tmp 0), type := 26, pos := "make.go:639", after := #[], guard := none }) (v := ?_) rfl (by kernel_rfl) (by kernel_rfl) (by kernel_rfl) (fun _ _ _ h => h) (Or.inl ⟨by rfl, ?_⟩) hHeld ?_
    rotate_left 1
    · intro u hSu
      obtain ⟨q0, q1⟩ := row_cells hSu.out.tb
      go_simp
      first | done | with_reducible rfl
    (try simp only [Act.put, List.setIfInBounds_toArray, List.set_cons_zero, List.set_cons_succ])
    refine wpAnyH_take (i := 3) (oi := { dst := some 26, op := Op.fieldAddr 45 (Operand.tmp 4) 0, type := 0, pos := "make.go:639", after := #[], guard := none }) (v := ?_) rfl (by kernel_rfl) (by kernel_rfl) (by kernel_rfl) (fun _ _ _ h => h) (Or.inl ⟨by rfl, ?_⟩) hHeld ?_
    rotate_left 1
    · intro u hSu
      obtain ⟨q0, q1⟩ := row_cells hSu.out.tb
      go_simp
      first | done | with_reducible rfl
    (try simp only [Act.put, List.setIfInBounds_toArray, List.set_cons_zero, List.set_cons_succ])
    refine wpAnyH_take (i := 4) (oi := { dst := some 27, op := Op.load 42 (Operand.tmp 26), type := 42, pos := "make.go:639", after := #[{ on := 3, ground := Ground.data }], guard := none }) (v := ?_) rfl (by kernel_rfl) (by kernel_rfl) (by kernel_rfl) (fun _ _ _ h => h) (Or.inl ⟨by rfl, ?_⟩) hHeld ?_
    rotate_left 1
    · intro u hSu
      obtain ⟨q0, q1⟩ := row_cells hSu.out.tb
      go_simp
      first | done | with_reducible rfl
    (try simp only [Act.put, List.setIfInBounds_toArray, List.set_cons_zero, List.set_cons_succ])
    refine wpAnyH_take (i := 5) (oi := { dst := some 28, op := Op.call { callee := Callee.builtin Builtin.len, args := #[Operand.tmp 27], argTypes := #[42] }, type := 3, pos := "make.go:639", after := #[{ on := 4, ground := Ground.data }], guard := none }) (v := ?_) rfl (by kernel_rfl) (by kernel_rfl) (by kernel_rfl) (fun _ _ _ h => h) (Or.inl ⟨by rfl, ?_⟩) hHeld ?_
    rotate_left 1
    · intro u hSu
      obtain ⟨q0, q1⟩ := row_cells hSu.out.tb
      go_simp
      first | done | with_reducible rfl
    (try simp only [Act.put, List.setIfInBounds_toArray, List.set_cons_zero, List.set_cons_succ])
    refine wpAnyH_ready (rs := [6]) (by kernel_rfl) (by simp) ?_
    refine AllReadyH.cons (o := { dst := some 29, op := Op.call { callee := Callee.value (Operand.func 45), args := #[Operand.tmp 25, Operand.tmp 28], argTypes := #[26, 3] }, type := 3, pos := "make.go:639", after := #[{ on := 2, ground := Ground.data }, { on := 5, ground := Ground.data }], guard := none }) rfl (fun Kz hK => ?_) AllReadyH.nil
    go_simp
    go_at_call 45
    refine (next_any a R.length (by unfold I64; omega) _ hHeld.out.st.2).mono ?_
    rintro e w5 ⟨y, rfl, hy, hs⟩
    obtain ⟨i, rfl⟩ := Int.eq_ofNat_of_zero_le hy.1
    have hi : i < R.length := by have := hy.2.1 (by omega); omega
    have H5n := Lib.hid (hHeld.out.tape ha HQ.out hs)
    clear hy hs
    have j0 : (0 : Int) ≤ (i : Int) := by omega
    have j1 : (i : Int) < (R.length : Int) := by omega
    obtain ⟨m, hm⟩ : ∃ m, R[i]? = some m := ⟨_, List.getElem?_eq_getElem hi⟩
    have HM := Lib.hid hm
    clear hm
    refine hK.out _ _ (H5n) (fun hH2 => ?_)
    clear hK Kz hHeld
    have hHeld := hH2
    clear hH2
    (try simp only [Act.put, List.setIfInBounds_toArray, List.set_cons_zero, List.set_cons_succ])
    refine wpAnyH_take (i := 7) (oi := { dst := some 30, op := Op.indexAddr 42 (Operand.tmp 24) (Operand.tmp 29), type := 0, pos := "make.go:639", after := #[{ on := 1, ground := Ground.data }, { on := 6, ground := Ground.data }], guard := none }) (v := ?_) rfl (by kernel_rfl) (by kernel_rfl) (by kernel_rfl) (fun _ _ _ h => h) (Or.inl ⟨by rfl, ?_⟩) hHeld ?_
    rotate_left 1
    · intro u hSu
      obtain ⟨q0, q1⟩ := row_cells hSu.out.tb
      go_simp
      first | done | with_reducible rfl
    (try simp only [Act.put, List.setIfInBounds_toArray, List.set_cons_zero, List.set_cons_succ])
    refine wpAnyH_take (i := 8) (oi := { dst := some 31, op := Op.fieldAddr 92 (Operand.tmp 30) 0, type := 0, pos := "make.go:639", after := #[{ on := 7, ground := Ground.data }], guard := none }) (v := ?_) rfl (by kernel_rfl) (by kernel_rfl) (by kernel_rfl) (fun _ _ _ h => h) (Or.inl ⟨by rfl, ?_⟩) hHeld ?_
    rotate_left 1
    · intro u hSu
      obtain ⟨q0, q1⟩ := row_cells hSu.out.tb
      go_simp
      first | done | with_reducible rfl
    (try simp only [Act.put, List.setIfInBounds_toArray, List.set_cons_zero, List.set_cons_succ])
    refine wpAnyH_take (i := 9) (oi := { dst := some 32, op := Op.load 3 (Operand.tmp 31), type := 3, pos := "make.go:639", after := #[{ on := 8, ground := Ground.data }], guard := none }) (v := ?_) rfl (by kernel_rfl) (by kernel_rfl) (by kernel_rfl) (fun _ _ _ h => h) (Or.inl ⟨by rfl, ?_⟩) hHeld ?_
    rotate_left 1
    · intro u hSu
      obtain ⟨q0, q1⟩ := row_cells hSu.out.tb
      obtain ⟨e0, e1⟩ := hSu.out.rt HM.out
      go_simp
      first | done | with_reducible rfl
    (try simp only [Act.put, List.setIfInBounds_toArray, List.set_cons_zero, List.set_cons_succ])
    refine wpAnyH_take (i := 10) (oi := { dst := some 6, op := Op.assign (Operand.tmp 32), type := 3, pos := "make.go:639", after := #[{ on := 9, ground := Ground.data }, { on := 6, ground := Ground.chain }, { on := 0, ground := Ground.phase }, { on := 1, ground := Ground.phase }, { on := 2, ground := Ground.phase }, { on := 3, ground := Ground.phase }, { on := 4, ground := Ground.phase }, { on := 5, ground := Ground.phase }, { on := 6, ground := Ground.phase }, { on := 7, ground := Ground.phase }, { on := 8, ground := Ground.phase }, { on := 9, ground := Ground.phase }], guard := none }) (v := ?_) rfl (by kernel_rfl) (by kernel_rfl) (by kernel_rfl) (fun _ _ _ h => h) (Or.inl ⟨by rfl, ?_⟩) hHeld ?_
    rotate_left 1
    · intro u hSu
      obtain ⟨q0, q1⟩ := row_cells hSu.out.tb
      go_simp
      first | done | with_reducible rfl
    (try simp only [Act.put, List.setIfInBounds_toArray, List.set_cons_zero, List.set_cons_succ])
    refine wpAnyH_done (by kernel_rfl) ?_ _
    have H9 := Lib.hid hHeld.out.st
    clear hHeld
    go_wp2_with fail
    go_ret
    exact ⟨m.id, Or.inl ⟨m, List.mem_of_getElem? HM.out, rfl⟩, rfl, H9.out⟩
  · have HT := Lib.hid (H1.out.st.2.alloc (.cells #[.int .i64 0, .int .i64 1, .int .i64 2, .int .i64 7, .int .i64 77, .int .i64 (-1)] 3))
    have HA := Lib.hid (among_list (fun x => -1 ≤ x ∧ x ≤ 77) wc a [0, 1, 2, 7, 77, -1] #[.int .i64 0, .int .i64 1, .int .i64 2, .int .i64 7, .int .i64 77, .int .i64 (-1)] 3 H1.out.st.2.lt rfl (by intro x hx; simp at hx; omega))
    go_wp2_with fail
    refine (pick_any _ a _ 0 6 6 (by omega) (by omega) _ HT.out HA.out).mono ?_
    rintro e w2 ⟨x, rfl, hxp, hs⟩
    have HS := Lib.hid (H1.out.st.trans (St.alloc_left hs))
    clear hs HT HA H1
    have HXP := Lib.hid hxp
    clear hxp
    go_wp2_with fail
    go_ret
    exact ⟨x, Or.inr ⟨Or.inl (HZN.out (by first | rfl | trivial)), HXP.out⟩, rfl, HS.out⟩
set_option maxRecDepth 100000 in
set_option maxHeartbeats 3200000 in
theorem srouter0_any (a : Nat) (T : Tg) (n : Int) (hn : I64 n) (h0 : T.R.length = 0) (q : Nat → Prop) (w : World) (hT : TgOk w q T) (hq : ∀ b, q b → b ≠ a) (hp : Tp w a) :
    Calls Tryz.prog 30 #[.pointer (some ⟨a, 0, none⟩), .agg #[.slice T.pR T.R.length T.cR, .slice T.pL T.L.length T.cL], .int .i64 n] w fun e w' => ∃ x : Int, RtP T n x ∧ e = .returned (.int .i64 x) ∧ St a w w' := by
  have ha := hp.lt
  have hmR := Nat.le_trans hT.cr.1 hT.cr.2
  obtain ⟨k1, k2⟩ := tone_box w #[.slice T.pR T.R.length T.cR, .slice T.pL T.L.length T.cL] 45
  have H0 : Hid (RM a w T q _) := Lib.hid ⟨k1, hT.keep k2, ⟨grown_none k2 _, hp.keep k2⟩⟩
  have HQ := Lib.hid hq
  clear k1 k2 hT hp hq
  obtain ⟨R, L, pR, cR, pL, cL⟩ := T
  simp only at hmR H0 h0 ⊢
  have hz : ((R.length : Int) == 0) = true := by rw [beq_iff_eq]; omega
  have H00 := Lib.hid h0
  clear h0
  go_enter Tryz.func30, Tryz.ntmps30
  go_upto_region 1 with fail
  generalize w.alloc _ = wa at *
  obtain ⟨c0, c1⟩ := row_cells H0.out.tb
  go_cut [19] from 7 to 19 (fun bb wx => bb = .bool true ∧ Hid (RM a w ⟨R, L, pR, cR, pL, cL⟩ q wx))
  case first =>
    by_cases hn1 : 0 < n
    · go_wp2_with fail
      refine (one_any a n hn _ H0.out.st.2).mono ?_
      rintro e w5 ⟨z, rfl, hs⟩
      have H1 := Lib.hid (H0.out.tape ha HQ.out hs)
      clear hs c0 c1 H0
      obtain ⟨c0, c1⟩ := row_cells H1.out.tb
      cases z
      · go_wp2_with fail
        go_meet
        exact ⟨by first | rfl | (simp [hz]), H1⟩
      · go_wp2_with fail
        go_meet
        exact ⟨rfl, H1⟩
    · go_wp2_with fail
      go_meet
      exact ⟨by first | rfl | (simp [hz]), H0⟩
  case rest =>
  obtain ⟨rfl, H1⟩ := hcut
  clear H0 c0 c1
  go_upto_if 19 with fail
  have HT := Lib.hid (H1.out.st.2.alloc (.cells #[.int .i64 0, .int .i64 1, .int .i64 2, .int .i64 7, .int .i64 77, .int .i64 (-1)] 3))
  have HA := Lib.hid (among_list (fun x => -1 ≤ x ∧ x ≤ 77) wc a [0, 1, 2, 7, 77, -1] #[.int .i64 0, .int .i64 1, .int .i64 2, .int .i64 7, .int .i64 77, .int .i64 (-1)] 3 H1.out.st.2.lt rfl (by intro x hx; simp at hx; omega))
  go_wp2_with fail
  refine (pick_any _ a _ 0 6 6 (by omega) (by omega) _ HT.out HA.out).mono ?_
  rintro e w2 ⟨x, rfl, hxp, hs⟩
  have HS := Lib.hid (H1.out.st.trans (St.alloc_left hs))
  clear hs HT HA H1
  have HXP := Lib.hid hxp
  clear hxp
  go_wp2_with fail
  go_ret
  exact ⟨x, Or.inr ⟨Or.inr H00.out, HXP.out⟩, rfl, HS.out⟩
set_option maxRecDepth 100000 in
theorem srtr_any (a : Nat) (T : Tg) (n : Int) (hn : I64 n) (q : Nat → Prop) (w : World) (hT : TgOk w q T) (hq : ∀ b, q b → b ≠ a) (hp : Tp w a) :
    Calls Tryz.prog 30 #[.pointer (some ⟨a, 0, none⟩), .agg #[.slice T.pR T.R.length T.cR, .slice T.pL T.L.length T.cL], .int .i64 n] w fun e w' => ∃ x : Int, RtP T n x ∧ e = .returned (.int .i64 x) ∧ St a w w' := by
  by_cases h : 0 < T.R.length
  · exact srouter_any a T n hn h q w hT hq hp
  · exact srouter0_any a T n hn (by omega) q w hT hq hp
end Go.Proofs.YtahafijpcmphaaaGreat

/- empty -/
namespace Go.Proofs.YtahafijpcmphaaaGreat
end Go.Proofs.YtahafijpcmphaaaGreat

/- As until: what is not late keeps what holds. -/
namespace Go.Proofs.YtahafijpcmphaaaGreat
open Go
section
variable {P : Program} {ops : Array Oper} {Q : Exit → Act → World → Prop} {md : Region.Mode} {S : World → Prop} {late : Nat → Bool}
/-- Any order from here on; S holds behind whatever is not late. -/
def anyV (P : Program) (md : Region.Mode) (ops : Array Oper) (Q : Exit → Act → World → Prop) (S : World → Prop) (late : Nat → Bool) : Nat → Array Bool → Act → World → Prop
  | 0, seen, a, w => Region.ready md ops seen = [] ∧ Q .normal a w
  | n + 1, seen, a, w => (Region.ready md ops seen = [] → Q .normal a w) ∧
      ∀ k, k ∈ Region.ready md ops seen → wpOp P ops Q k (fun b v => (late k = false → S w → S v) ∧ anyV P md ops Q S late n (seen.setIfInBounds k true) b v) a w
set_option maxRecDepth 100000 in
theorem anyV_any (n : Nat) : ∀ (seen : Array Bool) (a : Act) (w : World), anyV P md ops Q S late n seen a w → wpAny P md ops Q n seen a w := by
  induction n with
  | zero => intro seen a w h; exact h
  | succ n ih => intro seen a w h; exact ⟨h.1, fun k hk => wpOp_mono (fun b v hb => ih _ b v hb.2) (h.2 k hk)⟩
set_option maxRecDepth 100000 in
theorem anyV_first {i : Nat} {oi : Oper} {v : Value} (hi : ops[i]? = some oi) (hsel : ∀ (j : Nat) (o : Oper) cs b, ops[j]? = some o → o.op ≠ .select cs b)
    (hQ : ∀ c a w, Q (.panic c) (a.put oi.dst v) w → Q (.panic c) a w) (hw : waits md ops late i = true) (n : Nat) :
    ∀ (seen : Array Bool) (a : Act) (w : World),
      (∀ j oj, ops[j]? = some oj → j ≠ i → seen.getD j true = false → (∀ e ∈ oj.after, Region.binds md e = true → e.on ≠ i) → oi.apart ops oj = true) →
      Shut1 md ops seen → i ∈ Region.ready md ops seen → YieldsIf P ops S oi v a → S w → anyV P md ops Q S late n (seen.setIfInBounds i true) (a.put oi.dst v) w → anyV P md ops Q S late (n + 1) seen a w := by
  have now : ∀ (m : Nat) (seen : Array Bool) (a : Act) (w : World), YieldsIf P ops S oi v a → S w → anyV P md ops Q S late m (seen.setIfInBounds i true) (a.put oi.dst v) w →
      wpOp P ops Q i (fun b u => (late i = false → S w → S u) ∧ anyV P md ops Q S late m (seen.setIfInBounds i true) b u) a w := fun m seen a w hy hS h => hy.wpOp hi hS ⟨fun _ _ => hS, h⟩
  induction n with
  | zero =>
    intro seen a w _ _ hr hy hS h
    refine ⟨fun e => (by rw [e] at hr; cases hr), fun j hj => ?_⟩
    by_cases e : j = i
    · exact e ▸ now 0 seen a w hy hS h
    · have := ready_mono hj e
      rw [h.1] at this
      cases this
  | succ n ih =>
    intro seen a w hf hc hr hy hS h
    refine ⟨fun e => (by rw [e] at hr; cases hr), fun j hj => ?_⟩
    by_cases e : j = i
    · exact e ▸ now (n + 1) seen a w hy hS h
    obtain ⟨hun, oj, hoj, hall⟩ := mem_ready.1 hj
    have hno : ∀ e ∈ oj.after, Region.binds md e = true → e.on ≠ i := fun e he hb hei => by
      have h1 := hall e he hb
      have h0 := (mem_ready.1 hr).1
      rw [hei] at h1
      by_cases hlt : i < seen.size
      · simp [hlt] at h0 h1
        rw [h0] at h1
        cases h1
      · simp [Array.getElem?_eq_none (Nat.le_of_not_lt hlt)] at h1
    have hl : late j = false := by
      cases hl : late j with
      | false => rfl
      | true =>
        have h1 := waits_seen hw hc hj hl
        have h0 := (mem_ready.1 hr).1
        by_cases hlt : i < seen.size
        · simp [hlt] at h0 h1
          rw [h0] at h1
          cases h1
        · simp [Array.getElem?_eq_none (Nat.le_of_not_lt hlt)] at h1
    refine wpOp_mono (fun b u hb => ⟨hb.2.1, ih _ b u (fun k ok hk hki hsk hnk => hf k ok hk hki ?_ hnk) (hc.step hj) (ready_mono hr (Ne.symm e)) hb.1 (hb.2.1 hl hS) (by rw [Array.setIfInBounds_comm _ _ e]; exact hb.2.2)⟩)
      (wpOp_putIf hoj (hf j oj hoj e hun hno) (fun cs b => hsel i oi cs b hi) (fun cs b => hsel j oj cs b hoj) hQ hy (h.2 j (ready_mono hj e)))
    by_cases hjk : j = k
    · exact hjk ▸ hun
    · rwa [getD_set_ne true hjk] at hsk
set_option maxRecDepth 100000 in
theorem anyV_take {i : Nat} {oi : Oper} {v : Value} {n : Nat} {seen : Array Bool} {a : Act} {w : World} (hi : ops[i]? = some oi) (hw : waits md ops late i = true)
    (hc : shut1 md ops seen = true) (hs : Region.noSelect ops = true) (hf : Region.free md ops seen i = true) (hr : (Region.ready md ops seen).contains i = true)
    (hQ : ∀ c a w, Q (.panic c) (a.put oi.dst v) w → Q (.panic c) a w) (hy : YieldsIf P ops S oi v a) (hS : S w)
    (h : anyV P md ops Q S late n (seen.setIfInBounds i true) (a.put oi.dst v) w) : anyV P md ops Q S late (n + 1) seen a w :=
  anyV_first hi (Region.noSelect_spec hs) hQ hw n seen a w (Region.free_spec hi hf) (shut1_spec hc) (by simpa using hr) hy hS h
/-- Each of some operations comes up next. -/
def EachV (P : Program) (md : Region.Mode) (ops : Array Oper) (Q : Exit → Act → World → Prop) (S : World → Prop) (late : Nat → Bool) (n : Nat) (seen : Array Bool) (a : Act) (w : World) (rs : List Nat) : Prop :=
  ∀ k ∈ rs, wpOp P ops Q k (fun b v => (late k = false → S w → S v) ∧ anyV P md ops Q S late n (seen.setIfInBounds k true) b v) a w
set_option maxRecDepth 100000 in
theorem EachV.nil {n : Nat} {seen : Array Bool} {a : Act} {w : World} : EachV P md ops Q S late n seen a w [] := fun _ h => by cases h
set_option maxRecDepth 100000 in
theorem EachV.cons {n : Nat} {seen : Array Bool} {a : Act} {w : World} {i : Nat} {o : Oper} {rs : List Nat} (ho : ops[i]? = some o)
    (h : ∀ K : Act → World → Prop, Shut (∀ b v, (late i = false → S w → S v) → ((late i = false → S w → S v) → anyV P md ops Q S late n (seen.setIfInBounds i true) b v) → K b v) → if Region.wanted o (yielded ops a.tmps) = true then Oper.wp P o a w K Q else K (a.put o.dst undef) w)
    (hs : EachV P md ops Q S late n seen a w rs) : EachV P md ops Q S late n seen a w (i :: rs) := fun j hj => by
  rcases List.mem_cons.1 hj with rfl | hj
  · exact wpOp_step ho (fun K hK => h K (fun b v hS hW => hK b v ⟨hS, hW hS⟩))
  · exact hs j hj
set_option maxRecDepth 100000 in
theorem anyV_ready {rs : List Nat} {n : Nat} {seen : Array Bool} {a : Act} {w : World} (hr : Region.ready md ops seen = rs) (hne : rs ≠ []) (h : EachV P md ops Q S late n seen a w rs) : anyV P md ops Q S late (n + 1) seen a w :=
  ⟨fun e => absurd (hr ▸ e) hne, hr ▸ h⟩
set_option maxRecDepth 100000 in
theorem anyV_done {seen : Array Bool} {a : Act} {w : World} (hr : Region.ready md ops seen = []) (h : Q .normal a w) (n : Nat) : anyV P md ops Q S late n seen a w := by
  cases n with
  | zero => exact ⟨hr, h⟩
  | succ n => exact ⟨fun _ => h, by rw [hr]; intro k hk; cases hk⟩
set_option maxRecDepth 100000 in
theorem region_until2 {id : Nat} {a : Act} {w : World} (late : Nat → Bool) (hm : P.follows .mixedOrders = true) (hS : S w.drew) (h : S w.drew → anyV P .any ops Q S late ops.size (Array.replicate ops.size false) a w.drew) :
    (Code.region id ops true).wp P Q a w := wp_region_any hm (anyV_any _ _ _ _ (h hS))
end
end Go.Proofs.YtahafijpcmphaaaGreat

/- The laws of shortest: what they begin with. -/
namespace Go.Proofs.YtahafijpcmphaaaGreat
open Go.RowKit Go.Maps Bs
set_option maxRecDepth 100000 in
theorem own_formS {α : Type} {f : α → List Value} {w : World} {base size : Nat} {e : TypeId} {v : Value} {l : List α} (h : w.ownsRow base e size v l.length (l.flatMap f)) : (v = .slice none 0 0) ∨ ∃ g cap, v = .slice (some ⟨g, 0, none⟩) l.length cap := by
  rcases h.2 with ⟨rfl, h0⟩ | ⟨g, cap, cur, rfl, _⟩
  · exact .inl rfl
  · exact .inr ⟨g, cap, rfl⟩
set_option maxRecDepth 100000 in
theorem stopo_any (a most : Nat) (n : Int) (hm1 : 1 ≤ most) (hm8 : most ≤ 8) (hn : I64 n) (w : World) (hT : Tp w a) :
    Calls Tryz.prog 29 #[.pointer (some ⟨a, 0, none⟩), .int .i64 (most : Int), .int .i64 n] w fun e w' => ∃ T : Tg, e = .returned (.agg #[.slice T.pR T.R.length T.cR, .slice T.pL T.L.length T.cL]) ∧ TgOk w' (fun b => w.heap.size ≤ b ∧ b < w'.heap.size) T ∧ TopOf most n T.R T.L ∧ (T.pL = none → T.cL = 0) ∧ St a w w' := by
  refine (topo_any a most n hm1 hm8 hn w hT).mono ?_
  rintro e w' ⟨R, L, vR, vL, rfl, hR, hL, _, hO, hs⟩
  have fL := own_formS hL
  obtain ⟨pR, cR, pL, cL, rfl, rfl, hT⟩ := tg_of_own hR hL
  refine ⟨⟨R, L, pR, cR, pL, cL⟩, rfl, hT, hO, fun h => ?_, hs⟩
  rcases fL with e1 | ⟨g, cap, e1⟩
  · injection e1
  · injection e1 with e2
    rw [show pL = none from h] at e2
    cases e2
end Go.Proofs.YtahafijpcmphaaaGreat

/- Counting without the limit: at most eight routers. -/
namespace Go.Proofs.YtahafijpcmphaaaGreat
open Go.RowKit Go.Maps Bs
set_option maxRecDepth 100000 in
theorem ids_pair {R : List Rt} {L : List Lk} (h : okT R L = true) : (ids R).Pairwise (· < ·) := by
  have hr := pair_of_asc ltR ltR_trans R (okT_all h).rs
  unfold ids
  rw [List.pairwise_map]
  exact hr.imp (fun {a b} h => of_decide_eq_true h)
set_option maxRecDepth 100000 in
theorem nodup_of_lt {l : List Int} (h : l.Pairwise (· < ·)) : l.Nodup := h.imp (fun {a b} h e => by omega)
/-- v is nearer to z than r. -/
noncomputable def nearB (R : List Rt) (L : List Lk) (z r v : Int) : Bool := match dst R L v z, dst R L r z with
  | some x, some d => decide (x < d)
  | _, _ => false
set_option maxRecDepth 100000 in
theorem nearB_iff {R : List Rt} {L : List Lk} {z r v : Int} : nearB R L z r v = true ↔ ∃ x d, dst R L v z = some x ∧ dst R L r z = some d ∧ x < d := by
  unfold nearB
  cases h1 : dst R L v z with
  | none => simp
  | some x =>
    cases h2 : dst R L r z with
    | none => simp
    | some d => simp
set_option maxRecDepth 100000 in
theorem nxt_near {R : List Rt} {L : List Lk} {z r u : Int} (hu : u ∈ nxt R L r z) : u ∈ ids R ∧ nearB R L z r u = true := by
  obtain ⟨d, x, c, h1, h2, h3, h4, -⟩ := nxt_step hu
  exact ⟨(dst_both h2).2.1, nearB_iff.2 ⟨x, d, h2, h1, by omega⟩⟩
end Go.Proofs.YtahafijpcmphaaaGreat

/- The law ShortestNexts: its mathematics. -/
namespace Go.Proofs.YtahafijpcmphaaaGreat
open Go.RowKit Go.Maps Bs
set_option maxRecDepth 100000 in
theorem priceB_edg {u v c : Int} {l : Lk} (h : priceB u v l = some c) : (l.a = u ∧ l.b = v ∧ l.ca = c) ∨ (l.b = u ∧ l.a = v ∧ l.cb = c) := by
  unfold priceB at h
  split at h
  · rename_i h1
    exact .inl ⟨h1.1, h1.2, Option.some.inj h⟩
  · split at h
    · rename_i h1
      first
        | exact .inr ⟨h1.2, h1.1, Option.some.inj h⟩
        | exact .inr ⟨h1.1, h1.2, Option.some.inj h⟩
    · cases h
set_option maxRecDepth 100000 in
theorem edg_uniq {R : List Rt} {L : List Lk} (h : okT R L = true) {u v c d : Int} (h1 : edg L u v c) (h2 : edg L u v d) : c = d := by
  have ho := okT_all h
  have he := ends_lt ho
  obtain ⟨l, hl, k1⟩ := h1
  obtain ⟨m, hm, k2⟩ := h2
  have e1 := he l hl
  have e2 := he m hm
  obtain ⟨i, hi⟩ := List.mem_iff_getElem?.1 hl
  obtain ⟨j, hj⟩ := List.mem_iff_getElem?.1 hm
  have key : l.a = m.a → l.b = m.b → l = m := fun ea eb => by
    have := ends_inj ho hi hj ea eb
    rw [this, hj] at hi
    exact (Option.some.inj hi).symm
  rcases k1 with ⟨p1, p2, p3⟩ | ⟨p1, p2, p3⟩ <;> rcases k2 with ⟨q1, q2, q3⟩ | ⟨q1, q2, q3⟩
  · rw [← p3, ← q3, key (p1.trans q1.symm) (p2.trans q2.symm)]
  · omega
  · omega
  · rw [← p3, ← q3, key (p2.trans q2.symm) (p1.trans q1.symm)]
set_option maxRecDepth 100000 in
theorem price_edg {R : List Rt} {L : List Lk} (h : okT R L = true) {u v c : Int} (he : edg L u v c) : priceV L u v = (c, true) := by
  have h2 : (priceV L u v).2 = true := by
    rw [price_ok]
    obtain ⟨l, hl, ⟨rfl, rfl, -⟩ | ⟨rfl, rfl, -⟩⟩ := he
    · exact ⟨l, hl, .inr ⟨rfl, rfl⟩⟩
    · exact ⟨l, hl, .inl ⟨rfl, rfl⟩⟩
  unfold priceV at h2 ⊢
  cases hf : L.findSome? (priceB u v) with
  | none => rw [hf] at h2; cases h2
  | some d =>
    obtain ⟨l, hl, hp⟩ := List.exists_of_findSome?_eq_some hf
    have : edg L u v d := ⟨l, hl, priceB_edg hp⟩
    rw [edg_uniq h he this]
set_option maxRecDepth 100000 in
theorem price_ed2 {R : List Rt} {L : List Lk} (_ : okT R L = true) {u v c : Int} (hp : priceV L u v = (c, true)) : edg L u v c := by
  unfold priceV at hp
  cases hf : L.findSome? (priceB u v) with
  | none => rw [hf] at hp; cases hp
  | some d =>
    rw [hf] at hp
    obtain ⟨l, hl, h1⟩ := List.exists_of_findSome?_eq_some hf
    have : d = c := congrArg Prod.fst hp
    exact ⟨l, hl, priceB_edg (this ▸ h1)⟩
end Go.Proofs.YtahafijpcmphaaaGreat

/- empty -/
namespace Go.Proofs.YtahafijpcmphaaaGreat
end Go.Proofs.YtahafijpcmphaaaGreat

/- append at a step of a region that draws its order, whatever the source; failures while they grow. -/
namespace Go.Proofs.YtahafijpcmphaaaGreat
open Go.RowKit Bs
def tvC (z : Int) : List Value := [tv z]
set_option maxRecDepth 100000 in
theorem flat_tv : ∀ X : List Int, X.flatMap tvC = X.map tv
  | [] => rfl
  | a :: t => by rw [List.flatMap_cons, flat_tv t]; rfl
set_option maxRecDepth 100000 in
theorem tv_one (x : Int) : ∀ u ∈ tvC x, u.oneCell' = true := by
  intro u hu
  simp [tvC, tv] at hu
  subst hu
  rfl
section
variable {a Bf : Nat} {w wr w1 : World} {T : Tg} {q : Nat → Prop} {uH uX vH vX v' : Value} {H H' : List Hp} {X X' : List Int}
end
end Go.Proofs.YtahafijpcmphaaaGreat

/- A topology that comes in as an argument. -/
namespace Go.Proofs.YtahafijpcmphaaaGreat
open Go.ChangeShapes Go.WideShapes Go.ChangeAt Go.RowKit Go.Joins Bs
section
variable {H : Type} {enc : TypeId × Value → H} {W : World} {base : Nat} {v : Value} {d : DataW H} {ps : List MemPlace}
end
end Go.Proofs.YtahafijpcmphaaaGreat

/- A failure that comes in as an argument; failures out of rows. -/
namespace Go.Proofs.YtahafijpcmphaaaGreat
open Go.ChangeShapes Go.WideShapes Go.ChangeAt Go.RowKit Go.Joins Bs
section
variable {H : Type} {enc : TypeId × Value → H} {W : World} {base : Nat} {v : Value} {d : DataW H} {ps : List MemPlace}
set_option maxRecDepth 100000 in
theorem rd_of_rdf {w : World} {q : Nat → Prop} {p : Option Addr} {n c : Nat} {xs : List Value} (h : RdF w q (.slice p n c) n xs) (hl : xs.length = n) : Rd w q (.slice p n c) xs := by
  obtain ⟨p1, c1, e, hx⟩ := h
  refine ⟨p1, c1, by rw [hl]; exact e, hx⟩
end
end Go.Proofs.YtahafijpcmphaaaGreat

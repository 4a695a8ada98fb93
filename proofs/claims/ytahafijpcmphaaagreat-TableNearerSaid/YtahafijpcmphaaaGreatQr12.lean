/- Parts of the proof, packed: ToFlr, ToMix, ToRtr, ShRtr, ToChkLaw, ToUnt2, ShPre, ShCtM, ShNxM, ToReach, ToStep, ToOpn, ToOpnF, ToIns, ToArnM, ToLookR, ToArnd, ToRcp, ShTrM, ShReM, ShRAt, ShRSt. -/
import Derived.Test.YtahafijpcmphaaaGreatQr9
import Derived.Test.YtahafijpcmphaaaGreatQr10
import Derived.Test.YtahafijpcmphaaaGreatQr2
import Derived.Deep.CutBlock
import Derived.Test.YtahafijpcmphaaaGreatQr11
import Derived.Test.YtahafijpcmphaaaGreatQr3
import Derived.Test.YtahafijpcmphaaaGreatQr1
import Derived.Test.YtahafijpcmphaaaGreatQr5
import Derived.Maps.AppendAt
import Derived.Test.YtahafijpcmphaaaGreatQr4
import Derived.Deep.Onto
import Derived.Test.YtahafijpcmphaaaGreatQr6
import Derived.Deep.AppendLies
import Derived.BigQuiet
import Derived.Deep.OwnRows
/- empty -/
namespace Go.Proofs.YtahafijpcmphaaaGreat
end Go.Proofs.YtahafijpcmphaaaGreat

/- The tape's Router and Mixed. -/
namespace Go.Proofs.YtahafijpcmphaaaGreat
open Go.RowKit Bs
/-- While routers turn capable or not: the topology's block B. -/
structure MK (a : Nat) (w : World) (B : Nat) (vR vL : Value) (R : List Rt) (L : List Lk) (wr : World) : Prop where
  gb : wr.heap[B]? = some (.cells #[vR, vL] 45 (0, 0))
  rb : wr.heap[w.heap.size]? = some (.cells #[.slice none 0 0, .slice none 0 0] 45 (0, 0))
  oR : wr.ownsRow (w.heap.size + 1) 92 2 vR R.length (R.flatMap rtC)
  oL : wr.ownsRow (w.heap.size + 1) 94 5 vL L.length (L.flatMap lkC)
  ap : ∀ g, vR.ownBlock = some g → vL.ownBlock ≠ some g
  nR : vR.ownBlock ≠ some B
  st : St a w wr
  bb : w.heap.size + 1 ≤ B
set_option maxRecDepth 100000 in
theorem MK.keep {a B : Nat} {w wr w1 : World} {vR vL : Value} {R : List Rt} {L : List Lk} (h : MK a w B vR vL R L wr) (g : wr.grownBy w1 none) : MK a w B vR vL R L w1 :=
  ⟨kept_row h.gb g (by simp), kept_row h.rb g (by simp), h.oR.kept g (by cases hv : vR.ownBlock <;> simp), h.oL.kept g (by cases hv : vL.ownBlock <;> simp), h.ap, h.nR, h.st.trans ⟨grown_none g _, h.st.2.keep g⟩, h.bb⟩
set_option maxRecDepth 100000 in
theorem MK.tape {a B : Nat} {w wr w1 : World} {vR vL : Value} {R : List Rt} {L : List Lk} (h : MK a w B vR vL R L wr) (ha : a < w.heap.size) (k : St a wr w1) : MK a w B vR vL R L w1 :=
  ⟨kept_row h.gb k.1 (fun e => by have := Option.some.inj e; have := h.bb; omega), kept_row h.rb k.1 (fun e => by have := Option.some.inj e; omega), own_other h.oR k.1 (by omega), own_other h.oL k.1 (by omega), h.ap, h.nR, h.st.trans k, h.bb⟩
set_option maxRecDepth 100000 in
theorem flat_setR : ∀ (R : List Rt) (k : Nat) (z : Bool), k < R.length → ∃ R' : List Rt, R'.length = R.length ∧ R'.map (·.id) = R.map (·.id) ∧ R'.flatMap rtC = (R.flatMap rtC).set (k * 2 + 1) (.bool z)
  | [], k, _, hk => absurd hk (Nat.not_lt_zero k)
  | m :: t, 0, z, _ => ⟨⟨m.id, z⟩ :: t, rfl, rfl, rfl⟩
  | m :: t, k + 1, z, hk => by
    obtain ⟨R', h1, h2, h3⟩ := flat_setR t k z (by simpa using hk)
    refine ⟨m :: R', by simp [h1], by rw [List.map_cons, h2, List.map_cons], ?_⟩
    rw [List.flatMap_cons, h3, List.flatMap_cons]
    have e : (k + 1) * 2 + 1 = (rtC m).length + (k * 2 + 1) := by
      show (k + 1) * 2 + 1 = 2 + (k * 2 + 1)
      omega
    rw [e, List.set_append_right _ _ (Nat.le_add_right _ _), Nat.add_sub_cancel_left]
set_option maxRecDepth 100000 in
theorem MK.setR {a B g n cap k : Nat} {w wr : World} {vL : Value} {R : List Rt} {L : List Lk} {z : Bool} (h : MK a w B (.slice (some ⟨g, 0, none⟩) n cap) vL R L wr) (ha : a < w.heap.size) (hk : k < R.length) :
    ∃ R' : List Rt, R'.length = R.length ∧ R'.map (·.id) = R.map (·.id) ∧ MK a w B (.slice (some ⟨g, 0, none⟩) n cap) vL R' L (wr.setCell ⟨g, k * 2 + 1, none⟩ (.bool z)) := by
  obtain ⟨R', hl, hm, hf⟩ := flat_setR R k z hk
  have hg0 := (h.oR.lt g rfl).1
  have hn : n = R.length := by
    obtain ⟨p, c, e, _⟩ := own_shape h.oR
    injection e
  subst hn
  obtain ⟨s1, s2⟩ := h.oR.stored (k * 2 + 1) (.bool z)
  refine ⟨R', hl, hm, kept_row h.gb s2 (fun e => h.nR (by rw [e]; rfl)), kept_row h.rb s2 (fun e => by have : w.heap.size = g := Option.some.inj e; omega), ?_, h.oL.kept s2 ?_, h.ap, h.nR, h.st.storeT s2 (by omega) ha, h.bb⟩
  · rw [hl, hf]; exact s1
  · cases hv : vL.ownBlock with
    | none => exact .inl rfl
    | some k => exact .inr (fun e => h.ap g rfl (by rw [hv, e]))
set_option maxRecDepth 100000 in
theorem MK.rtAt {a B g n cap k : Nat} {w wr : World} {vL : Value} {R : List Rt} {L : List Lk} {m : Rt} (h : MK a w B (.slice (some ⟨g, 0, none⟩) n cap) vL R L wr) (hm : R[k]? = some m) : wr.cell? ⟨g, k * 2 + 1, none⟩ = some (.bool m.cap) := by
  have h1 := (List.getElem?_eq_some_iff.1 hm).1
  have hn : n = R.length := by
    obtain ⟨p, c, e, _⟩ := own_shape h.oR
    injection e
  subst hn
  rw [h.oR.cellAt (k * 2 + 1) (by omega)]
  exact (flat_at rtC 2 (fun _ => rfl) R k 1 m hm (by decide)).trans rfl
set_option maxRecDepth 100000 in
theorem MK.frz {a B g n cap : Nat} {w wr : World} {vL : Value} {R : List Rt} {L : List Lk} (h : MK a w B (.slice (some ⟨g, 0, none⟩) n cap) vL R L wr) (j : Nat) : wr.frozen? ⟨g, j, none⟩ = false := by
  have hn : n = R.length := by
    obtain ⟨p, c, e, _⟩ := own_shape h.oR
    injection e
  subst hn
  exact h.oR.frozenAt j
set_option maxRecDepth 100000 in
set_option maxHeartbeats 3200000 in
theorem mixed_any (a most : Nat) (hm1 : 1 ≤ most) (hm8 : most ≤ 8) (w : World) (hT : Tp w a) :
    Calls Tryz.prog 28 #[.pointer (some ⟨a, 0, none⟩), .int .i64 (most : Int)] w fun e w' =>
      ∃ (R0 R : List Rt) (L : List Lk) (vR vL : Value), e = .returned (.agg #[vR, vL]) ∧ w'.ownsRow w.heap.size 92 2 vR R.length (R.flatMap rtC) ∧ w'.ownsRow w.heap.size 94 5 vL L.length (L.flatMap lkC) ∧ TopOf most 0 R0 L ∧ R.map (·.id) = R0.map (·.id) ∧ St a w w' := by
  have ha := hT.lt
  obtain ⟨k1, k2⟩ := tone_box w #[.slice none 0 0, .slice none 0 0] 45
  have HB := Lib.hid (And.intro k1 (And.intro k2 (hT.keep k2)))
  have hsz : w.heap.size + 1 = (w.alloc (.cells #[.slice none 0 0, .slice none 0 0] 45)).heap.size := by simp
  clear k1 k2 hT
  go_enter Tryz.func28, Tryz.ntmps28
  go_upto_region 1 with fail
  generalize w.alloc _ = wa at *
  go_wp2_with fail
  refine (topo_any a most 0 hm1 hm8 (by unfold I64; omega) wa HB.out.2.2).mono ?_
  rintro e w1 ⟨R0, L, vR, vL, rfl, hR, hL, hap, hO, hs⟩
  have gal := World.grownBy_alloc w1 (.cells #[vR, vL] 45) none
  have hw1 : wa.heap.size ≤ w1.heap.size := hs.1.size
  have HK0 : Hid (MK a w w1.heap.size vR vL R0 L (w1.alloc (.cells #[vR, vL] 45))) := Lib.hid ⟨heap_alloc_new w1 _, kept_row (kept_row HB.out.1 hs.1 (fun e => by have := Option.some.inj e; omega)) gal (by simp), (hR.mono (by omega)).alloc _, (hL.mono (by omega)).alloc _, hap, fun e => by have := (hR.lt _ e).2; omega, (show St a w w1 from ⟨grown_trans (grown_none HB.out.2.1 _) hs.1, hs.2⟩).trans ⟨grown_none gal _, hs.2.keep gal⟩, by omega⟩
  have HO := Lib.hid hO
  have hRl : R0.length ≤ 100 := by have := hO.2.2.1; omega
  obtain ⟨pR, cR, rfl, -, -⟩ := own_shape hR
  obtain ⟨pL, cL, rfl, -, -⟩ := own_shape hL
  clear hR hL hap hs gal hO HB
  obtain ⟨NR, hNR⟩ : ∃ NR, R0.length = NR := ⟨_, rfl⟩
  have HNR := Lib.hid hNR
  rw [hNR] at HK0 hRl
  rw [hNR]
  clear hNR
  go_upto_region 2 with fail
  generalize w1.alloc _ = w2 at *
  generalize w1.heap.size = B at *
  go_wp2_with fail
  go_loopw [6] (fun i wr => ∃ k : Nat, k ≤ NR ∧ i = .int .i64 (k : Int) ∧ ∃ R : List Rt, R.map (·.id) = R0.map (·.id) ∧ Hid (MK a w B (.slice pR NR cR) (.slice pL L.length cL) R L wr)) (fun i _ => NR - (RowKit.intOf i).toNat)
  case atStart => exact ⟨0, Nat.zero_le _, rfl, R0, rfl, HK0⟩
  case round =>
  obtain ⟨k, hk, rfl, R, hids, HK⟩ := hrel
  clear HK0
  have hRN : Hid (R.length = NR) := Lib.hid (by have := congrArg List.length hids; rw [List.length_map, List.length_map] at this; rw [this]; exact HNR.out)
  have HI := Lib.hid hids
  clear hids
  obtain ⟨c0, c1⟩ := row_cells HK.out.gb
  by_cases hlt : k < NR
  · have hkR : k < R.length := by rw [hRN.out]; exact hlt
    obtain ⟨g, rfl⟩ : ∃ g, pR = some ⟨g, 0, none⟩ := by
      rcases own_formF HK.out.oR with ⟨-, e0⟩ | ⟨g, cap, e, -⟩
      · omega
      · injection e with e1; exact ⟨g, e1⟩
    obtain ⟨m, hm⟩ : ∃ m, R[k]? = some m := ⟨_, List.getElem?_eq_getElem hkR⟩
    have HM := Lib.hid hm
    have i0 : (0 : Int) ≤ (k : Int) := by omega
    have i1 : (k : Int) < (NR : Int) := by omega
    clear hm
    go_upto_region 5 with fail
    clear c0 c1
    refine region_until (S := fun w' => Hid (MK a w B (.slice (some ⟨g, 0, none⟩) NR cR) (.slice pL L.length cL) R L w')) (fun j => j == 8) (by kernel_rfl) (Lib.hid (HK.out.keep (grown_drew (grown_refl _ _)))) (fun hHeld => ?_)
    refine anyU_take (i := 0) (oi := { dst := some 17, op := Op.fieldAddr 45 (Operand.tmp 5) 0, type := 0, pos := "make.go:285", after := #[], guard := none }) (v := ?_) rfl (by kernel_rfl) (by kernel_rfl) (by kernel_rfl) (by kernel_rfl) (by kernel_rfl) (fun _ _ _ h => h) (Or.inl ⟨by rfl, ?_⟩) hHeld ?_
    rotate_left 1
    · intro u hSu
      obtain ⟨q0, q1⟩ := row_cells hSu.out.gb
      go_simp
      first | done | with_reducible rfl
    (try simp only [Act.put, List.setIfInBounds_toArray, List.set_cons_zero, List.set_cons_succ])
    refine anyU_take (i := 1) (oi := { dst := some 18, op := Op.load 42 (Operand.tmp 17), type := 42, pos := "make.go:285", after := #[{ on := 0, ground := Ground.data }], guard := none }) (v := ?_) rfl (by kernel_rfl) (by kernel_rfl) (by kernel_rfl) (by kernel_rfl) (by kernel_rfl) (fun _ _ _ h => h) (Or.inl ⟨by rfl, ?_⟩) hHeld ?_
    rotate_left 1
    · intro u hSu
      obtain ⟨q0, q1⟩ := row_cells hSu.out.gb
      go_simp
      first | done | with_reducible rfl
    (try simp only [Act.put, List.setIfInBounds_toArray, List.set_cons_zero, List.set_cons_succ])
    refine anyU_take (i := 2) (oi := { dst := some 19, op := Op.move (Operand.tmp 6), type := 3, pos := "make.go:285", after := #[], guard := none }) (v := ?_) rfl (by kernel_rfl) (by kernel_rfl) (by kernel_rfl) (by kernel_rfl) (by kernel_rfl) (fun _ _ _ h => h) (Or.inl ⟨by rfl, ?_⟩) hHeld ?_
    rotate_left 1
    · intro u hSu
      obtain ⟨q0, q1⟩ := row_cells hSu.out.gb
      go_simp
      first | done | with_reducible rfl
    (try simp only [Act.put, List.setIfInBounds_toArray, List.set_cons_zero, List.set_cons_succ])
    refine anyU_take (i := 3) (oi := { dst := some 20, op := Op.move (Operand.tmp 0), type := 26, pos := "make.go:285", after := #[], guard := none }) (v := ?_) rfl (by kernel_rfl) (by kernel_rfl) (by kernel_rfl) (by kernel_rfl) (by kernel_rfl) (fun _ _ _ h => h) (Or.inl ⟨by rfl, ?_⟩) hHeld ?_
    rotate_left 1
    · intro u hSu
      obtain ⟨q0, q1⟩ := row_cells hSu.out.gb
      go_simp
      first | done | with_reducible rfl
    (try simp only [Act.put, List.setIfInBounds_toArray, List.set_cons_zero, List.set_cons_succ])
    refine anyU_ready (rs := [4]) (by kernel_rfl) (by simp) ?_
    refine EachU.cons (o := { dst := some 21, op := Op.call { callee := Callee.value (Operand.func 23), args := #[Operand.tmp 20, Operand.const (Value.int IntKind.i64 3)], argTypes := #[26, 3] }, type := 4, pos := "make.go:285", after := #[{ on := 3, ground := Ground.data }], guard := none }) rfl (fun Kz hK => ?_) EachU.nil
    go_simp
    go_at_call 23
    refine (one_any a 3 (by unfold I64; omega) _ hHeld.out.st.2).mono ?_
    rintro e w5 ⟨z, rfl, hs⟩
    have H5n := Lib.hid (hHeld.out.tape ha hs)
    clear hs
    refine hK.out _ _ (fun _ => H5n) (fun hH2 => ?_)
    clear hK Kz hHeld
    have hHeld := hH2 rfl
    clear hH2
    (try simp only [Act.put, List.setIfInBounds_toArray, List.set_cons_zero, List.set_cons_succ])
    refine anyU_take (i := 5) (oi := { dst := some 22, op := Op.unOp UnOp.not 4 (Operand.tmp 21), type := 4, pos := "make.go:285", after := #[{ on := 4, ground := Ground.data }], guard := none }) (v := ?_) rfl (by kernel_rfl) (by kernel_rfl) (by kernel_rfl) (by kernel_rfl) (by kernel_rfl) (fun _ _ _ h => h) (Or.inl ⟨by rfl, ?_⟩) hHeld ?_
    rotate_left 1
    · intro u hSu
      obtain ⟨q0, q1⟩ := row_cells hSu.out.gb
      go_simp
      first | done | with_reducible rfl
    (try simp only [Act.put, List.setIfInBounds_toArray, List.set_cons_zero, List.set_cons_succ])
    refine anyU_take (i := 6) (oi := { dst := some 23, op := Op.indexAddr 42 (Operand.tmp 18) (Operand.tmp 19), type := 0, pos := "make.go:285", after := #[{ on := 1, ground := Ground.data }, { on := 2, ground := Ground.data }, { on := 0, ground := Ground.phase }, { on := 1, ground := Ground.phase }, { on := 2, ground := Ground.phase }, { on := 3, ground := Ground.phase }, { on := 4, ground := Ground.phase }, { on := 5, ground := Ground.phase }], guard := none }) (v := ?_) rfl (by kernel_rfl) (by kernel_rfl) (by kernel_rfl) (by kernel_rfl) (by kernel_rfl) (fun _ _ _ h => h) (Or.inl ⟨by rfl, ?_⟩) hHeld ?_
    rotate_left 1
    · intro u hSu
      obtain ⟨q0, q1⟩ := row_cells hSu.out.gb
      go_simp
      first | done | with_reducible rfl
    (try simp only [Act.put, List.setIfInBounds_toArray, List.set_cons_zero, List.set_cons_succ])
    refine anyU_take (i := 7) (oi := { dst := some 24, op := Op.fieldAddr 92 (Operand.tmp 23) 1, type := 0, pos := "make.go:285", after := #[{ on := 6, ground := Ground.data }, { on := 0, ground := Ground.phase }, { on := 1, ground := Ground.phase }, { on := 2, ground := Ground.phase }, { on := 3, ground := Ground.phase }, { on := 4, ground := Ground.phase }, { on := 5, ground := Ground.phase }], guard := none }) (v := ?_) rfl (by kernel_rfl) (by kernel_rfl) (by kernel_rfl) (by kernel_rfl) (by kernel_rfl) (fun _ _ _ h => h) (Or.inl ⟨by rfl, ?_⟩) hHeld ?_
    rotate_left 1
    · intro u hSu
      obtain ⟨q0, q1⟩ := row_cells hSu.out.gb
      go_simp
      first | done | with_reducible rfl
    (try simp only [Act.put, List.setIfInBounds_toArray, List.set_cons_zero, List.set_cons_succ])
    refine anyU_ready (rs := [8]) (by kernel_rfl) (by simp) ?_
    refine EachU.cons (o := { dst := none, op := Op.store 4 (Operand.tmp 24) (Operand.tmp 22), type := 0, pos := "make.go:285", after := #[{ on := 7, ground := Ground.data }, { on := 5, ground := Ground.data }, { on := 4, ground := Ground.chain }, { on := 0, ground := Ground.phase }, { on := 1, ground := Ground.phase }, { on := 2, ground := Ground.phase }, { on := 3, ground := Ground.phase }, { on := 4, ground := Ground.phase }, { on := 5, ground := Ground.phase }], guard := none }) rfl (fun Kz hK => ?_) EachU.nil
    have cS := hHeld.out.rtAt HM.out
    have fS := hHeld.out.frz (k * 2 + 1)
    go_simp
    refine hK.out _ _ (fun h => by cases h) (fun _ => ?_)
    clear hK Kz
    (try simp only [Act.put, List.setIfInBounds_toArray, List.set_cons_zero, List.set_cons_succ])
    refine anyU_done (by kernel_rfl) ?_ _
    obtain ⟨R', hl', hm', HS⟩ := hHeld.out.setR (z := !z) ha hkR
    have HS := Lib.hid HS
    have hid' : R'.map (·.id) = R0.map (·.id) := hm'.trans HI.out
    clear hHeld hl' hm' cS fS
    go_wp2_with fail
    exact ⟨⟨k + 1, by omega, congrArg _ (by omega), R', hid', HS⟩, by simp only [RowKit.intOf]; omega⟩
  · obtain rfl : k = NR := by omega
    obtain ⟨d0, d1⟩ := row_cells HK.out.rb
    have f0 := frozen_of_row _ _ 0 _ _ HK.out.rb
    have f1 := frozen_of_row _ _ 1 _ _ HK.out.rb
    have hrow := store2 (u := .slice pR k cR) (z := .slice pL L.length cL) HK.out.rb
    have hst := grown_store2 wr w.heap.size (.slice pR k cR) (.slice pL L.length cL)
    have HR := Lib.hid (And.intro hrow (And.intro (own_other HK.out.oR hst (by omega)) (And.intro (own_other HK.out.oL hst (by omega)) (HK.out.st.storeT hst (Nat.le_refl _) ha))))
    clear hrow hst HK
    go_wp2_with fail
    refine bodyPost_ret (res_topo rfl _ _ w.heap.size _ _ rfl HR.out.1) rfl ?_
    exact ⟨R0, R, L, _, _, rfl, HR.out.2.1.mono (by omega), HR.out.2.2.1.mono (by omega), HO.out, HI.out, HR.out.2.2.2⟩
end Go.Proofs.YtahafijpcmphaaaGreat

/- The tape's Router of any topology. -/
namespace Go.Proofs.YtahafijpcmphaaaGreat
open Go.RowKit Bs
end Go.Proofs.YtahafijpcmphaaaGreat

/- The tape's Router of any topology: what is known of its number. -/
namespace Go.Proofs.YtahafijpcmphaaaGreat
open Go.RowKit Bs
end Go.Proofs.YtahafijpcmphaaaGreat

/- empty -/
namespace Go.Proofs.YtahafijpcmphaaaGreat
end Go.Proofs.YtahafijpcmphaaaGreat

/- As until: what is not late keeps what holds. -/
namespace Go.Proofs.YtahafijpcmphaaaGreat
open Go
section
variable {P : Program} {ops : Array Oper} {Q : Exit → Act → World → Prop} {md : Region.Mode} {S : World → Prop} {late : Nat → Bool}
/-- Any order from here on; S holds behind whatever is not late. -/
def anyV (P : Program) (md : Region.Mode) (ops : Array Oper) (Q : Exit → Act → World → Prop) (S : World → Prop) (late : Nat → Bool) : Nat → Array Bool → Act → World → Prop
  | 0, seen, a, w => Region.ready md ops seen = [] ∧ Q .normal a w
  | n + 1, seen, a, w => (Region.ready md ops seen = [] → Q .normal a w) ∧
      ∀ k, k ∈ Region.ready md ops seen → wpOp P ops Q k (fun b v => (late k = false → S w → S v) ∧ anyV P md ops Q S late n (seen.setIfInBounds k true) b v) a w
set_option maxRecDepth 100000 in
theorem anyV_any (n : Nat) : ∀ (seen : Array Bool) (a : Act) (w : World), anyV P md ops Q S late n seen a w → wpAny P md ops Q n seen a w := by
  induction n with
  | zero => intro seen a w h; exact h
  | succ n ih => intro seen a w h; exact ⟨h.1, fun k hk => wpOp_mono (fun b v hb => ih _ b v hb.2) (h.2 k hk)⟩
set_option maxRecDepth 100000 in
theorem anyV_first {i : Nat} {oi : Oper} {v : Value} (hi : ops[i]? = some oi) (hsel : ∀ (j : Nat) (o : Oper) cs b, ops[j]? = some o → o.op ≠ .select cs b)
    (hQ : ∀ c a w, Q (.panic c) (a.put oi.dst v) w → Q (.panic c) a w) (hw : waits md ops late i = true) (n : Nat) :
    ∀ (seen : Array Bool) (a : Act) (w : World),
      (∀ j oj, ops[j]? = some oj → j ≠ i → seen.getD j true = false → (∀ e ∈ oj.after, Region.binds md e = true → e.on ≠ i) → oi.apart ops oj = true) →
      Shut1 md ops seen → i ∈ Region.ready md ops seen → YieldsIf P ops S oi v a → S w → anyV P md ops Q S late n (seen.setIfInBounds i true) (a.put oi.dst v) w → anyV P md ops Q S late (n + 1) seen a w := by
  have now : ∀ (m : Nat) (seen : Array Bool) (a : Act) (w : World), YieldsIf P ops S oi v a → S w → anyV P md ops Q S late m (seen.setIfInBounds i true) (a.put oi.dst v) w →
      wpOp P ops Q i (fun b u => (late i = false → S w → S u) ∧ anyV P md ops Q S late m (seen.setIfInBounds i true) b u) a w := fun m seen a w hy hS h => hy.wpOp hi hS ⟨fun _ _ => hS, h⟩
  induction n with
  | zero =>
    intro seen a w _ _ hr hy hS h
    refine ⟨fun e => (by rw [e] at hr; cases hr), fun j hj => ?_⟩
    by_cases e : j = i
    · exact e ▸ now 0 seen a w hy hS h
    · have := ready_mono hj e
      rw [h.1] at this
      cases this
  | succ n ih =>
    intro seen a w hf hc hr hy hS h
    refine ⟨fun e => (by rw [e] at hr; cases hr), fun j hj => ?_⟩
    by_cases e : j = i
    · exact e ▸ now (n + 1) seen a w hy hS h
    obtain ⟨hun, oj, hoj, hall⟩ := mem_ready.1 hj
    have hno : ∀ e ∈ oj.after, Region.binds md e = true → e.on ≠ i := fun e he hb hei => by
      have h1 := hall e he hb
      have h0 := (mem_ready.1 hr).1
      rw [hei] at h1
      by_cases hlt : i < seen.size
      · simp [hlt] at h0 h1
        rw [h0] at h1
        cases h1
      · simp [Array.getElem?_eq_none (Nat.le_of_not_lt hlt)] at h1
    have hl : late j = false := by
      cases hl : late j with
      | false => rfl
      | true =>
        have h1 := waits_seen hw hc hj hl
        have h0 := (mem_ready.1 hr).1
        by_cases hlt : i < seen.size
        · simp [hlt] at h0 h1
          rw [h0] at h1
          cases h1
        · simp [Array.getElem?_eq_none (Nat.le_of_not_lt hlt)] at h1
    refine wpOp_mono (fun b u hb => ⟨hb.2.1, ih _ b u (fun k ok hk hki hsk hnk => hf k ok hk hki ?_ hnk) (hc.step hj) (ready_mono hr (Ne.symm e)) hb.1 (hb.2.1 hl hS) (by rw [Array.setIfInBounds_comm _ _ e]; exact hb.2.2)⟩)
      (wpOp_putIf hoj (hf j oj hoj e hun hno) (fun cs b => hsel i oi cs b hi) (fun cs b => hsel j oj cs b hoj) hQ hy (h.2 j (ready_mono hj e)))
    by_cases hjk : j = k
    · exact hjk ▸ hun
    · rwa [getD_set_ne true hjk] at hsk
set_option maxRecDepth 100000 in
theorem anyV_take {i : Nat} {oi : Oper} {v : Value} {n : Nat} {seen : Array Bool} {a : Act} {w : World} (hi : ops[i]? = some oi) (hw : waits md ops late i = true)
    (hc : shut1 md ops seen = true) (hs : Region.noSelect ops = true) (hf : Region.free md ops seen i = true) (hr : (Region.ready md ops seen).contains i = true)
    (hQ : ∀ c a w, Q (.panic c) (a.put oi.dst v) w → Q (.panic c) a w) (hy : YieldsIf P ops S oi v a) (hS : S w)
    (h : anyV P md ops Q S late n (seen.setIfInBounds i true) (a.put oi.dst v) w) : anyV P md ops Q S late (n + 1) seen a w :=
  anyV_first hi (Region.noSelect_spec hs) hQ hw n seen a w (Region.free_spec hi hf) (shut1_spec hc) (by simpa using hr) hy hS h
/-- Each of some operations comes up next. -/
def EachV (P : Program) (md : Region.Mode) (ops : Array Oper) (Q : Exit → Act → World → Prop) (S : World → Prop) (late : Nat → Bool) (n : Nat) (seen : Array Bool) (a : Act) (w : World) (rs : List Nat) : Prop :=
  ∀ k ∈ rs, wpOp P ops Q k (fun b v => (late k = false → S w → S v) ∧ anyV P md ops Q S late n (seen.setIfInBounds k true) b v) a w
set_option maxRecDepth 100000 in
theorem EachV.nil {n : Nat} {seen : Array Bool} {a : Act} {w : World} : EachV P md ops Q S late n seen a w [] := fun _ h => by cases h
set_option maxRecDepth 100000 in
theorem EachV.cons {n : Nat} {seen : Array Bool} {a : Act} {w : World} {i : Nat} {o : Oper} {rs : List Nat} (ho : ops[i]? = some o)
    (h : ∀ K : Act → World → Prop, Shut (∀ b v, (late i = false → S w → S v) → ((late i = false → S w → S v) → anyV P md ops Q S late n (seen.setIfInBounds i true) b v) → K b v) → if Region.wanted o (yielded ops a.tmps) = true then Oper.wp P o a w K Q else K (a.put o.dst undef) w)
    (hs : EachV P md ops Q S late n seen a w rs) : EachV P md ops Q S late n seen a w (i :: rs) := fun j hj => by
  rcases List.mem_cons.1 hj with rfl | hj
  · exact wpOp_step ho (fun K hK => h K (fun b v hS hW => hK b v ⟨hS, hW hS⟩))
  · exact hs j hj
set_option maxRecDepth 100000 in
theorem anyV_ready {rs : List Nat} {n : Nat} {seen : Array Bool} {a : Act} {w : World} (hr : Region.ready md ops seen = rs) (hne : rs ≠ []) (h : EachV P md ops Q S late n seen a w rs) : anyV P md ops Q S late (n + 1) seen a w :=
  ⟨fun e => absurd (hr ▸ e) hne, hr ▸ h⟩
set_option maxRecDepth 100000 in
theorem anyV_done {seen : Array Bool} {a : Act} {w : World} (hr : Region.ready md ops seen = []) (h : Q .normal a w) (n : Nat) : anyV P md ops Q S late n seen a w := by
  cases n with
  | zero => exact ⟨hr, h⟩
  | succ n => exact ⟨fun _ => h, by rw [hr]; intro k hk; cases hk⟩
set_option maxRecDepth 100000 in
theorem region_until2 {id : Nat} {a : Act} {w : World} (late : Nat → Bool) (hm : P.follows .mixedOrders = true) (hS : S w.drew) (h : S w.drew → anyV P .any ops Q S late ops.size (Array.replicate ops.size false) a w.drew) :
    (Code.region id ops true).wp P Q a w := wp_region_any hm (anyV_any _ _ _ _ (h hS))
end
end Go.Proofs.YtahafijpcmphaaaGreat

/- The laws of shortest: what they begin with. -/
namespace Go.Proofs.YtahafijpcmphaaaGreat
open Go.RowKit Go.Maps Bs
end Go.Proofs.YtahafijpcmphaaaGreat

/- Counting without the limit: at most eight routers. -/
namespace Go.Proofs.YtahafijpcmphaaaGreat
open Go.RowKit Go.Maps Bs
set_option maxRecDepth 100000 in
theorem ids_pair {R : List Rt} {L : List Lk} (h : okT R L = true) : (ids R).Pairwise (· < ·) := by
  have hr := pair_of_asc ltR ltR_trans R (okT_all h).rs
  unfold ids
  rw [List.pairwise_map]
  exact hr.imp (fun {a b} h => of_decide_eq_true h)
set_option maxRecDepth 100000 in
theorem nodup_of_lt {l : List Int} (h : l.Pairwise (· < ·)) : l.Nodup := h.imp (fun {a b} h e => by omega)
/-- v is nearer to z than r. -/
noncomputable def nearB (R : List Rt) (L : List Lk) (z r v : Int) : Bool := match dst R L v z, dst R L r z with
  | some x, some d => decide (x < d)
  | _, _ => false
set_option maxRecDepth 100000 in
theorem nearB_iff {R : List Rt} {L : List Lk} {z r v : Int} : nearB R L z r v = true ↔ ∃ x d, dst R L v z = some x ∧ dst R L r z = some d ∧ x < d := by
  unfold nearB
  cases h1 : dst R L v z with
  | none => simp
  | some x =>
    cases h2 : dst R L r z with
    | none => simp
    | some d => simp
set_option maxRecDepth 100000 in
theorem nxt_near {R : List Rt} {L : List Lk} {z r u : Int} (hu : u ∈ nxt R L r z) : u ∈ ids R ∧ nearB R L z r u = true := by
  obtain ⟨d, x, c, h1, h2, h3, h4, -⟩ := nxt_step hu
  exact ⟨(dst_both h2).2.1, nearB_iff.2 ⟨x, d, h2, h1, by omega⟩⟩
end Go.Proofs.YtahafijpcmphaaaGreat

/- The law ShortestNexts: its mathematics. -/
namespace Go.Proofs.YtahafijpcmphaaaGreat
open Go.RowKit Go.Maps Bs
set_option maxRecDepth 100000 in
theorem priceB_edg {u v c : Int} {l : Lk} (h : priceB u v l = some c) : (l.a = u ∧ l.b = v ∧ l.ca = c) ∨ (l.b = u ∧ l.a = v ∧ l.cb = c) := by
  unfold priceB at h
  split at h
  · rename_i h1
    exact .inl ⟨h1.1, h1.2, Option.some.inj h⟩
  · split at h
    · rename_i h1
      first
        | exact .inr ⟨h1.2, h1.1, Option.some.inj h⟩
        | exact .inr ⟨h1.1, h1.2, Option.some.inj h⟩
    · cases h
set_option maxRecDepth 100000 in
theorem edg_uniq {R : List Rt} {L : List Lk} (h : okT R L = true) {u v c d : Int} (h1 : edg L u v c) (h2 : edg L u v d) : c = d := by
  have ho := okT_all h
  have he := ends_lt ho
  obtain ⟨l, hl, k1⟩ := h1
  obtain ⟨m, hm, k2⟩ := h2
  have e1 := he l hl
  have e2 := he m hm
  obtain ⟨i, hi⟩ := List.mem_iff_getElem?.1 hl
  obtain ⟨j, hj⟩ := List.mem_iff_getElem?.1 hm
  have key : l.a = m.a → l.b = m.b → l = m := fun ea eb => by
    have := ends_inj ho hi hj ea eb
    rw [this, hj] at hi
    exact (Option.some.inj hi).symm
  rcases k1 with ⟨p1, p2, p3⟩ | ⟨p1, p2, p3⟩ <;> rcases k2 with ⟨q1, q2, q3⟩ | ⟨q1, q2, q3⟩
  · rw [← p3, ← q3, key (p1.trans q1.symm) (p2.trans q2.symm)]
  · omega
  · omega
  · rw [← p3, ← q3, key (p2.trans q2.symm) (p1.trans q1.symm)]
set_option maxRecDepth 100000 in
theorem price_edg {R : List Rt} {L : List Lk} (h : okT R L = true) {u v c : Int} (he : edg L u v c) : priceV L u v = (c, true) := by
  have h2 : (priceV L u v).2 = true := by
    rw [price_ok]
    obtain ⟨l, hl, ⟨rfl, rfl, -⟩ | ⟨rfl, rfl, -⟩⟩ := he
    · exact ⟨l, hl, .inr ⟨rfl, rfl⟩⟩
    · exact ⟨l, hl, .inl ⟨rfl, rfl⟩⟩
  unfold priceV at h2 ⊢
  cases hf : L.findSome? (priceB u v) with
  | none => rw [hf] at h2; cases h2
  | some d =>
    obtain ⟨l, hl, hp⟩ := List.exists_of_findSome?_eq_some hf
    have : edg L u v d := ⟨l, hl, priceB_edg hp⟩
    rw [edg_uniq h he this]
end Go.Proofs.YtahafijpcmphaaaGreat

/- Components: the routers that can be reached from each other (the mathematics). -/
namespace Go.Proofs.YtahafijpcmphaaaGreat
open Go.RowKit Bs
end Go.Proofs.YtahafijpcmphaaaGreat

/- append at a step of a region that draws its order, whatever the source; failures while they grow. -/
namespace Go.Proofs.YtahafijpcmphaaaGreat
open Go.RowKit Bs
section
variable {a Bf : Nat} {w wr w1 : World} {T : Tg} {q : Nat → Prop} {uH uX vH vX v' : Value} {H H' : List Hp} {X X' : List Int}
end
end Go.Proofs.YtahafijpcmphaaaGreat

/- A topology that comes in as an argument. -/
namespace Go.Proofs.YtahafijpcmphaaaGreat
open Go.ChangeShapes Go.WideShapes Go.ChangeAt Go.RowKit Go.Joins Bs
section
variable {H : Type} {enc : TypeId × Value → H} {W : World} {base : Nat} {v : Value} {d : DataW H} {ps : List MemPlace}
end
end Go.Proofs.YtahafijpcmphaaaGreat

/- A failure that comes in as an argument; failures out of rows. -/
namespace Go.Proofs.YtahafijpcmphaaaGreat
open Go.ChangeShapes Go.WideShapes Go.ChangeAt Go.RowKit Go.Joins Bs
section
variable {H : Type} {enc : TypeId × Value → H} {W : World} {base : Nat} {v : Value} {d : DataW H} {ps : List MemPlace}
end
end Go.Proofs.YtahafijpcmphaaaGreat

/- The reference's Insert. -/
namespace Go.Proofs.YtahafijpcmphaaaGreat
open Go.RowKit Bs
end Go.Proofs.YtahafijpcmphaaaGreat

/- The reference's Around: the mathematics. -/
namespace Go.Proofs.YtahafijpcmphaaaGreat
open Go.RowKit Bs
end Go.Proofs.YtahafijpcmphaaaGreat

/- The reference's Has, Capable, Price, Cost, Near, Neighbours. -/
namespace Go.Proofs.YtahafijpcmphaaaGreat
open Go.RowKit Bs
set_option maxRecDepth 100000 in
theorem find_hit {α : Type} {p : α → Bool} : ∀ {l : List α} {k : Nat} {x : α}, (l.take k).any p = false → l[k]? = some x → p x = true → l.find? p = some x
  | [], k, x, _, h, _ => by cases h
  | a :: t, 0, x, _, h, hp => by
    obtain rfl : a = x := by simpa using h
    rw [List.find?_cons, hp]
  | a :: t, k + 1, x, hn, h, hp => by
    rw [List.take_succ_cons, List.any_cons, Bool.or_eq_false_iff] at hn
    rw [List.find?_cons, hn.1]
    exact find_hit hn.2 (by simpa using h) hp
set_option maxRecDepth 100000 in
set_option maxHeartbeats 1600000 in
theorem rhasV_any (T : Tg) (x : Int) (q : Nat → Prop) (w : World) (hT : TgOk w q T) :
    Calls Tryz.prog 77 #[.agg #[.slice T.pR T.R.length T.cR, .slice T.pL T.L.length T.cL], .int .i64 x] w fun e w' => e = .returned (.bool (hasV T.R T.L x)) ∧ w.grownBy w' none := by
  obtain ⟨R, L, pR, cR, pL, cL⟩ := T
  have hm1 := Nat.le_trans hT.cr.1 hT.cr.2
  have hm2 := Nat.le_trans hT.cl.1 hT.cl.2
  simp only at hm1 hm2 ⊢
  obtain ⟨k1, k2⟩ := tone_box w #[.slice pR R.length cR, .slice pL L.length cL] 45
  have HB := Lib.hid (And.intro k1 (And.intro k2 (hT.keep k2)))
  clear k1 k2 hT
  obtain ⟨z, hz⟩ : ∃ z, hasV R L x = z := ⟨_, rfl⟩
  rw [hz]
  have HZ := Lib.hid hz
  clear hz
  go_enter Tryz.func77, Tryz.ntmps77
  go_upto_region 1 with fail
  generalize w.alloc _ = wa at *
  obtain ⟨c0, c1⟩ := row_cells HB.out.1
  obtain ⟨X, hX⟩ : ∃ X, chk R L = X := ⟨_, rfl⟩
  have HX := Lib.hid hX
  have HO : Hid (okT R L = (X == 0)) := Lib.hid (by unfold okT; rw [hX])
  clear hX
  by_cases hx : X = 0
  · obtain rfl : hasR R x = z := by have := HZ.out; unfold hasV at this; rw [HO.out, hx] at this; simpa using this
    subst hx
    go_wp2_with fail
    refine (rcheck_any ⟨R, L, pR, cR, pL, cL⟩ _ wa HB.out.2.2).mono ?_
    rintro e w1 ⟨rfl, hg⟩
    simp only
    rw [HX.out]
    have HG := Lib.hid hg
    clear hg c0 c1
    obtain ⟨c0, c1⟩ := row_cells (kept_row HB.out.1 HG.out (by simp))
    go_wp2_with fail
    refine (rhas_any ⟨R, L, pR, cR, pL, cL⟩ x _ w1 (HB.out.2.2.keep HG.out)).mono ?_
    rintro e w2 ⟨rfl, hg⟩
    simp only
    have HG2 := Lib.hid (grown_trans HG.out hg)
    clear hg
    go_wp2_with fail
    go_ret
    exact ⟨rfl, grown_trans HB.out.2.1 HG2.out⟩
  · have hx1 : (X == 0) = false := by simpa using hx
    obtain rfl : false = z := by have := HZ.out; unfold hasV at this; rw [HO.out, hx1] at this; simpa using this
    go_wp2_with fail
    refine (rcheck_any ⟨R, L, pR, cR, pL, cL⟩ _ wa HB.out.2.2).mono ?_
    rintro e w1 ⟨rfl, hg⟩
    simp only
    rw [HX.out]
    have HG := Lib.hid hg
    clear hg c0 c1
    go_wp2_with fail
    go_ret
    exact ⟨rfl, grown_trans HB.out.2.1 HG.out⟩
set_option maxRecDepth 100000 in
set_option maxHeartbeats 1600000 in
theorem rcap_any (T : Tg) (x : Int) (q : Nat → Prop) (w : World) (hT : TgOk w q T) :
    Calls Tryz.prog 43 #[.agg #[.slice T.pR T.R.length T.cR, .slice T.pL T.L.length T.cL], .int .i64 x] w fun e w' => e = .returned (.bool (capV T.R T.L x)) ∧ w.grownBy w' none := by
  obtain ⟨R, L, pR, cR, pL, cL⟩ := T
  have hm1 := Nat.le_trans hT.cr.1 hT.cr.2
  have hm2 := Nat.le_trans hT.cl.1 hT.cl.2
  simp only at hm1 hm2 ⊢
  obtain ⟨k1, k2⟩ := tone_box w #[.slice pR R.length cR, .slice pL L.length cL] 45
  have HB := Lib.hid (And.intro k1 (And.intro k2 (hT.keep k2)))
  clear k1 k2 hT
  obtain ⟨z, hz⟩ : ∃ z, capV R L x = z := ⟨_, rfl⟩
  rw [hz]
  have HZ := Lib.hid hz
  clear hz
  go_enter Tryz.func43, Tryz.ntmps43
  go_upto_region 1 with fail
  generalize w.alloc _ = wa at *
  obtain ⟨c0, c1⟩ := row_cells HB.out.1
  obtain ⟨X, hX⟩ : ∃ X, chk R L = X := ⟨_, rfl⟩
  have HX := Lib.hid hX
  have HO : Hid (okT R L = (X == 0)) := Lib.hid (by unfold okT; rw [hX])
  clear hX
  by_cases hx : X = 0
  rotate_left 1
  · have hx1 : (X == 0) = false := by simpa using hx
    obtain rfl : false = z := by have := HZ.out; unfold capV at this; rw [HO.out, hx1] at this; simpa using this
    go_wp2_with fail
    refine (rcheck_any ⟨R, L, pR, cR, pL, cL⟩ _ wa HB.out.2.2).mono ?_
    rintro e w1 ⟨rfl, hg⟩
    simp only
    rw [HX.out]
    have HG := Lib.hid hg
    clear hg c0 c1
    go_wp2_with fail
    go_ret
    exact ⟨rfl, grown_trans HB.out.2.1 HG.out⟩
  have hcz : capR R x = z := by have := HZ.out; unfold capV at this; rw [HO.out, hx] at this; simpa using this
  have HCZ := Lib.hid hcz
  clear hcz
  subst hx
  go_wp2_with fail
  refine (rcheck_any ⟨R, L, pR, cR, pL, cL⟩ _ wa HB.out.2.2).mono ?_
  rintro e w1 ⟨rfl, hg⟩
  simp only
  rw [HX.out]
  have HG := Lib.hid hg
  clear hg c0 c1
  obtain ⟨c0, c1⟩ := row_cells (kept_row HB.out.1 HG.out (by simp))
  go_wp2_with fail
  go_loopw [5] (fun a wr => ∃ k : Nat, k ≤ R.length ∧ a = .int .i64 (k : Int) ∧ Hid ((R.take k).any (fun r => decide (r.id = x)) = false) ∧ w1 = wr) (fun a _ => R.length - (RowKit.intOf a).toNat)
  case atStart => exact ⟨0, Nat.zero_le _, rfl, Lib.hid rfl, rfl⟩
  case round =>
    obtain ⟨k, hk, rfl, HN, rfl⟩ := hrel
    by_cases hlt : k < R.length
    · obtain ⟨-, b, off, rfl, -, hc⟩ := rdr_cells (R := R) (HB.out.2.2.keep HG.out).r (by omega)
      obtain ⟨y, hy⟩ : ∃ y, R[k]? = some y := ⟨_, List.getElem?_eq_getElem hlt⟩
      obtain ⟨a0, a1⟩ := hc k y hy
      have HY := Lib.hid hy
      have i0 : (0 : Int) ≤ (k : Int) := by omega
      have i1 : (k : Int) < (R.length : Int) := by omega
      clear hc hy
      by_cases hyx : y.id = x
      · obtain rfl : y.cap = z := by
          rw [← HCZ.out]
          unfold capR
          rw [find_hit HN.out HY.out (decide_eq_true hyx)]
        have h' : (y.id == x) = true := by simpa using hyx
        clear hyx
        go_wp2_with fail
        go_ret
        exact ⟨rfl, grown_trans HB.out.2.1 HG.out⟩
      · have HN2 := Lib.hid (any_take HN.out HY.out (decide_eq_false hyx))
        have h' : (y.id == x) = false := by simpa using hyx
        clear hyx
        go_wp2_with fail
        exact ⟨⟨k + 1, by omega, congrArg _ (by omega), HN2, by first | rfl | trivial⟩, by simp only [RowKit.intOf]; omega⟩
    · obtain rfl : k = R.length := by omega
      obtain rfl : false = z := by
        rw [← HCZ.out]
        exact (capR_has (any_end HN.out (Nat.le_refl _))).symm
      go_wp2_with fail
      go_ret
      exact ⟨rfl, grown_trans HB.out.2.1 HG.out⟩
end Go.Proofs.YtahafijpcmphaaaGreat

/- The reference's Around. -/
namespace Go.Proofs.YtahafijpcmphaaaGreat
open Go.RowKit Bs
end Go.Proofs.YtahafijpcmphaaaGreat

/- The reference's Components and Connected. -/
namespace Go.Proofs.YtahafijpcmphaaaGreat
open Go.RowKit Bs
end Go.Proofs.YtahafijpcmphaaaGreat

/- The law ShortestTriangles: its mathematics; the tape's Any. -/
namespace Go.Proofs.YtahafijpcmphaaaGreat
open Go.RowKit Go.Maps Bs
set_option maxRecDepth 100000 in
theorem Wk.trans {L : List Lk} {a b c m n : Int} (h : Wk L a b m) (k : Wk L b c n) : Wk L a c (m + n) :=
  Wk.ind (Q := fun x n => Wk L a x (m + n)) (by rw [Int.add_zero]; exact h) (fun u x v d _ hq he => by rw [← Int.add_assoc]; exact hq.step he) k
end Go.Proofs.YtahafijpcmphaaaGreat

/- The reference's tables of costs and of numbers: the mathematics. -/
namespace Go.Proofs.YtahafijpcmphaaaGreat
open Go.RowKit Bs
/-- The reference's costs to z after k rounds. -/
def toK (L : List Lk) (z : Int) (k : Nat) : Int → Int := passes (flipL L) k (startF z)
/-- After k rounds and j links. -/
def toJ (L : List Lk) (z : Int) (k j : Nat) : Int → Int := ((flipL L).take j).foldl rlx (toK L z k)
set_option maxRecDepth 100000 in
theorem toJ_end (L : List Lk) (z : Int) (k : Nat) : toJ L z k L.length = toK L z (k + 1) := by
  unfold toJ
  rw [List.take_of_length_le (by unfold flipL; rw [List.length_map]; exact Nat.le_refl _)]
  rfl
set_option maxRecDepth 100000 in
theorem toJ_step {L : List Lk} {z : Int} {k j : Nat} {l : Lk} (h : L[j]? = some l) : toJ L z k (j + 1) = rlx1 (rlx1 (toJ L z k j) l.b l.a l.ca) l.a l.b l.cb := by
  unfold toJ
  have h1 : (flipL L)[j]? = some ⟨l.a, l.b, l.cb, l.ca, l.cp⟩ := by
    unfold flipL
    rw [List.getElem?_map, h]
    rfl
  rw [List.take_add_one, h1, List.foldl_append]
  rfl
set_option maxRecDepth 100000 in
theorem snd_toJ (L : List Lk) (z : Int) (k j : Nat) : Snd (flipL L) z (toJ L z k j) :=
  (fold_rlx ((flipL L).take j) (toK L z k) (fun _ h => List.mem_of_mem_take h) (snd_passes (flipL L) z k)).1
set_option maxRecDepth 100000 in
theorem Snd.bd {L : List Lk} (hp : Pos L) {z : Int} {D : Int → Int} (h : Snd L z D) (v : Int) : 0 ≤ D v ∧ D v ≤ farN := by
  rcases h v with h1 | h1
  · rw [h1]; decide
  · exact ⟨h1.2.ge hp, by omega⟩
set_option maxRecDepth 100000 in
theorem toJ_bd {R : List Rt} {L : List Lk} (h : okT R L = true) (z : Int) (k j : Nat) (v : Int) : 0 ≤ toJ L z k j v ∧ toJ L z k j v ≤ farN := (snd_toJ L z k j).bd (okT_g h).pos.flip v
/-- A row of numbers, one for each of V. -/
def clV (V : List Int) (D : Int → Int) : List Value := V.map fun v => tv (D v)
set_option maxRecDepth 100000 in
theorem clV_at {V : List Int} {D : Int → Int} {i : Nat} {v : Int} (h : V[i]? = some v) : (clV V D)[i]? = some (tv (D v)) := by
  unfold clV
  rw [List.getElem?_map, h]
  rfl
set_option maxRecDepth 100000 in
theorem clV_len (V : List Int) (D : Int → Int) : (clV V D).length = V.length := by unfold clV; rw [List.length_map]
set_option maxRecDepth 100000 in
theorem nodup_idx : ∀ (V : List Int), V.Nodup → ∀ (i j : Nat) (hi : i < V.length) (hj : j < V.length), V[i] = V[j] → i = j
  | [], _, _, _, hi, _, _ => absurd hi (Nat.not_lt_zero _)
  | a :: t, hn, i, j, hi, hj, e => by
    obtain ⟨h1, h2⟩ := List.nodup_cons.1 hn
    cases i with
    | zero =>
      cases j with
      | zero => rfl
      | succ j =>
        rw [List.getElem_cons_zero, List.getElem_cons_succ] at e
        exact absurd (by rw [e]; exact List.getElem_mem _) h1
    | succ i =>
      cases j with
      | zero =>
        rw [List.getElem_cons_zero, List.getElem_cons_succ] at e
        exact absurd (by rw [← e]; exact List.getElem_mem _) h1
      | succ j =>
        rw [List.getElem_cons_succ, List.getElem_cons_succ] at e
        rw [nodup_idx t h2 i j (by simpa using hi) (by simpa using hj) e]
set_option maxRecDepth 100000 in
theorem nodup_at {V : List Int} (hn : V.Nodup) {i j : Nat} {v : Int} (hi : V[i]? = some v) (hj : V[j]? = some v) : i = j := by
  obtain ⟨h1, e1⟩ := List.getElem?_eq_some_iff.1 hi
  obtain ⟨h2, e2⟩ := List.getElem?_eq_some_iff.1 hj
  exact nodup_idx V hn i j h1 h2 (e1.trans e2.symm)
set_option maxRecDepth 100000 in
theorem clV_set {V : List Int} (hn : V.Nodup) {i : Nat} {v : Int} (h : V[i]? = some v) (D : Int → Int) (x : Int) : (clV V D).set i (tv x) = clV V (updF D v x) := by
  apply List.ext_getElem?
  intro j
  rw [List.getElem?_set]
  by_cases hij : i = j
  · subst hij
    rw [if_pos rfl, clV_at h]
    have h1 : i < (clV V D).length := by rw [clV_len]; exact (List.getElem?_eq_some_iff.1 h).1
    rw [if_pos h1]
    unfold updF
    rw [if_pos rfl]
  · rw [if_neg hij]
    unfold clV
    rw [List.getElem?_map, List.getElem?_map]
    cases hj : V[j]? with
    | none => rfl
    | some u =>
      have hne : u ≠ v := fun e => hij (nodup_at hn h (by rw [hj, e]))
      show some (tv (D u)) = some (tv (updF D v x u))
      rw [show updF D v x u = D u by unfold updF; rw [if_neg hne]]
/-- What At gives. -/
def atV (R : List Rt) (D : Int → Int) (r : Int) : Int := if r ∈ ids R then D r else farN
set_option maxRecDepth 100000 in
theorem at_dst {R : List Rt} {L : List Lk} {z : Int} (hz : hasV R L z = true) (r : Int) : atV R (toK L z R.length) r = (dst R L r z).getD farN := by
  obtain ⟨hok, hzi⟩ := hasV_iff.1 hz
  have hg := okT_g hok
  have hlen : (ids R).length = R.length := by unfold ids; rw [List.length_map]
  have key := passes_D hg.pos.flip hg.ends.flip (C := 1000) (fun m hm => by
    obtain ⟨l, hl, rfl⟩ := List.mem_map.1 hm
    exact ⟨(hg.le l hl).2, (hg.le l hl).1⟩) (by decide) (by have := hg.len.1; unfold farN; omega) (s := z)
  rw [hlen] at key
  unfold atV
  by_cases hr : r ∈ ids R
  · rw [if_pos hr]
    cases hd : dst R L r z with
    | some d =>
      exact ((key r d).2 (IsD.flip.2 (dst_some.1 hd).2)).1
    | none =>
      rcases snd_passes (flipL L) z R.length r with h1 | h1
      · exact h1
      · have h2 := (key r _).1 ⟨rfl, h1.1⟩
        rw [dst_some.2 ⟨hasV_iff.2 ⟨hok, hr⟩, IsD.flip.1 h2⟩] at hd
        cases hd
  · rw [if_neg hr]
    cases hd : dst R L r z with
    | some d => exact absurd (dst_both hd).2.1 hr
    | none => rfl
/-- Does the way over u cost x? -/
def okS (R : List Rt) (L : List Lk) (D : Int → Int) (x r u : Int) : Bool := decide (atV R D u < farN) && decide ((priceV L r u).1 + atV R D u = x)
/-- The reference's Steps. -/
def stV (R : List Rt) (L : List Lk) (D : Int → Int) (r : Int) : List Int := if atV R D r = farN ∨ atV R D r = 0 then [] else (nearR R L r).filter (okS R L D (atV R D r) r)
set_option maxRecDepth 100000 in
theorem filter_fst {P : Int × Int → Bool} {Q : Int → Bool} : ∀ (M : List (Int × Int)), (∀ n ∈ M, P n = Q n.1) → (M.filter P).map (·.1) = (M.map (·.1)).filter Q
  | [], _ => rfl
  | n :: t, h => by
    have ih := filter_fst t (fun m hm => h m (by simp [hm]))
    rw [List.map_cons, List.filter_cons, List.filter_cons, ← h n (by simp)]
    by_cases hp : P n = true
    · rw [if_pos hp, if_pos hp, List.map_cons, ih]
    · rw [if_neg hp, if_neg hp, ih]
set_option maxRecDepth 100000 in
theorem stV_nxt {R : List Rt} {L : List Lk} {z : Int} (hz : hasV R L z = true) (r : Int) : stV R L (toK L z R.length) r = nxt R L r z := by
  obtain ⟨hok, hzi⟩ := hasV_iff.1 hz
  have hg := okT_g hok
  have hf0 : ∀ v x, dst R L v z = some x → 0 ≤ x := fun v x h => (dst_bd h).1.1
  unfold stV
  rw [at_dst hz r]
  cases hd : dst R L r z with
  | none =>
    rw [if_pos (.inl rfl)]
    exact (next_none hg.pos (f := fun x => dst R L x z) hf0 hd).symm
  | some d =>
    have hdb := (dst_bd hd).1
    simp only [Option.getD_some]
    by_cases h0 : d = 0
    · rw [if_pos (.inr h0)]
      rw [h0] at hd
      exact (next_end hg.pos (f := fun x => dst R L x z) hf0 hd).symm
    · rw [if_neg (by rintro (h | h); · unfold farN at h; omega
                     · exact h0 h)]
      unfold nxt nextV
      rw [filter_fst (Q := okS R L (toK L z R.length) d r), nbD_fst, near_eq (okT_all hok)]
      rintro ⟨u, c⟩ hm
      have he := nbD_mem.1 hm
      show (match dst R L u z with
        | some x => decide (c + x = (dst R L r z).getD 0)
        | none => false) = okS R L (toK L z R.length) d r u
      rw [show (dst R L r z).getD 0 = d by rw [hd]; rfl]
      unfold okS
      rw [at_dst hz u, price_edg hok he]
      cases hu : dst R L u z with
      | none =>
        simp only [Option.getD_none]
        rw [show decide (farN < farN) = false from rfl]
        rfl
      | some y =>
        have hy := (dst_bd hu).1
        simp only [Option.getD_some]
        rw [show decide (y < farN) = true from decide_eq_true (by unfold farN; omega)]
        rfl
/-! Numbers of paths. -/
end Go.Proofs.YtahafijpcmphaaaGreat

/- The reference's place and At; a row of costs of the call's own. -/
namespace Go.Proofs.YtahafijpcmphaaaGreat
open Go.RowKit Bs
set_option maxRecDepth 100000 in
theorem ids_len (R : List Rt) : (ids R).length = R.length := by unfold ids; rw [List.length_map]
set_option maxRecDepth 100000 in
theorem ids_at {R : List Rt} {k : Nat} {y : Rt} (h : R[k]? = some y) : (ids R)[k]? = some y.id := by unfold ids; rw [List.getElem?_map, h]; rfl
set_option maxRecDepth 100000 in
theorem ids_nodup {R : List Rt} {L : List Lk} (h : okT R L = true) : (ids R).Nodup := nodup_of_lt (ids_pair h)
set_option maxRecDepth 100000 in
set_option maxHeartbeats 1600000 in
theorem rplace_any (T : Tg) (x : Int) (i : Nat) (q : Nat → Prop) (w : World) (hT : TgOk w q T) (hi : (ids T.R)[i]? = some x) (hn : (ids T.R).Nodup) :
    Calls Tryz.prog 109 #[.agg #[.slice T.pR T.R.length T.cR, .slice T.pL T.L.length T.cL], .int .i64 x] w fun e w' => e = .returned (.int .i64 (i : Int)) ∧ w.grownBy w' none := by
  have C0 := Lib.hid (CK.start hT)
  have hmR := Nat.le_trans hT.cr.1 hT.cr.2
  clear hT
  obtain ⟨R, L, pR, cR, pL, cL⟩ := T
  simp only at hmR C0 hi hn ⊢
  have HI := Lib.hid (And.intro hi hn)
  have hil : i < R.length := by have := (List.getElem?_eq_some_iff.1 hi).1; rwa [ids_len] at this
  clear hi hn
  go_enter Tryz.func109, Tryz.ntmps109
  go_upto_region 1 with fail
  generalize w.alloc _ = wa at *
  go_wp2_with fail
  go_loopw [5] (fun a wr => ∃ k : Nat, k ≤ i ∧ a = .int .i64 (k : Int) ∧ Hid (CK w ⟨R, L, pR, cR, pL, cL⟩ wr)) (fun a _ => R.length - (RowKit.intOf a).toNat)
  case atStart => exact ⟨0, Nat.zero_le _, rfl, C0⟩
  case round =>
    obtain ⟨k, hk, rfl, C⟩ := hrel
    clear C0
    obtain ⟨c0, c1⟩ := row_cells C.out.box
    have hlt : k < R.length := by omega
    obtain ⟨b, off, hp⟩ := ck_pr C.out (show 0 < R.length by omega)
    change pR = _ at hp
    subst hp
    obtain ⟨y, hy⟩ : ∃ y, R[k]? = some y := ⟨_, List.getElem?_eq_getElem hlt⟩
    obtain ⟨a0, a1⟩ := ck_rt C.out hy
    have hyi := ids_at hy
    by_cases e : k = i
    · subst e
      have e1 : y.id = x := by have := HI.out.1; rw [hyi] at this; exact Option.some.inj this
      have e' : (y.id == x) = true := by simpa using e1
      clear hy hyi e1
      go_wp2_with fail
      go_ret
      exact ⟨rfl, C.out.gr⟩
    · have e' : (y.id == x) = false := by
        rw [beq_eq_false_iff_ne]
        intro e1
        exact e (nodup_at HI.out.2 (by rw [hyi, e1]) HI.out.1)
      clear hy hyi
      go_wp2_with fail
      exact ⟨⟨k + 1, by omega, congrArg _ (by omega), C⟩, by simp only [RowKit.intOf]; omega⟩
set_option maxRecDepth 100000 in
set_option maxHeartbeats 1600000 in
theorem rat_any (T : Tg) (D : Int → Int) (x : Int) (A : List Int) (pd : Option Addr) (cd : Nat) (q q2 : Nat → Prop) (w : World) (hT : TgOk w q T) (hA : A = (ids T.R).map D) (hD : Rd w q2 (.slice pd A.length cd) (A.map tv)) :
    Calls Tryz.prog 92 #[.agg #[.slice T.pR T.R.length T.cR, .slice T.pL T.L.length T.cL], .slice pd A.length cd, .int .i64 x] w fun e w' => e = .returned (.int .i64 (atV T.R D x)) ∧ w.grownBy w' none := by
  have C0 := Lib.hid (CK.start hT)
  have HD := Lib.hid hD
  have hmR := Nat.le_trans hT.cr.1 hT.cr.2
  clear hT hD
  obtain ⟨R, L, pR, cR, pL, cL⟩ := T
  simp only at hmR C0 hA ⊢
  have hAl : A.length = R.length := by rw [hA, List.length_map, ids_len]
  have HA := Lib.hid hA
  clear hA
  go_enter Tryz.func92, Tryz.ntmps92
  go_upto_region 1 with fail
  generalize w.alloc _ = wa at *
  go_wp2_with fail
  go_loopw [7] (fun a wr => ∃ k : Nat, k ≤ R.length ∧ a = .int .i64 (k : Int) ∧ Hid (CK w ⟨R, L, pR, cR, pL, cL⟩ wr) ∧ Hid ((R.take k).any (fun r => decide (r.id = x)) = false)) (fun a _ => R.length - (RowKit.intOf a).toNat)
  case atStart => exact ⟨0, Nat.zero_le _, rfl, C0, Lib.hid rfl⟩
  case round =>
    obtain ⟨k, hk, rfl, C, HN⟩ := hrel
    clear C0
    obtain ⟨c0, c1⟩ := row_cells C.out.box
    by_cases hlt : k < R.length
    · obtain ⟨b, off, hp⟩ := ck_pr C.out (show 0 < R.length by omega)
      change pR = _ at hp
      subst hp
      obtain ⟨y, hy⟩ : ∃ y, R[k]? = some y := ⟨_, List.getElem?_eq_getElem hlt⟩
      obtain ⟨a0, a1⟩ := ck_rt C.out hy
      have HY := Lib.hid hy
      clear hy
      by_cases e : y.id = x
      · have e' : (y.id == x) = true := by simpa using e
        have HE := Lib.hid e
        obtain ⟨-, bd, od, rfl, -, hc⟩ := rdi_at (HD.out.keep C.out.gr) (by omega)
        have d0 := hc k (D y.id) (by rw [HA.out, List.getElem?_map, ids_at HY.out]; rfl)
        clear e hc
        go_wp2_with fail
        go_ret
        refine ⟨?_, C.out.gr⟩
        have h1 : x ∈ ids R := ids_has.2 (any_at HY.out (decide_eq_true HE.out))
        unfold atV
        rw [if_pos h1, ← HE.out]
        rfl
      · have e' : (y.id == x) = false := by simpa using e
        have HE := Lib.hid e
        clear e
        go_wp2_with fail
        exact ⟨⟨k + 1, by omega, congrArg _ (by omega), C, Lib.hid (any_take HN.out HY.out (decide_eq_false HE.out))⟩, by simp only [RowKit.intOf]; omega⟩
    · obtain rfl : k = R.length := by omega
      go_wp2_with fail
      go_ret
      have h1 : hasR R x = false := any_end HN.out (Nat.le_refl _)
      unfold atV
      rw [if_neg (fun h => by rw [ids_has.1 h] at h1; cases h1)]
      exact ⟨rfl, C.out.gr⟩
set_option maxRecDepth 100000 in
/-- A row of zeros. -/
theorem made_int (N : Nat) : madeCells #[Value.int .i64 0] N = (List.replicate N (tv 0)).toArray := by
  unfold madeCells
  apply Array.ext'
  rw [Array.toList_map, Array.toList_range]
  apply List.ext_getElem?
  intro i
  rw [List.getElem?_map, List.getElem?_replicate]
  by_cases h : i < N
  · rw [List.getElem?_range h, if_pos h]
    simp [tv, Nat.mod_one]
  · rw [List.getElem?_eq_none (by simpa using h), if_neg h]; rfl
set_option maxRecDepth 100000 in
theorem clV_zero (V : List Int) : clV V (fun _ => 0) = List.replicate V.length (tv 0) := by
  unfold clV
  rw [List.map_const']
set_option maxRecDepth 100000 in
/-- make of ints, as a law for the walk. -/
theorem wpList_make_ints (w : World) {ops : Array Oper} {rest : List Oper} {o : Oper} {a : Act} {Q : Exit → Act → World → Prop} (hg : o.guard = none) (l c : Operand) (hop : o.op = Op.makeSlice 22 l c) (M : Nat)
    (hl : a.eval l = .int .i64 (M : Int)) (hc : a.eval c = .int .i64 (M : Int)) (hM : M ≤ 100000)
    (hK : TRow (w.alloc (.cells (Array.replicate M (tv 0)) 3)) w.heap.size 3 (List.replicate M (tv 0)) → w.grownBy (w.alloc (.cells (Array.replicate M (tv 0)) 3)) none → wpList Tryz.prog ops Q rest (a.put o.dst (.slice (some ⟨w.heap.size, 0, none⟩) M M)) (w.alloc (.cells (Array.replicate M (tv 0)) 3))) : wpList Tryz.prog ops Q (o :: rest) a w := by
  obtain ⟨i0, hi, hz0, hz1, hz2⟩ := info_parts info_int
  refine wpList_make_row w hg l c 22 hop 3 i0 (.int .i64 0) Tryz.underlying22 hi hz0 hz1 rfl .i64 .i64 M hl hc (by rw [hz2]; omega) (by omega) ?_
  rw [made_int, List.toArray_replicate]
  refine hK ?_ (World.grownBy_alloc w _ _)
  unfold TRow
  rw [List.toArray_replicate]
  exact heap_alloc_new w _
/-- What memory holds while costs are relaxed. -/
structure TM (w : World) (T : Tg) (G gd : Nat) (D : Int → Int) (wr : World) : Prop where
  gb : wr.heap[G]? = some (.cells #[.slice T.pR T.R.length T.cR, .slice T.pL T.L.length T.cL] 45 (0, 0))
  t : TgOk wr (· < gd) T
  d : TRow wr gd 3 (clV (ids T.R) D)
  gr : w.grownBy wr none
  lt : G < gd ∧ w.heap.size ≤ G
set_option maxRecDepth 100000 in
theorem TM.keep {w wr w' : World} {T : Tg} {G gd : Nat} {D : Int → Int} (h : TM w T G gd D wr) (g : wr.grownBy w' none) : TM w T G gd D w' :=
  ⟨kept_row h.gb g (by simp), h.t.keep g, h.d.kept g (by simp), grown_trans h.gr g, h.lt⟩
set_option maxRecDepth 100000 in
theorem TM.put {w wr : World} {T : Tg} {G gd : Nat} {D : Int → Int} (h : TM w T G gd D wr) (hn : (ids T.R).Nodup) {i : Nat} {v : Int} (hi : (ids T.R)[i]? = some v) (x : Int) : TM w T G gd (updF D v x) (wr.setCell ⟨gd, i, none⟩ (tv x)) := by
  have g := grown_setCell wr ⟨gd, i, none⟩ (tv x)
  have hlt := h.lt
  refine ⟨kept_row h.gb g (fun e => by have := Option.some.inj e; simp only at this; omega), h.t.grown g (fun b hb e => by have := Option.some.inj e; simp only at this; omega), ?_, grown_new h.gr g (by show w.heap.size ≤ gd; omega), hlt⟩
  have := h.d.set i (tv x)
  rwa [clV_set hn hi] at this
/-- The row while it is filled. -/
def iniF (V : List Int) (z : Int) (i : Nat) : Int → Int := fun u => if u ∈ V.take i then startF z u else 0
set_option maxRecDepth 100000 in
theorem iniF_step {V : List Int} {z v : Int} {i : Nat} (h : V[i]? = some v) : updF (iniF V z i) v (startF z v) = iniF V z (i + 1) := by
  funext u
  unfold updF iniF
  rw [List.take_add_one, h]
  by_cases hu : u = v
  · rw [if_pos hu, hu, if_pos (by simp)]
  · rw [if_neg hu]
    by_cases hm : u ∈ V.take i
    · rw [if_pos hm, if_pos (by simp [hm])]
    · rw [if_neg hm, if_neg (by simp [hm, hu])]
set_option maxRecDepth 100000 in
theorem clV_congr {V : List Int} {D E : Int → Int} (h : ∀ v ∈ V, D v = E v) : clV V D = clV V E := by
  unfold clV
  exact List.map_congr_left (fun v hv => by rw [h v hv])
set_option maxRecDepth 100000 in
theorem iniF_end (V : List Int) (z : Int) : clV V (iniF V z V.length) = clV V (startF z) :=
  clV_congr (fun v hv => by unfold iniF; rw [List.take_length, if_pos hv])
set_option maxRecDepth 100000 in
theorem updF_twice (D : Int → Int) (v x y : Int) : updF (updF D v x) v y = updF D v y := by
  funext u
  unfold updF
  by_cases h : u = v
  · rw [if_pos h, if_pos h]
  · rw [if_neg h, if_neg h, if_neg h]
end Go.Proofs.YtahafijpcmphaaaGreat

/- The reference's Steps. -/
namespace Go.Proofs.YtahafijpcmphaaaGreat
open Go.RowKit Bs
end Go.Proofs.YtahafijpcmphaaaGreat

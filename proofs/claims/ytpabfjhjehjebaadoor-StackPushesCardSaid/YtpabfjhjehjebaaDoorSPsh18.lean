/- Parts of the proof, packed: StPop. -/
import Derived.Test.YtpabfjhjehjebaaDoorSPsh14
import Derived.Test.YtpabfjhjehjebaaDoorSPsh17
import Derived.Deep.RegionHeld3
/- stack: Pop of program and reference. -/
namespace Go.Proofs.YtpabfjhjehjebaaDoor
open Go.RowKit Bs
/-- What Pop returns. -/
def popV (r : List Int) (P : Pk) : Int × List Int × Array Value × Bool :=
  if vfr r P = true ∧ r.length ≠ 0 then (r.getD 0 0, r.drop 1, #[.int .i64 P.mode, .int .i64 P.sub, .int .i64 P.set, .int .i64 P.len, .int .i64 P.ttl, .int .i64 P.ent, .int .i64 P.ing, .int .i64 P.pro, .int .u64 (P.bits : Int), .string P.pay], true) else (0, [], zpk, false)
def PPPost (V : Int × List Int × Array Value × Bool) (w : World) (e : Ending) (w' : World) : Prop :=
  ∃ p c, e = .returned (.tuple #[.int .i64 V.1, .agg (#[.slice p V.2.1.length c] ++ V.2.2.1), .bool V.2.2.2]) ∧ Rd w' (fun _ => True) (.slice p V.2.1.length c) (V.2.1.map iv) ∧ V.2.1.length ≤ c ∧ c ≤ 9223372036854775807 ∧ w.grownBy w' none
set_option maxRecDepth 100000 in
theorem res_tct {fn : Func} {p u x : Tmp} (h : fn.results = #[.tmp u, .cell p 33, .tmp x]) (tmps : Array Value) (w : World) (g : Nat) (xs : Array Value) (hp : tmps.getD p undef = .pointer (some ⟨g, 0, none⟩)) (hn : xs.size = 11) (hg : w.heap[g]? = some (.cells xs 33 (0, 0))) :
    (results fn tmps).run Tryd.prog w = .ok (.tuple #[tmps.getD u undef, .agg xs, tmps.getD x undef]) w := by
  have hp' : tmps[p]?.getD undef = .pointer (some ⟨g, 0, none⟩) := by simpa using hp
  simp only [results, h]
  simp [Sem.run_bind, hp', asAddr, run_loadVar_row w g _ _ _ _ _ hg Tryd.underlying33 rfl (by rw [hn]; exact frame_size), Result.andThen]
set_option maxRecDepth 100000 in
theorem PB.none_ {w wr : World} {v0 : Value} {P : Pk} {V : Int × List Int × Array Value × Bool} (h : PB w v0 P wr) (hV : V = (0, [], zpk, false)) :
    Row (fput wr (w.heap.size + 1) (.slice none 0 0) (.int .i64 0) (.int .i64 0) (.int .i64 0) (.int .i64 0) (.int .i64 0) (.int .i64 0) (.int .i64 0) (.int .i64 0) (.int .u64 0) (.string ⟨#[]⟩)) (w.heap.size + 1) 33 zfr.toList ∧
      PPPost V w (.returned (.tuple #[.int .i64 0, .agg zfr, .bool false])) (fput wr (w.heap.size + 1) (.slice none 0 0) (.int .i64 0) (.int .i64 0) (.int .i64 0) (.int .i64 0) (.int .i64 0) (.int .i64 0) (.int .i64 0) (.int .i64 0) (.int .u64 0) (.string ⟨#[]⟩)) := by
  obtain ⟨k1, k2⟩ := h.put (.slice none 0 0) (.int .i64 0) (.int .i64 0) (.int .i64 0) (.int .i64 0) (.int .i64 0) (.int .i64 0) (.int .i64 0) (.int .i64 0) (.int .u64 0) (.string ⟨#[]⟩)
  subst hV
  exact ⟨k1, none, 0, rfl, Rd.nil_ _ _ _ _, Nat.le_refl _, by omega, k2⟩
set_option maxRecDepth 100000 in
theorem row_drew {w : World} {g : Nat} {t : TypeId} {xs : List Value} (h : Row w g t xs) : Row w.drew g t xs := h
set_option maxRecDepth 100000 in
theorem rdi_drop1 {w : World} {q : Nat → Prop} {b off n c : Nat} {r : List Int} (h : Rd w q (.slice (some ⟨b, off, none⟩) n c) (r.map iv)) (c2 : Nat) : Rd w q (.slice (some ⟨b, off + 1, none⟩) (r.drop 1).length c2) ((r.drop 1).map iv) := by
  obtain ⟨p1, c1, e1, hx⟩ := h
  injection e1 with a1 a2 a3
  subst a1
  refine ⟨_, c2, by rw [List.length_map], fun hne => ?_⟩
  have hne2 : r.map iv ≠ [] := by
    intro e
    apply hne
    rw [List.map_drop, e]; simp
  obtain ⟨b2, off2, hp, hq, hc⟩ := hx hne2
  obtain ⟨rfl, rfl⟩ : b = b2 ∧ off = off2 := by simpa using hp
  refine ⟨b, off + 1, rfl, hq, fun i x hi => ?_⟩
  rw [List.map_drop, List.getElem?_drop] at hi
  rw [Nat.add_assoc]
  exact hc _ _ hi
set_option maxRecDepth 100000 in
set_option maxHeartbeats 6400000 in
theorem spop_any (r : List Int) (P : Pk) (hP : P.Wf) (p : Option Addr) (c : Nat) (hc : r.length ≤ c ∧ c ≤ 9223372036854775807) (hn : p = none → c = 0) (q : Nat → Prop) (w : World) (hR : Rd w q (.slice p r.length c) (r.map iv)) :
    Calls Tryd.prog 18 #[fval (.slice p r.length c) P] w fun e w' => PPPost (popV r P) w e w' := by
  have hB := PB.start w (.slice p r.length c) P
  have HRO0 := Lib.hid ((rd_old hR).keep hB.gr)
  have HR := Lib.hid (hR.keep hB.gr)
  have HN := Lib.hid hn
  have HP := Lib.hid hP
  have HC := Lib.hid hc
  have B0 := Lib.hid hB
  have hfv : fval (.slice p r.length c) P = .agg #[.slice p r.length c, .int .i64 P.mode, .int .i64 P.sub, .int .i64 P.set, .int .i64 P.len, .int .i64 P.ttl, .int .i64 P.ent, .int .i64 P.ing, .int .i64 P.pro, .int .u64 (P.bits : Int), .string P.pay] := rfl
  rw [hfv]
  clear hR hn hP hc hB hfv
  go_enter Tryd.func18, Tryd.ntmps18
  go_upto_region 1 with fail
  change Hid (PB w (.slice p r.length c) P ((w.alloc (.cells #[.slice p r.length c, .int .i64 P.mode, .int .i64 P.sub, .int .i64 P.set, .int .i64 P.len, .int .i64 P.ttl, .int .i64 P.ent, .int .i64 P.ing, .int .i64 P.pro, .int .u64 (P.bits : Int), .string P.pay] 33)).alloc (.cells #[.slice none 0 0, .int .i64 0, .int .i64 0, .int .i64 0, .int .i64 0, .int .i64 0, .int .i64 0, .int .i64 0, .int .i64 0, .int .u64 0, .string ⟨#[]⟩] 33))) at B0
  change Hid (Rd ((w.alloc (.cells #[.slice p r.length c, .int .i64 P.mode, .int .i64 P.sub, .int .i64 P.set, .int .i64 P.len, .int .i64 P.ttl, .int .i64 P.ent, .int .i64 P.ing, .int .i64 P.pro, .int .u64 (P.bits : Int), .string P.pay] 33)).alloc (.cells #[.slice none 0 0, .int .i64 0, .int .i64 0, .int .i64 0, .int .i64 0, .int .i64 0, .int .i64 0, .int .i64 0, .int .i64 0, .int .u64 0, .string ⟨#[]⟩] 33)) q _ _) at HR
  change Hid (Rd ((w.alloc (.cells #[.slice p r.length c, .int .i64 P.mode, .int .i64 P.sub, .int .i64 P.set, .int .i64 P.len, .int .i64 P.ttl, .int .i64 P.ent, .int .i64 P.ing, .int .i64 P.pro, .int .u64 (P.bits : Int), .string P.pay] 33)).alloc (.cells #[.slice none 0 0, .int .i64 0, .int .i64 0, .int .i64 0, .int .i64 0, .int .i64 0, .int .i64 0, .int .i64 0, .int .i64 0, .int .u64 0, .string ⟨#[]⟩] 33)) _ _ _) at HRO0
  generalize (w.alloc _).alloc _ = wa at *
  obtain ⟨c0, c1, c2, c3, c4, c5, c6, c7, c8, c9, c10⟩ := fr_facts B0.out.box
  have hlt0 := B0.out.res.lt
  have C : Calls Tryd.prog 38 #[.agg #[.slice p r.length c, .int .i64 P.mode, .int .i64 P.sub, .int .i64 P.set, .int .i64 P.len, .int .i64 P.ttl, .int .i64 P.ent, .int .i64 P.ing, .int .i64 P.pro, .int .u64 (P.bits : Int), .string P.pay]] wa fun e w' => e = .returned (.bool (vfr r P)) ∧ wa.grownBy w' none := svfr_any r P HP.out p c HC.out.1 HC.out.2 q wa HR.out
  go_wp2_with fail
  refine C.mono ?_
  clear C
  rintro e w1 ⟨rfl, hg⟩
  have B1 := Lib.hid (B0.out.keep hg)
  have HR1 := Lib.hid (HR.out.keep hg)
  have HRO := Lib.hid (HRO0.out.keep hg)
  clear hg B0 HR HRO0 c0 c1 c2 c3 c4 c5 c6 c7 c8 c9 c10
  obtain ⟨c0, c1, c2, c3, c4, c5, c6, c7, c8, c9, c10⟩ := fr_facts B1.out.box
  obtain ⟨⟨d0, d1, d2, d3, d4, d5, d6, d7, d8, d9, d10⟩, f0, f1, f2, f3, f4, f5, f6, f7, f8, f9, f10⟩ := zfr_facts B1.out.res
  cases hv : vfr r P
  · have HE := Lib.hid (B1.out.none_ (V := popV r P) (by unfold popV; rw [if_neg (by rw [hv]; simp)]))
    clear hv
    go_wp2_with fail
    refine bodyPost_ret (res_tct rfl _ _ (w.heap.size + 1) zfr rfl rfl HE.out.1) rfl ?_
    exact HE.out.2
  have HV := Lib.hid hv
  obtain ⟨h24, -, -, -⟩ := vfr_parts hv
  clear hv
  by_cases h0 : r.length = 0
  · have HE := Lib.hid (B1.out.none_ (V := popV r P) (by unfold popV; rw [if_neg (by intro h; exact h.2 h0)]))
    go_wp2_with fail
    refine bodyPost_ret (res_tct rfl _ _ (w.heap.size + 1) zfr rfl rfl HE.out.1) rfl ?_
    exact HE.out.2
  have hpos : 0 < r.length := by omega
  have hl0 : ((r.length : Int) == 0) = false := by simp; intro e; exact h0 (by rw [e]; rfl)
  have HV2 := Lib.hid (show popV r P = _ by unfold popV; rw [if_pos ⟨HV.out, h0⟩])
  obtain ⟨b, off, hpb, hq, -⟩ := rdi_cells HR1.out hpos
  subst hpb
  have hcc := HC.out.1
  have hcm := HC.out.2
  have i1 : (1 : Int) ≤ (r.length : Int) := by omega
  have i2 : (1 : Int) ≤ (c : Int) := by omega
  have i3 : (r.length : Int) ≤ (c : Int) := by omega
  have hlt1 := B1.out.res.lt
  obtain ⟨y, hy⟩ : ∃ y, r.getD 0 0 = y := ⟨_, rfl⟩
  rw [hy] at HV2
  have HY := Lib.hid hy
  clear h0 hy
  go_upto_region 3 with fail
  clear c0 c1 c2 c3 c4 c5 c6 c7 c8 c9 c10 d0 d1 d2 d3 d4 d5 d6 d7 d8 d9 d10 f0 f1 f2 f3 f4 f5 f6 f7 f8 f9 f10
  obtain ⟨D, hD⟩ : ∃ D, D = r.drop 1 := ⟨_, rfl⟩
  have hDl : D.length = r.length - 1 := by rw [hD, List.length_drop]
  have HDL := Lib.hid hDl
  have HD := Lib.hid hD
  rw [← hD] at HV2
  clear hD hDl
  by_cases hc1 : c = 1
  · subst hc1
    obtain rfl : D = [] := List.eq_nil_of_length_eq_zero (by rw [HDL.out]; omega)
    have HRD : Hid (Rd w1 (fun _ => True) (.slice (some ⟨b, off, none⟩) 0 0) []) := Lib.hid (Rd.nil_ _ _ _ _)
    have cl : ∀ (wx : World) (h : Rd wx (fun _ => True) (.slice (some ⟨b, off, none⟩) 0 0) []), Calls Tryd.prog 42 #[.slice (some ⟨b, off, none⟩) 0 0] wx fun e w' => OwnRet [] wx e w' := fun wx h => sclone_any [] (some ⟨b, off, none⟩) 0 _ wx h (fun _ => rfl) (Nat.le_refl _) (by simp)
    have CL := Lib.hid cl
    clear cl
    have hr1 : r.length = 1 := by omega
    refine wp_region_held_drew (S := fun w' => Hid (w1.grownBy w' (some (w.heap.size + 1)))) (by kernel_rfl) (Lib.hid (grown_none (grown_drew (grown_refl w1 none)) _)) (fun hHeld => ?_)
    refine wpAnyH_take (i := 0) (oi := { dst := some 15, op := Op.fieldAddr 33 (Operand.tmp 1) 0, type := 0, pos := "stack.go:131", after := #[], guard := none }) (v := ?_) rfl (by kernel_rfl) (by kernel_rfl) (by kernel_rfl) (fun _ _ _ h => h) (Or.inl ⟨by rfl, ?_⟩) hHeld ?_
    rotate_left 1
    · intro u hSu
      obtain ⟨c0, c1, c2, c3, c4, c5, c6, c7, c8, c9, c10⟩ := fr_facts (kept_row B1.out.box hSu.out (by intro e; have := Option.some.inj e; omega))
      obtain ⟨b2, o2, hpe, -, hcc⟩ := rdi_cells (HRO.out.grown hSu.out (fun b hb e => by have := Option.some.inj e; omega)) hpos
      injection hpe with hpe
      injection hpe with e1 e2
      subst e1
      subst e2
      have z0 := hcc 0 hpos
      rw [Nat.add_zero, HY.out] at z0
      clear hcc
      go_simp
      first | done | with_reducible rfl
    (try simp only [Act.put, List.setIfInBounds_toArray, List.set_cons_zero, List.set_cons_succ])
    refine wpAnyH_take (i := 1) (oi := { dst := some 16, op := Op.load 22 (Operand.tmp 15), type := 22, pos := "stack.go:131", after := #[{ on := 0, ground := Ground.data }], guard := none }) (v := ?_) rfl (by kernel_rfl) (by kernel_rfl) (by kernel_rfl) (fun _ _ _ h => h) (Or.inl ⟨by rfl, ?_⟩) hHeld ?_
    rotate_left 1
    · intro u hSu
      obtain ⟨c0, c1, c2, c3, c4, c5, c6, c7, c8, c9, c10⟩ := fr_facts (kept_row B1.out.box hSu.out (by intro e; have := Option.some.inj e; omega))
      obtain ⟨b2, o2, hpe, -, hcc⟩ := rdi_cells (HRO.out.grown hSu.out (fun b hb e => by have := Option.some.inj e; omega)) hpos
      injection hpe with hpe
      injection hpe with e1 e2
      subst e1
      subst e2
      have z0 := hcc 0 hpos
      rw [Nat.add_zero, HY.out] at z0
      clear hcc
      go_simp
      first | done | with_reducible rfl
    (try simp only [Act.put, List.setIfInBounds_toArray, List.set_cons_zero, List.set_cons_succ])
    refine wpAnyH_take (i := 2) (oi := { dst := some 17, op := Op.indexAddr 22 (Operand.tmp 16) (Operand.const (Value.int IntKind.i64 0)), type := 0, pos := "stack.go:131", after := #[{ on := 1, ground := Ground.data }], guard := none }) (v := ?_) rfl (by kernel_rfl) (by kernel_rfl) (by kernel_rfl) (fun _ _ _ h => h) (Or.inl ⟨by rfl, ?_⟩) hHeld ?_
    rotate_left 1
    · intro u hSu
      obtain ⟨c0, c1, c2, c3, c4, c5, c6, c7, c8, c9, c10⟩ := fr_facts (kept_row B1.out.box hSu.out (by intro e; have := Option.some.inj e; omega))
      obtain ⟨b2, o2, hpe, -, hcc⟩ := rdi_cells (HRO.out.grown hSu.out (fun b hb e => by have := Option.some.inj e; omega)) hpos
      injection hpe with hpe
      injection hpe with e1 e2
      subst e1
      subst e2
      have z0 := hcc 0 hpos
      rw [Nat.add_zero, HY.out] at z0
      clear hcc
      go_simp
      first | done | with_reducible rfl
    (try simp only [Act.put, List.setIfInBounds_toArray, List.set_cons_zero, List.set_cons_succ])
    refine wpAnyH_take (i := 3) (oi := { dst := some 18, op := Op.load 3 (Operand.tmp 17), type := 3, pos := "stack.go:131", after := #[{ on := 2, ground := Ground.data }], guard := none }) (v := ?_) rfl (by kernel_rfl) (by kernel_rfl) (by kernel_rfl) (fun _ _ _ h => h) (Or.inl ⟨by rfl, ?_⟩) hHeld ?_
    rotate_left 1
    · intro u hSu
      obtain ⟨c0, c1, c2, c3, c4, c5, c6, c7, c8, c9, c10⟩ := fr_facts (kept_row B1.out.box hSu.out (by intro e; have := Option.some.inj e; omega))
      obtain ⟨b2, o2, hpe, -, hcc⟩ := rdi_cells (HRO.out.grown hSu.out (fun b hb e => by have := Option.some.inj e; omega)) hpos
      injection hpe with hpe
      injection hpe with e1 e2
      subst e1
      subst e2
      have z0 := hcc 0 hpos
      rw [Nat.add_zero, HY.out] at z0
      clear hcc
      go_simp
      first | done | with_reducible rfl
    (try simp only [Act.put, List.setIfInBounds_toArray, List.set_cons_zero, List.set_cons_succ])
    refine wpAnyH_take (i := 4) (oi := { dst := some 19, op := Op.fieldAddr 33 (Operand.tmp 1) 0, type := 0, pos := "stack.go:131", after := #[], guard := none }) (v := ?_) rfl (by kernel_rfl) (by kernel_rfl) (by kernel_rfl) (fun _ _ _ h => h) (Or.inl ⟨by rfl, ?_⟩) hHeld ?_
    rotate_left 1
    · intro u hSu
      obtain ⟨c0, c1, c2, c3, c4, c5, c6, c7, c8, c9, c10⟩ := fr_facts (kept_row B1.out.box hSu.out (by intro e; have := Option.some.inj e; omega))
      obtain ⟨b2, o2, hpe, -, hcc⟩ := rdi_cells (HRO.out.grown hSu.out (fun b hb e => by have := Option.some.inj e; omega)) hpos
      injection hpe with hpe
      injection hpe with e1 e2
      subst e1
      subst e2
      have z0 := hcc 0 hpos
      rw [Nat.add_zero, HY.out] at z0
      clear hcc
      go_simp
      first | done | with_reducible rfl
    (try simp only [Act.put, List.setIfInBounds_toArray, List.set_cons_zero, List.set_cons_succ])
    refine wpAnyH_take (i := 5) (oi := { dst := some 20, op := Op.load 22 (Operand.tmp 19), type := 22, pos := "stack.go:131", after := #[{ on := 4, ground := Ground.data }], guard := none }) (v := ?_) rfl (by kernel_rfl) (by kernel_rfl) (by kernel_rfl) (fun _ _ _ h => h) (Or.inl ⟨by rfl, ?_⟩) hHeld ?_
    rotate_left 1
    · intro u hSu
      obtain ⟨c0, c1, c2, c3, c4, c5, c6, c7, c8, c9, c10⟩ := fr_facts (kept_row B1.out.box hSu.out (by intro e; have := Option.some.inj e; omega))
      obtain ⟨b2, o2, hpe, -, hcc⟩ := rdi_cells (HRO.out.grown hSu.out (fun b hb e => by have := Option.some.inj e; omega)) hpos
      injection hpe with hpe
      injection hpe with e1 e2
      subst e1
      subst e2
      have z0 := hcc 0 hpos
      rw [Nat.add_zero, HY.out] at z0
      clear hcc
      go_simp
      first | done | with_reducible rfl
    (try simp only [Act.put, List.setIfInBounds_toArray, List.set_cons_zero, List.set_cons_succ])
    refine wpAnyH_take (i := 6) (oi := { dst := some 21, op := Op.slice 22 (Operand.tmp 20) (some (Operand.const (Value.int IntKind.i64 1))) none none, type := 22, pos := "stack.go:131", after := #[{ on := 5, ground := Ground.data }], guard := none }) (v := ?_) rfl (by kernel_rfl) (by kernel_rfl) (by kernel_rfl) (fun _ _ _ h => h) (Or.inl ⟨by rfl, ?_⟩) hHeld ?_
    rotate_left 1
    · intro u hSu
      obtain ⟨c0, c1, c2, c3, c4, c5, c6, c7, c8, c9, c10⟩ := fr_facts (kept_row B1.out.box hSu.out (by intro e; have := Option.some.inj e; omega))
      obtain ⟨b2, o2, hpe, -, hcc⟩ := rdi_cells (HRO.out.grown hSu.out (fun b hb e => by have := Option.some.inj e; omega)) hpos
      injection hpe with hpe
      injection hpe with e1 e2
      subst e1
      subst e2
      have z0 := hcc 0 hpos
      rw [Nat.add_zero, HY.out] at z0
      clear hcc
      go_simp
      first | done | with_reducible rfl
    (try simp only [Act.put, List.setIfInBounds_toArray, List.set_cons_zero, List.set_cons_succ])
    refine wpAnyH_take (i := 8) (oi := { dst := some 23, op := Op.fieldAddr 33 (Operand.tmp 1) 1, type := 0, pos := "stack.go:131", after := #[{ on := 11, ground := Ground.gcOnly Departure.lateStores }], guard := none }) (v := ?_) rfl (by kernel_rfl) (by kernel_rfl) (by kernel_rfl) (fun _ _ _ h => h) (Or.inl ⟨by rfl, ?_⟩) hHeld ?_
    rotate_left 1
    · intro u hSu
      obtain ⟨c0, c1, c2, c3, c4, c5, c6, c7, c8, c9, c10⟩ := fr_facts (kept_row B1.out.box hSu.out (by intro e; have := Option.some.inj e; omega))
      obtain ⟨b2, o2, hpe, -, hcc⟩ := rdi_cells (HRO.out.grown hSu.out (fun b hb e => by have := Option.some.inj e; omega)) hpos
      injection hpe with hpe
      injection hpe with e1 e2
      subst e1
      subst e2
      have z0 := hcc 0 hpos
      rw [Nat.add_zero, HY.out] at z0
      clear hcc
      go_simp
      first | done | with_reducible rfl
    (try simp only [Act.put, List.setIfInBounds_toArray, List.set_cons_zero, List.set_cons_succ])
    refine wpAnyH_take (i := 9) (oi := { dst := some 24, op := Op.load 31 (Operand.tmp 23), type := 31, pos := "stack.go:131", after := #[{ on := 8, ground := Ground.data }, { on := 11, ground := Ground.gcOnly Departure.lateStores }], guard := none }) (v := ?_) rfl (by kernel_rfl) (by kernel_rfl) (by kernel_rfl) (fun _ _ _ h => h) (Or.inl ⟨by rfl, ?_⟩) hHeld ?_
    rotate_left 1
    · intro u hSu
      obtain ⟨c0, c1, c2, c3, c4, c5, c6, c7, c8, c9, c10⟩ := fr_facts (kept_row B1.out.box hSu.out (by intro e; have := Option.some.inj e; omega))
      obtain ⟨b2, o2, hpe, -, hcc⟩ := rdi_cells (HRO.out.grown hSu.out (fun b hb e => by have := Option.some.inj e; omega)) hpos
      injection hpe with hpe
      injection hpe with e1 e2
      subst e1
      subst e2
      have z0 := hcc 0 hpos
      rw [Nat.add_zero, HY.out] at z0
      clear hcc
      go_simp
      first | done | with_reducible rfl
    (try simp only [Act.put, List.setIfInBounds_toArray, List.set_cons_zero, List.set_cons_succ])
    refine wpAnyH_ready (rs := [7]) (by kernel_rfl) (by simp) ?_
    refine AllReadyH.cons (o := { dst := some 22, op := Op.call { callee := Callee.value (Operand.func 42), args := #[Operand.tmp 21], argTypes := #[22] }, type := 22, pos := "stack.go:131", after := #[{ on := 6, ground := Ground.data }], guard := none }) rfl (fun K hK => ?_) AllReadyH.nil
    go_simp
    go_at_call 42
    refine (CL.out _ (HRD.out.keep (grown_drew (grown_refl w1 none)))).mono ?_
    rintro e w3 ⟨v3, rfl, ho, hap⟩
    obtain ⟨p3, c3, rfl, hr3, hl3, hm3, hn3⟩ := ownret_rd ho
    refine hK.out _ _ (Lib.hid (grown_trans hHeld.out (grown_none hap _))) (fun hH2 => ?_)
    clear hK K hHeld
    have hHeld := hH2
    clear hH2
    (try simp only [Act.put, List.setIfInBounds_toArray, List.set_cons_zero, List.set_cons_succ])
    refine wpAnyH_take (i := 10) (oi := { dst := some 25, op := Op.build 33 #[(0, Operand.tmp 22), (1, Operand.tmp 24)], type := 33, pos := "stack.go:131", after := #[{ on := 7, ground := Ground.data }, { on := 9, ground := Ground.data }, { on := 11, ground := Ground.gcOnly Departure.lateStores }], guard := none }) (v := ?_) rfl (by kernel_rfl) (by kernel_rfl) (by kernel_rfl) (fun _ _ _ h => h) (Or.inl ⟨by rfl, ?_⟩) hHeld ?_
    rotate_left 1
    · intro u hSu
      obtain ⟨c0, c1, c2, c3, c4, c5, c6, c7, c8, c9, c10⟩ := fr_facts (kept_row B1.out.box hSu.out (by intro e; have := Option.some.inj e; omega))
      obtain ⟨b2, o2, hpe, -, hcc⟩ := rdi_cells (HRO.out.grown hSu.out (fun b hb e => by have := Option.some.inj e; omega)) hpos
      injection hpe with hpe
      injection hpe with e1 e2
      subst e1
      subst e2
      have z0 := hcc 0 hpos
      rw [Nat.add_zero, HY.out] at z0
      clear hcc
      go_simp
      first | done | with_reducible rfl
    (try simp only [Act.put, List.setIfInBounds_toArray, List.set_cons_zero, List.set_cons_succ])
    refine wpAnyH_take (i := 11) (oi := { dst := some 2, op := Op.assign (Operand.tmp 18), type := 3, pos := "stack.go:131", after := #[{ on := 3, ground := Ground.data }, { on := 7, ground := Ground.chain }, { on := 0, ground := Ground.phase }, { on := 1, ground := Ground.phase }, { on := 2, ground := Ground.phase }, { on := 3, ground := Ground.phase }, { on := 4, ground := Ground.textOnly Departure.lateStores }, { on := 5, ground := Ground.textOnly Departure.lateStores }, { on := 6, ground := Ground.textOnly Departure.lateStoresUnsure }, { on := 7, ground := Ground.textOnly Departure.lateStoresUnsure }, { on := 8, ground := Ground.textOnly Departure.lateStores }, { on := 9, ground := Ground.textOnly Departure.lateStores }, { on := 10, ground := Ground.textOnly Departure.lateStores }], guard := none }) (v := ?_) rfl (by kernel_rfl) (by kernel_rfl) (by kernel_rfl) (fun _ _ _ h => h) (Or.inl ⟨by rfl, ?_⟩) hHeld ?_
    rotate_left 1
    · intro u hSu
      obtain ⟨c0, c1, c2, c3, c4, c5, c6, c7, c8, c9, c10⟩ := fr_facts (kept_row B1.out.box hSu.out (by intro e; have := Option.some.inj e; omega))
      obtain ⟨b2, o2, hpe, -, hcc⟩ := rdi_cells (HRO.out.grown hSu.out (fun b hb e => by have := Option.some.inj e; omega)) hpos
      injection hpe with hpe
      injection hpe with e1 e2
      subst e1
      subst e2
      have z0 := hcc 0 hpos
      rw [Nat.add_zero, HY.out] at z0
      clear hcc
      go_simp
      first | done | with_reducible rfl
    (try simp only [Act.put, List.setIfInBounds_toArray, List.set_cons_zero, List.set_cons_succ])
    refine wpAnyH_ready (rs := [12]) (by kernel_rfl) (by simp) ?_
    refine AllReadyH.cons (o := { dst := none, op := Op.store 33 (Operand.tmp 3) (Operand.tmp 25), type := 0, pos := "stack.go:131", after := #[{ on := 10, ground := Ground.data }, { on := 11, ground := Ground.chain }, { on := 0, ground := Ground.phase }, { on := 1, ground := Ground.phase }, { on := 2, ground := Ground.phase }, { on := 3, ground := Ground.phase }, { on := 4, ground := Ground.phase }, { on := 5, ground := Ground.phase }, { on := 6, ground := Ground.phase }, { on := 7, ground := Ground.phase }, { on := 8, ground := Ground.phase }, { on := 9, ground := Ground.phase }, { on := 10, ground := Ground.phase }, { on := 11, ground := Ground.phase }], guard := none }) rfl (fun K hK => ?_) AllReadyH.nil
    have BW := Lib.hid ((B1.out.keep (grown_drew (grown_refl w1 none))).keep hap)
    obtain ⟨⟨d0, d1, d2, d3, d4, d5, d6, d7, d8, d9, d10⟩, f0, f1, f2, f3, f4, f5, f6, f7, f8, f9, f10⟩ := zfr_facts BW.out.res
    go_simp
    refine hK.out _ _ (Lib.hid (grown_trans hHeld.out (fput_grown _ (w.heap.size + 1) _ _ _ _ _ _ _ _ _ _ _))) (fun hH2 => ?_)
    clear hK K hHeld
    have hHeld := hH2
    clear hH2
    (try simp only [Act.put, List.setIfInBounds_toArray, List.set_cons_zero, List.set_cons_succ])
    refine wpAnyH_take (i := 13) (oi := { dst := some 4, op := Op.assign (Operand.const (Value.bool true)), type := 4, pos := "stack.go:131", after := #[{ on := 12, ground := Ground.chain }, { on := 0, ground := Ground.phase }, { on := 1, ground := Ground.phase }, { on := 2, ground := Ground.phase }, { on := 3, ground := Ground.phase }, { on := 4, ground := Ground.phase }, { on := 5, ground := Ground.phase }, { on := 6, ground := Ground.phase }, { on := 7, ground := Ground.phase }, { on := 8, ground := Ground.phase }, { on := 9, ground := Ground.phase }, { on := 10, ground := Ground.phase }, { on := 11, ground := Ground.phase }, { on := 12, ground := Ground.phase }], guard := none }) (v := ?_) rfl (by kernel_rfl) (by kernel_rfl) (by kernel_rfl) (fun _ _ _ h => h) (Or.inl ⟨by rfl, ?_⟩) hHeld ?_
    rotate_left 1
    · intro u hSu
      obtain ⟨c0, c1, c2, c3, c4, c5, c6, c7, c8, c9, c10⟩ := fr_facts (kept_row B1.out.box hSu.out (by intro e; have := Option.some.inj e; omega))
      obtain ⟨b2, o2, hpe, -, hcc⟩ := rdi_cells (HRO.out.grown hSu.out (fun b hb e => by have := Option.some.inj e; omega)) hpos
      injection hpe with hpe
      injection hpe with e1 e2
      subst e1
      subst e2
      have z0 := hcc 0 hpos
      rw [Nat.add_zero, HY.out] at z0
      clear hcc
      go_simp
      first | done | with_reducible rfl
    (try simp only [Act.put, List.setIfInBounds_toArray, List.set_cons_zero, List.set_cons_succ])
    refine wpAnyH_done (by kernel_rfl) ?_ _
    have HE := Lib.hid (BW.out.put (.slice p3 0 c3) (.int .i64 P.mode) (.int .i64 P.sub) (.int .i64 P.set) (.int .i64 P.len) (.int .i64 P.ttl) (.int .i64 P.ent) (.int .i64 P.ing) (.int .i64 P.pro) (.int .u64 (P.bits : Int)) (.string P.pay))
    have HRR := Lib.hid (show Rd _ (fun _ => True) _ _ from (hr3.grown (fput_grown w3 (w.heap.size + 1) (.slice p3 0 c3) (.int .i64 P.mode) (.int .i64 P.sub) (.int .i64 P.set) (.int .i64 P.len) (.int .i64 P.ttl) (.int .i64 P.ent) (.int .i64 P.ing) (.int .i64 P.pro) (.int .u64 (P.bits : Int)) (.string P.pay)) (fun b hb e => by have e2 := Option.some.inj e; have hb2 : w1.heap.size ≤ b := hb; omega)).mono (fun _ _ => trivial))
    go_wp2_with fail
    refine bodyPost_ret (res_tct rfl _ _ (w.heap.size + 1) _ rfl rfl HE.out.1) rfl ?_
    rw [HV2.out]
    exact ⟨p3, c3, rfl, HRR.out, hl3, hm3, HE.out.2⟩

  · have HRD : Hid (Rd w1 (fun _ => True) (.slice (some ⟨b, off + 1, none⟩) D.length (c - 1)) (D.map iv)) := Lib.hid (by
      rw [HD.out]
      exact (rdi_drop1 HR1.out _).mono (fun _ _ => trivial))
    have CL := Lib.hid (fun (wx : World) (h : Rd wx (fun _ => True) (.slice (some ⟨b, off + 1, none⟩) D.length (c - 1)) (D.map iv)) => sclone_any D (some ⟨b, off + 1, none⟩) (c - 1) _ wx h (fun e => by cases e) (by rw [HDL.out]; omega) (by rw [HDL.out]; omega))
    rw [HDL.out] at HRD CL
    have ec : ((c : Int) - 1) = ((c - 1 : Nat) : Int) := by omega
    clear ec
    refine wp_region_held_drew (S := fun w' => Hid (w1.grownBy w' (some (w.heap.size + 1)))) (by kernel_rfl) (Lib.hid (grown_none (grown_drew (grown_refl w1 none)) _)) (fun hHeld => ?_)
    refine wpAnyH_take (i := 0) (oi := { dst := some 15, op := Op.fieldAddr 33 (Operand.tmp 1) 0, type := 0, pos := "stack.go:131", after := #[], guard := none }) (v := ?_) rfl (by kernel_rfl) (by kernel_rfl) (by kernel_rfl) (fun _ _ _ h => h) (Or.inl ⟨by rfl, ?_⟩) hHeld ?_
    rotate_left 1
    · intro u hSu
      obtain ⟨c0, c1, c2, c3, c4, c5, c6, c7, c8, c9, c10⟩ := fr_facts (kept_row B1.out.box hSu.out (by intro e; have := Option.some.inj e; omega))
      obtain ⟨b2, o2, hpe, -, hcc⟩ := rdi_cells (HRO.out.grown hSu.out (fun b hb e => by have := Option.some.inj e; omega)) hpos
      injection hpe with hpe
      injection hpe with e1 e2
      subst e1
      subst e2
      have z0 := hcc 0 hpos
      rw [Nat.add_zero, HY.out] at z0
      clear hcc
      go_simp
      first | done | with_reducible rfl
    (try simp only [Act.put, List.setIfInBounds_toArray, List.set_cons_zero, List.set_cons_succ])
    refine wpAnyH_take (i := 1) (oi := { dst := some 16, op := Op.load 22 (Operand.tmp 15), type := 22, pos := "stack.go:131", after := #[{ on := 0, ground := Ground.data }], guard := none }) (v := ?_) rfl (by kernel_rfl) (by kernel_rfl) (by kernel_rfl) (fun _ _ _ h => h) (Or.inl ⟨by rfl, ?_⟩) hHeld ?_
    rotate_left 1
    · intro u hSu
      obtain ⟨c0, c1, c2, c3, c4, c5, c6, c7, c8, c9, c10⟩ := fr_facts (kept_row B1.out.box hSu.out (by intro e; have := Option.some.inj e; omega))
      obtain ⟨b2, o2, hpe, -, hcc⟩ := rdi_cells (HRO.out.grown hSu.out (fun b hb e => by have := Option.some.inj e; omega)) hpos
      injection hpe with hpe
      injection hpe with e1 e2
      subst e1
      subst e2
      have z0 := hcc 0 hpos
      rw [Nat.add_zero, HY.out] at z0
      clear hcc
      go_simp
      first | done | with_reducible rfl
    (try simp only [Act.put, List.setIfInBounds_toArray, List.set_cons_zero, List.set_cons_succ])
    refine wpAnyH_take (i := 2) (oi := { dst := some 17, op := Op.indexAddr 22 (Operand.tmp 16) (Operand.const (Value.int IntKind.i64 0)), type := 0, pos := "stack.go:131", after := #[{ on := 1, ground := Ground.data }], guard := none }) (v := ?_) rfl (by kernel_rfl) (by kernel_rfl) (by kernel_rfl) (fun _ _ _ h => h) (Or.inl ⟨by rfl, ?_⟩) hHeld ?_
    rotate_left 1
    · intro u hSu
      obtain ⟨c0, c1, c2, c3, c4, c5, c6, c7, c8, c9, c10⟩ := fr_facts (kept_row B1.out.box hSu.out (by intro e; have := Option.some.inj e; omega))
      obtain ⟨b2, o2, hpe, -, hcc⟩ := rdi_cells (HRO.out.grown hSu.out (fun b hb e => by have := Option.some.inj e; omega)) hpos
      injection hpe with hpe
      injection hpe with e1 e2
      subst e1
      subst e2
      have z0 := hcc 0 hpos
      rw [Nat.add_zero, HY.out] at z0
      clear hcc
      go_simp
      first | done | with_reducible rfl
    (try simp only [Act.put, List.setIfInBounds_toArray, List.set_cons_zero, List.set_cons_succ])
    refine wpAnyH_take (i := 3) (oi := { dst := some 18, op := Op.load 3 (Operand.tmp 17), type := 3, pos := "stack.go:131", after := #[{ on := 2, ground := Ground.data }], guard := none }) (v := ?_) rfl (by kernel_rfl) (by kernel_rfl) (by kernel_rfl) (fun _ _ _ h => h) (Or.inl ⟨by rfl, ?_⟩) hHeld ?_
    rotate_left 1
    · intro u hSu
      obtain ⟨c0, c1, c2, c3, c4, c5, c6, c7, c8, c9, c10⟩ := fr_facts (kept_row B1.out.box hSu.out (by intro e; have := Option.some.inj e; omega))
      obtain ⟨b2, o2, hpe, -, hcc⟩ := rdi_cells (HRO.out.grown hSu.out (fun b hb e => by have := Option.some.inj e; omega)) hpos
      injection hpe with hpe
      injection hpe with e1 e2
      subst e1
      subst e2
      have z0 := hcc 0 hpos
      rw [Nat.add_zero, HY.out] at z0
      clear hcc
      go_simp
      first | done | with_reducible rfl
    (try simp only [Act.put, List.setIfInBounds_toArray, List.set_cons_zero, List.set_cons_succ])
    refine wpAnyH_take (i := 4) (oi := { dst := some 19, op := Op.fieldAddr 33 (Operand.tmp 1) 0, type := 0, pos := "stack.go:131", after := #[], guard := none }) (v := ?_) rfl (by kernel_rfl) (by kernel_rfl) (by kernel_rfl) (fun _ _ _ h => h) (Or.inl ⟨by rfl, ?_⟩) hHeld ?_
    rotate_left 1
    · intro u hSu
      obtain ⟨c0, c1, c2, c3, c4, c5, c6, c7, c8, c9, c10⟩ := fr_facts (kept_row B1.out.box hSu.out (by intro e; have := Option.some.inj e; omega))
      obtain ⟨b2, o2, hpe, -, hcc⟩ := rdi_cells (HRO.out.grown hSu.out (fun b hb e => by have := Option.some.inj e; omega)) hpos
      injection hpe with hpe
      injection hpe with e1 e2
      subst e1
      subst e2
      have z0 := hcc 0 hpos
      rw [Nat.add_zero, HY.out] at z0
      clear hcc
      go_simp
      first | done | with_reducible rfl
    (try simp only [Act.put, List.setIfInBounds_toArray, List.set_cons_zero, List.set_cons_succ])
    refine wpAnyH_take (i := 5) (oi := { dst := some 20, op := Op.load 22 (Operand.tmp 19), type := 22, pos := "stack.go:131", after := #[{ on := 4, ground := Ground.data }], guard := none }) (v := ?_) rfl (by kernel_rfl) (by kernel_rfl) (by kernel_rfl) (fun _ _ _ h => h) (Or.inl ⟨by rfl, ?_⟩) hHeld ?_
    rotate_left 1
    · intro u hSu
      obtain ⟨c0, c1, c2, c3, c4, c5, c6, c7, c8, c9, c10⟩ := fr_facts (kept_row B1.out.box hSu.out (by intro e; have := Option.some.inj e; omega))
      obtain ⟨b2, o2, hpe, -, hcc⟩ := rdi_cells (HRO.out.grown hSu.out (fun b hb e => by have := Option.some.inj e; omega)) hpos
      injection hpe with hpe
      injection hpe with e1 e2
      subst e1
      subst e2
      have z0 := hcc 0 hpos
      rw [Nat.add_zero, HY.out] at z0
      clear hcc
      go_simp
      first | done | with_reducible rfl
    (try simp only [Act.put, List.setIfInBounds_toArray, List.set_cons_zero, List.set_cons_succ])
    refine wpAnyH_take (i := 6) (oi := { dst := some 21, op := Op.slice 22 (Operand.tmp 20) (some (Operand.const (Value.int IntKind.i64 1))) none none, type := 22, pos := "stack.go:131", after := #[{ on := 5, ground := Ground.data }], guard := none }) (v := ?_) rfl (by kernel_rfl) (by kernel_rfl) (by kernel_rfl) (fun _ _ _ h => h) (Or.inl ⟨by rfl, ?_⟩) hHeld ?_
    rotate_left 1
    · intro u hSu
      obtain ⟨c0, c1, c2, c3, c4, c5, c6, c7, c8, c9, c10⟩ := fr_facts (kept_row B1.out.box hSu.out (by intro e; have := Option.some.inj e; omega))
      obtain ⟨b2, o2, hpe, -, hcc⟩ := rdi_cells (HRO.out.grown hSu.out (fun b hb e => by have := Option.some.inj e; omega)) hpos
      injection hpe with hpe
      injection hpe with e1 e2
      subst e1
      subst e2
      have z0 := hcc 0 hpos
      rw [Nat.add_zero, HY.out] at z0
      clear hcc
      go_simp
      first | done | with_reducible rfl
    (try simp only [Act.put, List.setIfInBounds_toArray, List.set_cons_zero, List.set_cons_succ])
    refine wpAnyH_take (i := 8) (oi := { dst := some 23, op := Op.fieldAddr 33 (Operand.tmp 1) 1, type := 0, pos := "stack.go:131", after := #[{ on := 11, ground := Ground.gcOnly Departure.lateStores }], guard := none }) (v := ?_) rfl (by kernel_rfl) (by kernel_rfl) (by kernel_rfl) (fun _ _ _ h => h) (Or.inl ⟨by rfl, ?_⟩) hHeld ?_
    rotate_left 1
    · intro u hSu
      obtain ⟨c0, c1, c2, c3, c4, c5, c6, c7, c8, c9, c10⟩ := fr_facts (kept_row B1.out.box hSu.out (by intro e; have := Option.some.inj e; omega))
      obtain ⟨b2, o2, hpe, -, hcc⟩ := rdi_cells (HRO.out.grown hSu.out (fun b hb e => by have := Option.some.inj e; omega)) hpos
      injection hpe with hpe
      injection hpe with e1 e2
      subst e1
      subst e2
      have z0 := hcc 0 hpos
      rw [Nat.add_zero, HY.out] at z0
      clear hcc
      go_simp
      first | done | with_reducible rfl
    (try simp only [Act.put, List.setIfInBounds_toArray, List.set_cons_zero, List.set_cons_succ])
    refine wpAnyH_take (i := 9) (oi := { dst := some 24, op := Op.load 31 (Operand.tmp 23), type := 31, pos := "stack.go:131", after := #[{ on := 8, ground := Ground.data }, { on := 11, ground := Ground.gcOnly Departure.lateStores }], guard := none }) (v := ?_) rfl (by kernel_rfl) (by kernel_rfl) (by kernel_rfl) (fun _ _ _ h => h) (Or.inl ⟨by rfl, ?_⟩) hHeld ?_
    rotate_left 1
    · intro u hSu
      obtain ⟨c0, c1, c2, c3, c4, c5, c6, c7, c8, c9, c10⟩ := fr_facts (kept_row B1.out.box hSu.out (by intro e; have := Option.some.inj e; omega))
      obtain ⟨b2, o2, hpe, -, hcc⟩ := rdi_cells (HRO.out.grown hSu.out (fun b hb e => by have := Option.some.inj e; omega)) hpos
      injection hpe with hpe
      injection hpe with e1 e2
      subst e1
      subst e2
      have z0 := hcc 0 hpos
      rw [Nat.add_zero, HY.out] at z0
      clear hcc
      go_simp
      first | done | with_reducible rfl
    (try simp only [Act.put, List.setIfInBounds_toArray, List.set_cons_zero, List.set_cons_succ])
    refine wpAnyH_ready (rs := [7]) (by kernel_rfl) (by simp) ?_
    refine AllReadyH.cons (o := { dst := some 22, op := Op.call { callee := Callee.value (Operand.func 42), args := #[Operand.tmp 21], argTypes := #[22] }, type := 22, pos := "stack.go:131", after := #[{ on := 6, ground := Ground.data }], guard := none }) rfl (fun K hK => ?_) AllReadyH.nil
    go_simp
    go_at_call 42
    refine (CL.out _ (HRD.out.keep (grown_drew (grown_refl w1 none)))).mono ?_
    rintro e w3 ⟨v3, rfl, ho, hap⟩
    obtain ⟨p3, c3, rfl, hr3, hl3, hm3, hn3⟩ := ownret_rd ho
    refine hK.out _ _ (Lib.hid (grown_trans hHeld.out (grown_none hap _))) (fun hH2 => ?_)
    clear hK K hHeld
    have hHeld := hH2
    clear hH2
    (try simp only [Act.put, List.setIfInBounds_toArray, List.set_cons_zero, List.set_cons_succ])
    refine wpAnyH_take (i := 10) (oi := { dst := some 25, op := Op.build 33 #[(0, Operand.tmp 22), (1, Operand.tmp 24)], type := 33, pos := "stack.go:131", after := #[{ on := 7, ground := Ground.data }, { on := 9, ground := Ground.data }, { on := 11, ground := Ground.gcOnly Departure.lateStores }], guard := none }) (v := ?_) rfl (by kernel_rfl) (by kernel_rfl) (by kernel_rfl) (fun _ _ _ h => h) (Or.inl ⟨by rfl, ?_⟩) hHeld ?_
    rotate_left 1
    · intro u hSu
      obtain ⟨c0, c1, c2, c3, c4, c5, c6, c7, c8, c9, c10⟩ := fr_facts (kept_row B1.out.box hSu.out (by intro e; have := Option.some.inj e; omega))
      obtain ⟨b2, o2, hpe, -, hcc⟩ := rdi_cells (HRO.out.grown hSu.out (fun b hb e => by have := Option.some.inj e; omega)) hpos
      injection hpe with hpe
      injection hpe with e1 e2
      subst e1
      subst e2
      have z0 := hcc 0 hpos
      rw [Nat.add_zero, HY.out] at z0
      clear hcc
      go_simp
      first | done | with_reducible rfl
    (try simp only [Act.put, List.setIfInBounds_toArray, List.set_cons_zero, List.set_cons_succ])
    refine wpAnyH_take (i := 11) (oi := { dst := some 2, op := Op.assign (Operand.tmp 18), type := 3, pos := "stack.go:131", after := #[{ on := 3, ground := Ground.data }, { on := 7, ground := Ground.chain }, { on := 0, ground := Ground.phase }, { on := 1, ground := Ground.phase }, { on := 2, ground := Ground.phase }, { on := 3, ground := Ground.phase }, { on := 4, ground := Ground.textOnly Departure.lateStores }, { on := 5, ground := Ground.textOnly Departure.lateStores }, { on := 6, ground := Ground.textOnly Departure.lateStoresUnsure }, { on := 7, ground := Ground.textOnly Departure.lateStoresUnsure }, { on := 8, ground := Ground.textOnly Departure.lateStores }, { on := 9, ground := Ground.textOnly Departure.lateStores }, { on := 10, ground := Ground.textOnly Departure.lateStores }], guard := none }) (v := ?_) rfl (by kernel_rfl) (by kernel_rfl) (by kernel_rfl) (fun _ _ _ h => h) (Or.inl ⟨by rfl, ?_⟩) hHeld ?_
    rotate_left 1
    · intro u hSu
      obtain ⟨c0, c1, c2, c3, c4, c5, c6, c7, c8, c9, c10⟩ := fr_facts (kept_row B1.out.box hSu.out (by intro e; have := Option.some.inj e; omega))
      obtain ⟨b2, o2, hpe, -, hcc⟩ := rdi_cells (HRO.out.grown hSu.out (fun b hb e => by have := Option.some.inj e; omega)) hpos
      injection hpe with hpe
      injection hpe with e1 e2
      subst e1
      subst e2
      have z0 := hcc 0 hpos
      rw [Nat.add_zero, HY.out] at z0
      clear hcc
      go_simp
      first | done | with_reducible rfl
    (try simp only [Act.put, List.setIfInBounds_toArray, List.set_cons_zero, List.set_cons_succ])
    refine wpAnyH_ready (rs := [12]) (by kernel_rfl) (by simp) ?_
    refine AllReadyH.cons (o := { dst := none, op := Op.store 33 (Operand.tmp 3) (Operand.tmp 25), type := 0, pos := "stack.go:131", after := #[{ on := 10, ground := Ground.data }, { on := 11, ground := Ground.chain }, { on := 0, ground := Ground.phase }, { on := 1, ground := Ground.phase }, { on := 2, ground := Ground.phase }, { on := 3, ground := Ground.phase }, { on := 4, ground := Ground.phase }, { on := 5, ground := Ground.phase }, { on := 6, ground := Ground.phase }, { on := 7, ground := Ground.phase }, { on := 8, ground := Ground.phase }, { on := 9, ground := Ground.phase }, { on := 10, ground := Ground.phase }, { on := 11, ground := Ground.phase }], guard := none }) rfl (fun K hK => ?_) AllReadyH.nil
    have BW := Lib.hid ((B1.out.keep (grown_drew (grown_refl w1 none))).keep hap)
    obtain ⟨⟨d0, d1, d2, d3, d4, d5, d6, d7, d8, d9, d10⟩, f0, f1, f2, f3, f4, f5, f6, f7, f8, f9, f10⟩ := zfr_facts BW.out.res
    go_simp
    refine hK.out _ _ (Lib.hid (grown_trans hHeld.out (fput_grown _ (w.heap.size + 1) _ _ _ _ _ _ _ _ _ _ _))) (fun hH2 => ?_)
    clear hK K hHeld
    have hHeld := hH2
    clear hH2
    (try simp only [Act.put, List.setIfInBounds_toArray, List.set_cons_zero, List.set_cons_succ])
    refine wpAnyH_take (i := 13) (oi := { dst := some 4, op := Op.assign (Operand.const (Value.bool true)), type := 4, pos := "stack.go:131", after := #[{ on := 12, ground := Ground.chain }, { on := 0, ground := Ground.phase }, { on := 1, ground := Ground.phase }, { on := 2, ground := Ground.phase }, { on := 3, ground := Ground.phase }, { on := 4, ground := Ground.phase }, { on := 5, ground := Ground.phase }, { on := 6, ground := Ground.phase }, { on := 7, ground := Ground.phase }, { on := 8, ground := Ground.phase }, { on := 9, ground := Ground.phase }, { on := 10, ground := Ground.phase }, { on := 11, ground := Ground.phase }, { on := 12, ground := Ground.phase }], guard := none }) (v := ?_) rfl (by kernel_rfl) (by kernel_rfl) (by kernel_rfl) (fun _ _ _ h => h) (Or.inl ⟨by rfl, ?_⟩) hHeld ?_
    rotate_left 1
    · intro u hSu
      obtain ⟨c0, c1, c2, c3, c4, c5, c6, c7, c8, c9, c10⟩ := fr_facts (kept_row B1.out.box hSu.out (by intro e; have := Option.some.inj e; omega))
      obtain ⟨b2, o2, hpe, -, hcc⟩ := rdi_cells (HRO.out.grown hSu.out (fun b hb e => by have := Option.some.inj e; omega)) hpos
      injection hpe with hpe
      injection hpe with e1 e2
      subst e1
      subst e2
      have z0 := hcc 0 hpos
      rw [Nat.add_zero, HY.out] at z0
      clear hcc
      go_simp
      first | done | with_reducible rfl
    (try simp only [Act.put, List.setIfInBounds_toArray, List.set_cons_zero, List.set_cons_succ])
    refine wpAnyH_done (by kernel_rfl) ?_ _
    have HE := Lib.hid (BW.out.put (.slice p3 D.length c3) (.int .i64 P.mode) (.int .i64 P.sub) (.int .i64 P.set) (.int .i64 P.len) (.int .i64 P.ttl) (.int .i64 P.ent) (.int .i64 P.ing) (.int .i64 P.pro) (.int .u64 (P.bits : Int)) (.string P.pay))
    have HRR := Lib.hid (show Rd _ (fun _ => True) _ _ from (hr3.grown (fput_grown w3 (w.heap.size + 1) (.slice p3 D.length c3) (.int .i64 P.mode) (.int .i64 P.sub) (.int .i64 P.set) (.int .i64 P.len) (.int .i64 P.ttl) (.int .i64 P.ent) (.int .i64 P.ing) (.int .i64 P.pro) (.int .u64 (P.bits : Int)) (.string P.pay)) (fun b hb e => by have e2 := Option.some.inj e; have hb2 : w1.heap.size ≤ b := hb; omega)).mono (fun _ _ => trivial))
    go_wp2_with fail
    refine bodyPost_ret (res_tct rfl _ _ (w.heap.size + 1) _ rfl rfl HE.out.1) rfl ?_
    rw [HV2.out]
    exact ⟨p3, c3, rfl, HRR.out, hl3, hm3, HE.out.2⟩

end Go.Proofs.YtpabfjhjehjebaaDoor

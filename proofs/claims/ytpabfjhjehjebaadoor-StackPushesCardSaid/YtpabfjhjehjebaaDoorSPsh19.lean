/- Parts of the proof, packed: StPopR, StPushR, StFList, StSame, PkAwake. -/
import Derived.Test.YtpabfjhjehjebaaDoorSPsh18
import Derived.Test.YtpabfjhjehjebaaDoorSPsh14
import Derived.Test.YtpabfjhjehjebaaDoorSPsh15
import Derived.Test.YtpabfjhjehjebaaDoorSPsh11
import Derived.Test.YtpabfjhjehjebaaDoorSPsh9
import Derived.Test.YtpabfjhjehjebaaDoorSPsh7
import Derived.Test.YtpabfjhjehjebaaDoorSPsh8
import Derived.Test.YtpabfjhjehjebaaDoorSPsh10
/- stack: Pop of the reference. -/
namespace Go.Proofs.YtpabfjhjehjebaaDoor
open Go.RowKit Bs
set_option maxRecDepth 100000 in
set_option maxHeartbeats 6400000 in
theorem rpop_any (r : List Int) (P : Pk) (hP : P.Wf) (p : Option Addr) (c : Nat) (hc : r.length ≤ c ∧ c ≤ 9223372036854775807) (hn : p = none → c = 0) (q : Nat → Prop) (w : World) (hR : Rd w q (.slice p r.length c) (r.map iv)) :
    Calls Tryd.prog 19 #[fval (.slice p r.length c) P] w fun e w' => PPPost (popV r P) w e w' := by
  have hB := PB.start w (.slice p r.length c) P
  have HRO0 := Lib.hid ((rd_old hR).keep hB.gr)
  have HR := Lib.hid (hR.keep hB.gr)
  have HN := Lib.hid hn
  have HP := Lib.hid hP
  have HC := Lib.hid hc
  have B0 := Lib.hid hB
  have hfv : fval (.slice p r.length c) P = .agg #[.slice p r.length c, .int .i64 P.mode, .int .i64 P.sub, .int .i64 P.set, .int .i64 P.len, .int .i64 P.ttl, .int .i64 P.ent, .int .i64 P.ing, .int .i64 P.pro, .int .u64 (P.bits : Int), .string P.pay] := rfl
  rw [hfv]
  clear hR hn hP hc hB hfv
  go_enter Tryd.func19, Tryd.ntmps19
  go_upto_region 1 with fail
  change Hid (PB w (.slice p r.length c) P ((w.alloc (.cells #[.slice p r.length c, .int .i64 P.mode, .int .i64 P.sub, .int .i64 P.set, .int .i64 P.len, .int .i64 P.ttl, .int .i64 P.ent, .int .i64 P.ing, .int .i64 P.pro, .int .u64 (P.bits : Int), .string P.pay] 33)).alloc (.cells #[.slice none 0 0, .int .i64 0, .int .i64 0, .int .i64 0, .int .i64 0, .int .i64 0, .int .i64 0, .int .i64 0, .int .i64 0, .int .u64 0, .string ⟨#[]⟩] 33))) at B0
  change Hid (Rd ((w.alloc (.cells #[.slice p r.length c, .int .i64 P.mode, .int .i64 P.sub, .int .i64 P.set, .int .i64 P.len, .int .i64 P.ttl, .int .i64 P.ent, .int .i64 P.ing, .int .i64 P.pro, .int .u64 (P.bits : Int), .string P.pay] 33)).alloc (.cells #[.slice none 0 0, .int .i64 0, .int .i64 0, .int .i64 0, .int .i64 0, .int .i64 0, .int .i64 0, .int .i64 0, .int .i64 0, .int .u64 0, .string ⟨#[]⟩] 33)) q _ _) at HR
  change Hid (Rd ((w.alloc (.cells #[.slice p r.length c, .int .i64 P.mode, .int .i64 P.sub, .int .i64 P.set, .int .i64 P.len, .int .i64 P.ttl, .int .i64 P.ent, .int .i64 P.ing, .int .i64 P.pro, .int .u64 (P.bits : Int), .string P.pay] 33)).alloc (.cells #[.slice none 0 0, .int .i64 0, .int .i64 0, .int .i64 0, .int .i64 0, .int .i64 0, .int .i64 0, .int .i64 0, .int .i64 0, .int .u64 0, .string ⟨#[]⟩] 33)) _ _ _) at HRO0
  generalize (w.alloc _).alloc _ = wa at *
  obtain ⟨c0, c1, c2, c3, c4, c5, c6, c7, c8, c9, c10⟩ := fr_facts B0.out.box
  have hlt0 := B0.out.res.lt
  have C : Calls Tryd.prog 20 #[.agg #[.slice p r.length c, .int .i64 P.mode, .int .i64 P.sub, .int .i64 P.set, .int .i64 P.len, .int .i64 P.ttl, .int .i64 P.ent, .int .i64 P.ing, .int .i64 P.pro, .int .u64 (P.bits : Int), .string P.pay]] wa fun e w' => e = .returned (.bool (vfr r P)) ∧ wa.grownBy w' none := rvfr_any r P HP.out p c (Nat.le_trans HC.out.1 HC.out.2) q wa HR.out
  go_wp2_with fail
  refine C.mono ?_
  clear C
  rintro e w1 ⟨rfl, hg⟩
  have B1 := Lib.hid (B0.out.keep hg)
  have HR1 := Lib.hid (HR.out.keep hg)
  have HRO := Lib.hid (HRO0.out.keep hg)
  clear hg B0 HR HRO0 c0 c1 c2 c3 c4 c5 c6 c7 c8 c9 c10
  obtain ⟨c0, c1, c2, c3, c4, c5, c6, c7, c8, c9, c10⟩ := fr_facts B1.out.box
  obtain ⟨⟨d0, d1, d2, d3, d4, d5, d6, d7, d8, d9, d10⟩, f0, f1, f2, f3, f4, f5, f6, f7, f8, f9, f10⟩ := zfr_facts B1.out.res
  cases hv : vfr r P
  · have HE := Lib.hid (B1.out.none_ (V := popV r P) (by unfold popV; rw [if_neg (by rw [hv]; simp)]))
    clear hv
    go_wp2_with fail
    refine bodyPost_ret (res_tct rfl _ _ (w.heap.size + 1) zfr rfl rfl HE.out.1) rfl ?_
    exact HE.out.2
  have HV := Lib.hid hv
  obtain ⟨h24, -, -, -⟩ := vfr_parts hv
  clear hv
  by_cases h0 : r.length = 0
  · have HE := Lib.hid (B1.out.none_ (V := popV r P) (by unfold popV; rw [if_neg (by intro h; exact h.2 h0)]))
    go_wp2_with fail
    refine bodyPost_ret (res_tct rfl _ _ (w.heap.size + 1) zfr rfl rfl HE.out.1) rfl ?_
    exact HE.out.2
  have hpos : 0 < r.length := by omega
  have hl0 : ((r.length : Int) == 0) = false := by simp; intro e; exact h0 (by rw [e]; rfl)
  have HV2 := Lib.hid (show popV r P = _ by unfold popV; rw [if_pos ⟨HV.out, h0⟩])
  obtain ⟨b, off, hpb, hq, -⟩ := rdi_cells HR1.out hpos
  subst hpb
  have hcc := HC.out.1
  have hcm := HC.out.2
  have i1 : (1 : Int) ≤ (r.length : Int) := by omega
  have i2 : (1 : Int) ≤ (c : Int) := by omega
  have i3 : (r.length : Int) ≤ (c : Int) := by omega
  have hlt1 := B1.out.res.lt
  obtain ⟨y, hy⟩ : ∃ y, r.getD 0 0 = y := ⟨_, rfl⟩
  rw [hy] at HV2
  have HY := Lib.hid hy
  clear h0 hy
  go_upto_region 3 with fail
  clear c0 c1 c2 c3 c4 c5 c6 c7 c8 c9 c10 d0 d1 d2 d3 d4 d5 d6 d7 d8 d9 d10 f0 f1 f2 f3 f4 f5 f6 f7 f8 f9 f10
  obtain ⟨D, hD⟩ : ∃ D, D = r.drop 1 := ⟨_, rfl⟩
  have hDl : D.length = r.length - 1 := by rw [hD, List.length_drop]
  have HDL := Lib.hid hDl
  have HD := Lib.hid hD
  rw [← hD] at HV2
  clear hD hDl
  by_cases hc1 : c = 1
  · subst hc1
    obtain rfl : D = [] := List.eq_nil_of_length_eq_zero (by rw [HDL.out]; omega)
    have HRD : Hid (Rd w1 (· < w.heap.size) (.slice (some ⟨b, off, none⟩) 0 0) []) := Lib.hid (Rd.nil_ _ _ _ _)
    have hr1 : r.length = 1 := by omega
    refine wp_region_held_drew (S := fun w' => Hid (w1.grownBy w' (some (w.heap.size + 1)))) (by kernel_rfl) (Lib.hid (grown_none (grown_drew (grown_refl w1 none)) _)) (fun hHeld => ?_)
    refine wpAnyH_take (i := 0) (oi := { dst := some 15, op := Op.fieldAddr 33 (Operand.tmp 1) 0, type := 0, pos := "ref.go:155", after := #[], guard := none }) (v := ?_) rfl (by kernel_rfl) (by kernel_rfl) (by kernel_rfl) (fun _ _ _ h => h) (Or.inl ⟨by rfl, ?_⟩) hHeld ?_
    rotate_left 1
    · intro u hSu
      obtain ⟨c0, c1, c2, c3, c4, c5, c6, c7, c8, c9, c10⟩ := fr_facts (kept_row B1.out.box hSu.out (by intro e; have := Option.some.inj e; omega))
      obtain ⟨b2, o2, hpe, -, hcc⟩ := rdi_cells (HRO.out.grown hSu.out (fun b hb e => by have := Option.some.inj e; omega)) hpos
      injection hpe with hpe
      injection hpe with e1 e2
      subst e1
      subst e2
      have z0 := hcc 0 hpos
      rw [Nat.add_zero, HY.out] at z0
      clear hcc
      go_simp
      first | done | with_reducible rfl
    (try simp only [Act.put, List.setIfInBounds_toArray, List.set_cons_zero, List.set_cons_succ])
    refine wpAnyH_take (i := 1) (oi := { dst := some 16, op := Op.load 22 (Operand.tmp 15), type := 22, pos := "ref.go:155", after := #[{ on := 0, ground := Ground.data }], guard := none }) (v := ?_) rfl (by kernel_rfl) (by kernel_rfl) (by kernel_rfl) (fun _ _ _ h => h) (Or.inl ⟨by rfl, ?_⟩) hHeld ?_
    rotate_left 1
    · intro u hSu
      obtain ⟨c0, c1, c2, c3, c4, c5, c6, c7, c8, c9, c10⟩ := fr_facts (kept_row B1.out.box hSu.out (by intro e; have := Option.some.inj e; omega))
      obtain ⟨b2, o2, hpe, -, hcc⟩ := rdi_cells (HRO.out.grown hSu.out (fun b hb e => by have := Option.some.inj e; omega)) hpos
      injection hpe with hpe
      injection hpe with e1 e2
      subst e1
      subst e2
      have z0 := hcc 0 hpos
      rw [Nat.add_zero, HY.out] at z0
      clear hcc
      go_simp
      first | done | with_reducible rfl
    (try simp only [Act.put, List.setIfInBounds_toArray, List.set_cons_zero, List.set_cons_succ])
    refine wpAnyH_take (i := 2) (oi := { dst := some 17, op := Op.indexAddr 22 (Operand.tmp 16) (Operand.const (Value.int IntKind.i64 0)), type := 0, pos := "ref.go:155", after := #[{ on := 1, ground := Ground.data }], guard := none }) (v := ?_) rfl (by kernel_rfl) (by kernel_rfl) (by kernel_rfl) (fun _ _ _ h => h) (Or.inl ⟨by rfl, ?_⟩) hHeld ?_
    rotate_left 1
    · intro u hSu
      obtain ⟨c0, c1, c2, c3, c4, c5, c6, c7, c8, c9, c10⟩ := fr_facts (kept_row B1.out.box hSu.out (by intro e; have := Option.some.inj e; omega))
      obtain ⟨b2, o2, hpe, -, hcc⟩ := rdi_cells (HRO.out.grown hSu.out (fun b hb e => by have := Option.some.inj e; omega)) hpos
      injection hpe with hpe
      injection hpe with e1 e2
      subst e1
      subst e2
      have z0 := hcc 0 hpos
      rw [Nat.add_zero, HY.out] at z0
      clear hcc
      go_simp
      first | done | with_reducible rfl
    (try simp only [Act.put, List.setIfInBounds_toArray, List.set_cons_zero, List.set_cons_succ])
    refine wpAnyH_take (i := 3) (oi := { dst := some 18, op := Op.load 3 (Operand.tmp 17), type := 3, pos := "ref.go:155", after := #[{ on := 2, ground := Ground.data }], guard := none }) (v := ?_) rfl (by kernel_rfl) (by kernel_rfl) (by kernel_rfl) (fun _ _ _ h => h) (Or.inl ⟨by rfl, ?_⟩) hHeld ?_
    rotate_left 1
    · intro u hSu
      obtain ⟨c0, c1, c2, c3, c4, c5, c6, c7, c8, c9, c10⟩ := fr_facts (kept_row B1.out.box hSu.out (by intro e; have := Option.some.inj e; omega))
      obtain ⟨b2, o2, hpe, -, hcc⟩ := rdi_cells (HRO.out.grown hSu.out (fun b hb e => by have := Option.some.inj e; omega)) hpos
      injection hpe with hpe
      injection hpe with e1 e2
      subst e1
      subst e2
      have z0 := hcc 0 hpos
      rw [Nat.add_zero, HY.out] at z0
      clear hcc
      go_simp
      first | done | with_reducible rfl
    (try simp only [Act.put, List.setIfInBounds_toArray, List.set_cons_zero, List.set_cons_succ])
    refine wpAnyH_take (i := 4) (oi := { dst := some 19, op := Op.fieldAddr 33 (Operand.tmp 1) 0, type := 0, pos := "ref.go:155", after := #[], guard := none }) (v := ?_) rfl (by kernel_rfl) (by kernel_rfl) (by kernel_rfl) (fun _ _ _ h => h) (Or.inl ⟨by rfl, ?_⟩) hHeld ?_
    rotate_left 1
    · intro u hSu
      obtain ⟨c0, c1, c2, c3, c4, c5, c6, c7, c8, c9, c10⟩ := fr_facts (kept_row B1.out.box hSu.out (by intro e; have := Option.some.inj e; omega))
      obtain ⟨b2, o2, hpe, -, hcc⟩ := rdi_cells (HRO.out.grown hSu.out (fun b hb e => by have := Option.some.inj e; omega)) hpos
      injection hpe with hpe
      injection hpe with e1 e2
      subst e1
      subst e2
      have z0 := hcc 0 hpos
      rw [Nat.add_zero, HY.out] at z0
      clear hcc
      go_simp
      first | done | with_reducible rfl
    (try simp only [Act.put, List.setIfInBounds_toArray, List.set_cons_zero, List.set_cons_succ])
    refine wpAnyH_take (i := 5) (oi := { dst := some 20, op := Op.load 22 (Operand.tmp 19), type := 22, pos := "ref.go:155", after := #[{ on := 4, ground := Ground.data }], guard := none }) (v := ?_) rfl (by kernel_rfl) (by kernel_rfl) (by kernel_rfl) (fun _ _ _ h => h) (Or.inl ⟨by rfl, ?_⟩) hHeld ?_
    rotate_left 1
    · intro u hSu
      obtain ⟨c0, c1, c2, c3, c4, c5, c6, c7, c8, c9, c10⟩ := fr_facts (kept_row B1.out.box hSu.out (by intro e; have := Option.some.inj e; omega))
      obtain ⟨b2, o2, hpe, -, hcc⟩ := rdi_cells (HRO.out.grown hSu.out (fun b hb e => by have := Option.some.inj e; omega)) hpos
      injection hpe with hpe
      injection hpe with e1 e2
      subst e1
      subst e2
      have z0 := hcc 0 hpos
      rw [Nat.add_zero, HY.out] at z0
      clear hcc
      go_simp
      first | done | with_reducible rfl
    (try simp only [Act.put, List.setIfInBounds_toArray, List.set_cons_zero, List.set_cons_succ])
    refine wpAnyH_take (i := 6) (oi := { dst := some 21, op := Op.slice 22 (Operand.tmp 20) (some (Operand.const (Value.int IntKind.i64 1))) none none, type := 22, pos := "ref.go:155", after := #[{ on := 5, ground := Ground.data }], guard := none }) (v := ?_) rfl (by kernel_rfl) (by kernel_rfl) (by kernel_rfl) (fun _ _ _ h => h) (Or.inl ⟨by rfl, ?_⟩) hHeld ?_
    rotate_left 1
    · intro u hSu
      obtain ⟨c0, c1, c2, c3, c4, c5, c6, c7, c8, c9, c10⟩ := fr_facts (kept_row B1.out.box hSu.out (by intro e; have := Option.some.inj e; omega))
      obtain ⟨b2, o2, hpe, -, hcc⟩ := rdi_cells (HRO.out.grown hSu.out (fun b hb e => by have := Option.some.inj e; omega)) hpos
      injection hpe with hpe
      injection hpe with e1 e2
      subst e1
      subst e2
      have z0 := hcc 0 hpos
      rw [Nat.add_zero, HY.out] at z0
      clear hcc
      go_simp
      first | done | with_reducible rfl
    (try simp only [Act.put, List.setIfInBounds_toArray, List.set_cons_zero, List.set_cons_succ])
    refine wpAnyH_take (i := 7) (oi := { dst := some 22, op := Op.fieldAddr 33 (Operand.tmp 1) 1, type := 0, pos := "ref.go:155", after := #[{ on := 10, ground := Ground.gcOnly Departure.lateStores }], guard := none }) (v := ?_) rfl (by kernel_rfl) (by kernel_rfl) (by kernel_rfl) (fun _ _ _ h => h) (Or.inl ⟨by rfl, ?_⟩) hHeld ?_
    rotate_left 1
    · intro u hSu
      obtain ⟨c0, c1, c2, c3, c4, c5, c6, c7, c8, c9, c10⟩ := fr_facts (kept_row B1.out.box hSu.out (by intro e; have := Option.some.inj e; omega))
      obtain ⟨b2, o2, hpe, -, hcc⟩ := rdi_cells (HRO.out.grown hSu.out (fun b hb e => by have := Option.some.inj e; omega)) hpos
      injection hpe with hpe
      injection hpe with e1 e2
      subst e1
      subst e2
      have z0 := hcc 0 hpos
      rw [Nat.add_zero, HY.out] at z0
      clear hcc
      go_simp
      first | done | with_reducible rfl
    (try simp only [Act.put, List.setIfInBounds_toArray, List.set_cons_zero, List.set_cons_succ])
    refine wpAnyH_take (i := 8) (oi := { dst := some 23, op := Op.load 31 (Operand.tmp 22), type := 31, pos := "ref.go:155", after := #[{ on := 7, ground := Ground.data }, { on := 10, ground := Ground.gcOnly Departure.lateStores }], guard := none }) (v := ?_) rfl (by kernel_rfl) (by kernel_rfl) (by kernel_rfl) (fun _ _ _ h => h) (Or.inl ⟨by rfl, ?_⟩) hHeld ?_
    rotate_left 1
    · intro u hSu
      obtain ⟨c0, c1, c2, c3, c4, c5, c6, c7, c8, c9, c10⟩ := fr_facts (kept_row B1.out.box hSu.out (by intro e; have := Option.some.inj e; omega))
      obtain ⟨b2, o2, hpe, -, hcc⟩ := rdi_cells (HRO.out.grown hSu.out (fun b hb e => by have := Option.some.inj e; omega)) hpos
      injection hpe with hpe
      injection hpe with e1 e2
      subst e1
      subst e2
      have z0 := hcc 0 hpos
      rw [Nat.add_zero, HY.out] at z0
      clear hcc
      go_simp
      first | done | with_reducible rfl
    (try simp only [Act.put, List.setIfInBounds_toArray, List.set_cons_zero, List.set_cons_succ])
    refine wpAnyH_take (i := 9) (oi := { dst := some 24, op := Op.build 33 #[(0, Operand.tmp 21), (1, Operand.tmp 23)], type := 33, pos := "ref.go:155", after := #[{ on := 6, ground := Ground.data }, { on := 8, ground := Ground.data }, { on := 10, ground := Ground.gcOnly Departure.lateStores }], guard := none }) (v := ?_) rfl (by kernel_rfl) (by kernel_rfl) (by kernel_rfl) (fun _ _ _ h => h) (Or.inl ⟨by rfl, ?_⟩) hHeld ?_
    rotate_left 1
    · intro u hSu
      obtain ⟨c0, c1, c2, c3, c4, c5, c6, c7, c8, c9, c10⟩ := fr_facts (kept_row B1.out.box hSu.out (by intro e; have := Option.some.inj e; omega))
      obtain ⟨b2, o2, hpe, -, hcc⟩ := rdi_cells (HRO.out.grown hSu.out (fun b hb e => by have := Option.some.inj e; omega)) hpos
      injection hpe with hpe
      injection hpe with e1 e2
      subst e1
      subst e2
      have z0 := hcc 0 hpos
      rw [Nat.add_zero, HY.out] at z0
      clear hcc
      go_simp
      first | done | with_reducible rfl
    (try simp only [Act.put, List.setIfInBounds_toArray, List.set_cons_zero, List.set_cons_succ])
    refine wpAnyH_take (i := 10) (oi := { dst := some 2, op := Op.assign (Operand.tmp 18), type := 3, pos := "ref.go:155", after := #[{ on := 3, ground := Ground.data }, { on := 0, ground := Ground.phase }, { on := 1, ground := Ground.phase }, { on := 2, ground := Ground.phase }, { on := 3, ground := Ground.phase }, { on := 4, ground := Ground.textOnly Departure.lateStores }, { on := 5, ground := Ground.textOnly Departure.lateStores }, { on := 6, ground := Ground.textOnly Departure.lateStoresUnsure }, { on := 7, ground := Ground.textOnly Departure.lateStores }, { on := 8, ground := Ground.textOnly Departure.lateStores }, { on := 9, ground := Ground.textOnly Departure.lateStores }], guard := none }) (v := ?_) rfl (by kernel_rfl) (by kernel_rfl) (by kernel_rfl) (fun _ _ _ h => h) (Or.inl ⟨by rfl, ?_⟩) hHeld ?_
    rotate_left 1
    · intro u hSu
      obtain ⟨c0, c1, c2, c3, c4, c5, c6, c7, c8, c9, c10⟩ := fr_facts (kept_row B1.out.box hSu.out (by intro e; have := Option.some.inj e; omega))
      obtain ⟨b2, o2, hpe, -, hcc⟩ := rdi_cells (HRO.out.grown hSu.out (fun b hb e => by have := Option.some.inj e; omega)) hpos
      injection hpe with hpe
      injection hpe with e1 e2
      subst e1
      subst e2
      have z0 := hcc 0 hpos
      rw [Nat.add_zero, HY.out] at z0
      clear hcc
      go_simp
      first | done | with_reducible rfl
    (try simp only [Act.put, List.setIfInBounds_toArray, List.set_cons_zero, List.set_cons_succ])
    refine wpAnyH_ready (rs := [11]) (by kernel_rfl) (by simp) ?_
    refine AllReadyH.cons (o := { dst := none, op := Op.store 33 (Operand.tmp 3) (Operand.tmp 24), type := 0, pos := "ref.go:155", after := #[{ on := 9, ground := Ground.data }, { on := 10, ground := Ground.chain }, { on := 0, ground := Ground.phase }, { on := 1, ground := Ground.phase }, { on := 2, ground := Ground.phase }, { on := 3, ground := Ground.phase }, { on := 4, ground := Ground.phase }, { on := 5, ground := Ground.phase }, { on := 6, ground := Ground.phase }, { on := 7, ground := Ground.phase }, { on := 8, ground := Ground.phase }, { on := 9, ground := Ground.phase }, { on := 10, ground := Ground.phase }], guard := none }) rfl (fun K hK => ?_) AllReadyH.nil
    obtain ⟨⟨d0, d1, d2, d3, d4, d5, d6, d7, d8, d9, d10⟩, f0, f1, f2, f3, f4, f5, f6, f7, f8, f9, f10⟩ := zfr_facts B1.out.res
    go_simp
    refine hK.out _ _ (Lib.hid (grown_drew (fput_grown w1 (w.heap.size + 1) _ _ _ _ _ _ _ _ _ _ _))) (fun hH2 => ?_)
    clear hK K hHeld
    have hHeld := hH2
    clear hH2
    (try simp only [Act.put, List.setIfInBounds_toArray, List.set_cons_zero, List.set_cons_succ])
    refine wpAnyH_take (i := 12) (oi := { dst := some 4, op := Op.assign (Operand.const (Value.bool true)), type := 4, pos := "ref.go:155", after := #[{ on := 11, ground := Ground.chain }, { on := 0, ground := Ground.phase }, { on := 1, ground := Ground.phase }, { on := 2, ground := Ground.phase }, { on := 3, ground := Ground.phase }, { on := 4, ground := Ground.phase }, { on := 5, ground := Ground.phase }, { on := 6, ground := Ground.phase }, { on := 7, ground := Ground.phase }, { on := 8, ground := Ground.phase }, { on := 9, ground := Ground.phase }, { on := 10, ground := Ground.phase }, { on := 11, ground := Ground.phase }], guard := none }) (v := ?_) rfl (by kernel_rfl) (by kernel_rfl) (by kernel_rfl) (fun _ _ _ h => h) (Or.inl ⟨by rfl, ?_⟩) hHeld ?_
    rotate_left 1
    · intro u hSu
      obtain ⟨c0, c1, c2, c3, c4, c5, c6, c7, c8, c9, c10⟩ := fr_facts (kept_row B1.out.box hSu.out (by intro e; have := Option.some.inj e; omega))
      obtain ⟨b2, o2, hpe, -, hcc⟩ := rdi_cells (HRO.out.grown hSu.out (fun b hb e => by have := Option.some.inj e; omega)) hpos
      injection hpe with hpe
      injection hpe with e1 e2
      subst e1
      subst e2
      have z0 := hcc 0 hpos
      rw [Nat.add_zero, HY.out] at z0
      clear hcc
      go_simp
      first | done | with_reducible rfl
    (try simp only [Act.put, List.setIfInBounds_toArray, List.set_cons_zero, List.set_cons_succ])
    refine wpAnyH_done (by kernel_rfl) ?_ _
    have HE0 := B1.out.put (.slice (some ⟨b, off, none⟩) 0 0) (.int .i64 P.mode) (.int .i64 P.sub) (.int .i64 P.set) (.int .i64 P.len) (.int .i64 P.ttl) (.int .i64 P.ent) (.int .i64 P.ing) (.int .i64 P.pro) (.int .u64 (P.bits : Int)) (.string P.pay)
    have HE := Lib.hid (And.intro (row_drew HE0.1) (grown_drew HE0.2))
    clear HE0
    have HRR := Lib.hid (show Rd _ (fun _ => True) (.slice (some ⟨b, off, none⟩) 0 0) (([] : List Int).map iv) from ((HRD.out.grown (fput_grown w1 (w.heap.size + 1) (.slice (some ⟨b, off, none⟩) 0 0) (.int .i64 P.mode) (.int .i64 P.sub) (.int .i64 P.set) (.int .i64 P.len) (.int .i64 P.ttl) (.int .i64 P.ent) (.int .i64 P.ing) (.int .i64 P.pro) (.int .u64 (P.bits : Int)) (.string P.pay)) (fun b hb e => by have e2 := Option.some.inj e; omega)).keep (grown_drew (grown_refl _ none))).mono (fun _ _ => trivial))
    go_wp2_with fail
    refine bodyPost_ret (res_tct rfl _ _ (w.heap.size + 1) _ rfl rfl HE.out.1) rfl ?_
    rw [HV2.out]
    refine ⟨(some ⟨b, off, none⟩), 0, ?_, ?_, ?_, by omega, HE.out.2⟩
    · rfl
    · exact HRR.out
    · exact Nat.le_refl _

  · have HRD : Hid (Rd w1 (· < w.heap.size) (.slice (some ⟨b, off + 1, none⟩) D.length (c - 1)) (D.map iv)) := Lib.hid (by
      rw [HD.out]
      exact rdi_drop1 HRO.out _)
    rw [HDL.out] at HRD
    refine wp_region_held_drew (S := fun w' => Hid (w1.grownBy w' (some (w.heap.size + 1)))) (by kernel_rfl) (Lib.hid (grown_none (grown_drew (grown_refl w1 none)) _)) (fun hHeld => ?_)
    refine wpAnyH_take (i := 0) (oi := { dst := some 15, op := Op.fieldAddr 33 (Operand.tmp 1) 0, type := 0, pos := "ref.go:155", after := #[], guard := none }) (v := ?_) rfl (by kernel_rfl) (by kernel_rfl) (by kernel_rfl) (fun _ _ _ h => h) (Or.inl ⟨by rfl, ?_⟩) hHeld ?_
    rotate_left 1
    · intro u hSu
      obtain ⟨c0, c1, c2, c3, c4, c5, c6, c7, c8, c9, c10⟩ := fr_facts (kept_row B1.out.box hSu.out (by intro e; have := Option.some.inj e; omega))
      obtain ⟨b2, o2, hpe, -, hcc⟩ := rdi_cells (HRO.out.grown hSu.out (fun b hb e => by have := Option.some.inj e; omega)) hpos
      injection hpe with hpe
      injection hpe with e1 e2
      subst e1
      subst e2
      have z0 := hcc 0 hpos
      rw [Nat.add_zero, HY.out] at z0
      clear hcc
      go_simp
      first | done | with_reducible rfl
    (try simp only [Act.put, List.setIfInBounds_toArray, List.set_cons_zero, List.set_cons_succ])
    refine wpAnyH_take (i := 1) (oi := { dst := some 16, op := Op.load 22 (Operand.tmp 15), type := 22, pos := "ref.go:155", after := #[{ on := 0, ground := Ground.data }], guard := none }) (v := ?_) rfl (by kernel_rfl) (by kernel_rfl) (by kernel_rfl) (fun _ _ _ h => h) (Or.inl ⟨by rfl, ?_⟩) hHeld ?_
    rotate_left 1
    · intro u hSu
      obtain ⟨c0, c1, c2, c3, c4, c5, c6, c7, c8, c9, c10⟩ := fr_facts (kept_row B1.out.box hSu.out (by intro e; have := Option.some.inj e; omega))
      obtain ⟨b2, o2, hpe, -, hcc⟩ := rdi_cells (HRO.out.grown hSu.out (fun b hb e => by have := Option.some.inj e; omega)) hpos
      injection hpe with hpe
      injection hpe with e1 e2
      subst e1
      subst e2
      have z0 := hcc 0 hpos
      rw [Nat.add_zero, HY.out] at z0
      clear hcc
      go_simp
      first | done | with_reducible rfl
    (try simp only [Act.put, List.setIfInBounds_toArray, List.set_cons_zero, List.set_cons_succ])
    refine wpAnyH_take (i := 2) (oi := { dst := some 17, op := Op.indexAddr 22 (Operand.tmp 16) (Operand.const (Value.int IntKind.i64 0)), type := 0, pos := "ref.go:155", after := #[{ on := 1, ground := Ground.data }], guard := none }) (v := ?_) rfl (by kernel_rfl) (by kernel_rfl) (by kernel_rfl) (fun _ _ _ h => h) (Or.inl ⟨by rfl, ?_⟩) hHeld ?_
    rotate_left 1
    · intro u hSu
      obtain ⟨c0, c1, c2, c3, c4, c5, c6, c7, c8, c9, c10⟩ := fr_facts (kept_row B1.out.box hSu.out (by intro e; have := Option.some.inj e; omega))
      obtain ⟨b2, o2, hpe, -, hcc⟩ := rdi_cells (HRO.out.grown hSu.out (fun b hb e => by have := Option.some.inj e; omega)) hpos
      injection hpe with hpe
      injection hpe with e1 e2
      subst e1
      subst e2
      have z0 := hcc 0 hpos
      rw [Nat.add_zero, HY.out] at z0
      clear hcc
      go_simp
      first | done | with_reducible rfl
    (try simp only [Act.put, List.setIfInBounds_toArray, List.set_cons_zero, List.set_cons_succ])
    refine wpAnyH_take (i := 3) (oi := { dst := some 18, op := Op.load 3 (Operand.tmp 17), type := 3, pos := "ref.go:155", after := #[{ on := 2, ground := Ground.data }], guard := none }) (v := ?_) rfl (by kernel_rfl) (by kernel_rfl) (by kernel_rfl) (fun _ _ _ h => h) (Or.inl ⟨by rfl, ?_⟩) hHeld ?_
    rotate_left 1
    · intro u hSu
      obtain ⟨c0, c1, c2, c3, c4, c5, c6, c7, c8, c9, c10⟩ := fr_facts (kept_row B1.out.box hSu.out (by intro e; have := Option.some.inj e; omega))
      obtain ⟨b2, o2, hpe, -, hcc⟩ := rdi_cells (HRO.out.grown hSu.out (fun b hb e => by have := Option.some.inj e; omega)) hpos
      injection hpe with hpe
      injection hpe with e1 e2
      subst e1
      subst e2
      have z0 := hcc 0 hpos
      rw [Nat.add_zero, HY.out] at z0
      clear hcc
      go_simp
      first | done | with_reducible rfl
    (try simp only [Act.put, List.setIfInBounds_toArray, List.set_cons_zero, List.set_cons_succ])
    refine wpAnyH_take (i := 4) (oi := { dst := some 19, op := Op.fieldAddr 33 (Operand.tmp 1) 0, type := 0, pos := "ref.go:155", after := #[], guard := none }) (v := ?_) rfl (by kernel_rfl) (by kernel_rfl) (by kernel_rfl) (fun _ _ _ h => h) (Or.inl ⟨by rfl, ?_⟩) hHeld ?_
    rotate_left 1
    · intro u hSu
      obtain ⟨c0, c1, c2, c3, c4, c5, c6, c7, c8, c9, c10⟩ := fr_facts (kept_row B1.out.box hSu.out (by intro e; have := Option.some.inj e; omega))
      obtain ⟨b2, o2, hpe, -, hcc⟩ := rdi_cells (HRO.out.grown hSu.out (fun b hb e => by have := Option.some.inj e; omega)) hpos
      injection hpe with hpe
      injection hpe with e1 e2
      subst e1
      subst e2
      have z0 := hcc 0 hpos
      rw [Nat.add_zero, HY.out] at z0
      clear hcc
      go_simp
      first | done | with_reducible rfl
    (try simp only [Act.put, List.setIfInBounds_toArray, List.set_cons_zero, List.set_cons_succ])
    refine wpAnyH_take (i := 5) (oi := { dst := some 20, op := Op.load 22 (Operand.tmp 19), type := 22, pos := "ref.go:155", after := #[{ on := 4, ground := Ground.data }], guard := none }) (v := ?_) rfl (by kernel_rfl) (by kernel_rfl) (by kernel_rfl) (fun _ _ _ h => h) (Or.inl ⟨by rfl, ?_⟩) hHeld ?_
    rotate_left 1
    · intro u hSu
      obtain ⟨c0, c1, c2, c3, c4, c5, c6, c7, c8, c9, c10⟩ := fr_facts (kept_row B1.out.box hSu.out (by intro e; have := Option.some.inj e; omega))
      obtain ⟨b2, o2, hpe, -, hcc⟩ := rdi_cells (HRO.out.grown hSu.out (fun b hb e => by have := Option.some.inj e; omega)) hpos
      injection hpe with hpe
      injection hpe with e1 e2
      subst e1
      subst e2
      have z0 := hcc 0 hpos
      rw [Nat.add_zero, HY.out] at z0
      clear hcc
      go_simp
      first | done | with_reducible rfl
    (try simp only [Act.put, List.setIfInBounds_toArray, List.set_cons_zero, List.set_cons_succ])
    refine wpAnyH_take (i := 6) (oi := { dst := some 21, op := Op.slice 22 (Operand.tmp 20) (some (Operand.const (Value.int IntKind.i64 1))) none none, type := 22, pos := "ref.go:155", after := #[{ on := 5, ground := Ground.data }], guard := none }) (v := ?_) rfl (by kernel_rfl) (by kernel_rfl) (by kernel_rfl) (fun _ _ _ h => h) (Or.inl ⟨by rfl, ?_⟩) hHeld ?_
    rotate_left 1
    · intro u hSu
      obtain ⟨c0, c1, c2, c3, c4, c5, c6, c7, c8, c9, c10⟩ := fr_facts (kept_row B1.out.box hSu.out (by intro e; have := Option.some.inj e; omega))
      obtain ⟨b2, o2, hpe, -, hcc⟩ := rdi_cells (HRO.out.grown hSu.out (fun b hb e => by have := Option.some.inj e; omega)) hpos
      injection hpe with hpe
      injection hpe with e1 e2
      subst e1
      subst e2
      have z0 := hcc 0 hpos
      rw [Nat.add_zero, HY.out] at z0
      clear hcc
      go_simp
      first | done | with_reducible rfl
    (try simp only [Act.put, List.setIfInBounds_toArray, List.set_cons_zero, List.set_cons_succ])
    refine wpAnyH_take (i := 7) (oi := { dst := some 22, op := Op.fieldAddr 33 (Operand.tmp 1) 1, type := 0, pos := "ref.go:155", after := #[{ on := 10, ground := Ground.gcOnly Departure.lateStores }], guard := none }) (v := ?_) rfl (by kernel_rfl) (by kernel_rfl) (by kernel_rfl) (fun _ _ _ h => h) (Or.inl ⟨by rfl, ?_⟩) hHeld ?_
    rotate_left 1
    · intro u hSu
      obtain ⟨c0, c1, c2, c3, c4, c5, c6, c7, c8, c9, c10⟩ := fr_facts (kept_row B1.out.box hSu.out (by intro e; have := Option.some.inj e; omega))
      obtain ⟨b2, o2, hpe, -, hcc⟩ := rdi_cells (HRO.out.grown hSu.out (fun b hb e => by have := Option.some.inj e; omega)) hpos
      injection hpe with hpe
      injection hpe with e1 e2
      subst e1
      subst e2
      have z0 := hcc 0 hpos
      rw [Nat.add_zero, HY.out] at z0
      clear hcc
      go_simp
      first | done | with_reducible rfl
    (try simp only [Act.put, List.setIfInBounds_toArray, List.set_cons_zero, List.set_cons_succ])
    refine wpAnyH_take (i := 8) (oi := { dst := some 23, op := Op.load 31 (Operand.tmp 22), type := 31, pos := "ref.go:155", after := #[{ on := 7, ground := Ground.data }, { on := 10, ground := Ground.gcOnly Departure.lateStores }], guard := none }) (v := ?_) rfl (by kernel_rfl) (by kernel_rfl) (by kernel_rfl) (fun _ _ _ h => h) (Or.inl ⟨by rfl, ?_⟩) hHeld ?_
    rotate_left 1
    · intro u hSu
      obtain ⟨c0, c1, c2, c3, c4, c5, c6, c7, c8, c9, c10⟩ := fr_facts (kept_row B1.out.box hSu.out (by intro e; have := Option.some.inj e; omega))
      obtain ⟨b2, o2, hpe, -, hcc⟩ := rdi_cells (HRO.out.grown hSu.out (fun b hb e => by have := Option.some.inj e; omega)) hpos
      injection hpe with hpe
      injection hpe with e1 e2
      subst e1
      subst e2
      have z0 := hcc 0 hpos
      rw [Nat.add_zero, HY.out] at z0
      clear hcc
      go_simp
      first | done | with_reducible rfl
    (try simp only [Act.put, List.setIfInBounds_toArray, List.set_cons_zero, List.set_cons_succ])
    refine wpAnyH_take (i := 9) (oi := { dst := some 24, op := Op.build 33 #[(0, Operand.tmp 21), (1, Operand.tmp 23)], type := 33, pos := "ref.go:155", after := #[{ on := 6, ground := Ground.data }, { on := 8, ground := Ground.data }, { on := 10, ground := Ground.gcOnly Departure.lateStores }], guard := none }) (v := ?_) rfl (by kernel_rfl) (by kernel_rfl) (by kernel_rfl) (fun _ _ _ h => h) (Or.inl ⟨by rfl, ?_⟩) hHeld ?_
    rotate_left 1
    · intro u hSu
      obtain ⟨c0, c1, c2, c3, c4, c5, c6, c7, c8, c9, c10⟩ := fr_facts (kept_row B1.out.box hSu.out (by intro e; have := Option.some.inj e; omega))
      obtain ⟨b2, o2, hpe, -, hcc⟩ := rdi_cells (HRO.out.grown hSu.out (fun b hb e => by have := Option.some.inj e; omega)) hpos
      injection hpe with hpe
      injection hpe with e1 e2
      subst e1
      subst e2
      have z0 := hcc 0 hpos
      rw [Nat.add_zero, HY.out] at z0
      clear hcc
      go_simp
      first | done | with_reducible rfl
    (try simp only [Act.put, List.setIfInBounds_toArray, List.set_cons_zero, List.set_cons_succ])
    refine wpAnyH_take (i := 10) (oi := { dst := some 2, op := Op.assign (Operand.tmp 18), type := 3, pos := "ref.go:155", after := #[{ on := 3, ground := Ground.data }, { on := 0, ground := Ground.phase }, { on := 1, ground := Ground.phase }, { on := 2, ground := Ground.phase }, { on := 3, ground := Ground.phase }, { on := 4, ground := Ground.textOnly Departure.lateStores }, { on := 5, ground := Ground.textOnly Departure.lateStores }, { on := 6, ground := Ground.textOnly Departure.lateStoresUnsure }, { on := 7, ground := Ground.textOnly Departure.lateStores }, { on := 8, ground := Ground.textOnly Departure.lateStores }, { on := 9, ground := Ground.textOnly Departure.lateStores }], guard := none }) (v := ?_) rfl (by kernel_rfl) (by kernel_rfl) (by kernel_rfl) (fun _ _ _ h => h) (Or.inl ⟨by rfl, ?_⟩) hHeld ?_
    rotate_left 1
    · intro u hSu
      obtain ⟨c0, c1, c2, c3, c4, c5, c6, c7, c8, c9, c10⟩ := fr_facts (kept_row B1.out.box hSu.out (by intro e; have := Option.some.inj e; omega))
      obtain ⟨b2, o2, hpe, -, hcc⟩ := rdi_cells (HRO.out.grown hSu.out (fun b hb e => by have := Option.some.inj e; omega)) hpos
      injection hpe with hpe
      injection hpe with e1 e2
      subst e1
      subst e2
      have z0 := hcc 0 hpos
      rw [Nat.add_zero, HY.out] at z0
      clear hcc
      go_simp
      first | done | with_reducible rfl
    (try simp only [Act.put, List.setIfInBounds_toArray, List.set_cons_zero, List.set_cons_succ])
    refine wpAnyH_ready (rs := [11]) (by kernel_rfl) (by simp) ?_
    refine AllReadyH.cons (o := { dst := none, op := Op.store 33 (Operand.tmp 3) (Operand.tmp 24), type := 0, pos := "ref.go:155", after := #[{ on := 9, ground := Ground.data }, { on := 10, ground := Ground.chain }, { on := 0, ground := Ground.phase }, { on := 1, ground := Ground.phase }, { on := 2, ground := Ground.phase }, { on := 3, ground := Ground.phase }, { on := 4, ground := Ground.phase }, { on := 5, ground := Ground.phase }, { on := 6, ground := Ground.phase }, { on := 7, ground := Ground.phase }, { on := 8, ground := Ground.phase }, { on := 9, ground := Ground.phase }, { on := 10, ground := Ground.phase }], guard := none }) rfl (fun K hK => ?_) AllReadyH.nil
    obtain ⟨⟨d0, d1, d2, d3, d4, d5, d6, d7, d8, d9, d10⟩, f0, f1, f2, f3, f4, f5, f6, f7, f8, f9, f10⟩ := zfr_facts B1.out.res
    go_simp
    refine hK.out _ _ (Lib.hid (grown_drew (fput_grown w1 (w.heap.size + 1) _ _ _ _ _ _ _ _ _ _ _))) (fun hH2 => ?_)
    clear hK K hHeld
    have hHeld := hH2
    clear hH2
    (try simp only [Act.put, List.setIfInBounds_toArray, List.set_cons_zero, List.set_cons_succ])
    refine wpAnyH_take (i := 12) (oi := { dst := some 4, op := Op.assign (Operand.const (Value.bool true)), type := 4, pos := "ref.go:155", after := #[{ on := 11, ground := Ground.chain }, { on := 0, ground := Ground.phase }, { on := 1, ground := Ground.phase }, { on := 2, ground := Ground.phase }, { on := 3, ground := Ground.phase }, { on := 4, ground := Ground.phase }, { on := 5, ground := Ground.phase }, { on := 6, ground := Ground.phase }, { on := 7, ground := Ground.phase }, { on := 8, ground := Ground.phase }, { on := 9, ground := Ground.phase }, { on := 10, ground := Ground.phase }, { on := 11, ground := Ground.phase }], guard := none }) (v := ?_) rfl (by kernel_rfl) (by kernel_rfl) (by kernel_rfl) (fun _ _ _ h => h) (Or.inl ⟨by rfl, ?_⟩) hHeld ?_
    rotate_left 1
    · intro u hSu
      obtain ⟨c0, c1, c2, c3, c4, c5, c6, c7, c8, c9, c10⟩ := fr_facts (kept_row B1.out.box hSu.out (by intro e; have := Option.some.inj e; omega))
      obtain ⟨b2, o2, hpe, -, hcc⟩ := rdi_cells (HRO.out.grown hSu.out (fun b hb e => by have := Option.some.inj e; omega)) hpos
      injection hpe with hpe
      injection hpe with e1 e2
      subst e1
      subst e2
      have z0 := hcc 0 hpos
      rw [Nat.add_zero, HY.out] at z0
      clear hcc
      go_simp
      first | done | with_reducible rfl
    (try simp only [Act.put, List.setIfInBounds_toArray, List.set_cons_zero, List.set_cons_succ])
    refine wpAnyH_done (by kernel_rfl) ?_ _
    have HE0 := B1.out.put (.slice (some ⟨b, off + 1, none⟩) (r.length - 1) (c - 1)) (.int .i64 P.mode) (.int .i64 P.sub) (.int .i64 P.set) (.int .i64 P.len) (.int .i64 P.ttl) (.int .i64 P.ent) (.int .i64 P.ing) (.int .i64 P.pro) (.int .u64 (P.bits : Int)) (.string P.pay)
    have HE := Lib.hid (And.intro (row_drew HE0.1) (grown_drew HE0.2))
    clear HE0
    have HRR := Lib.hid (show Rd _ (fun _ => True) (.slice (some ⟨b, off + 1, none⟩) (r.length - 1) (c - 1)) ((D : List Int).map iv) from ((HRD.out.grown (fput_grown w1 (w.heap.size + 1) (.slice (some ⟨b, off + 1, none⟩) (r.length - 1) (c - 1)) (.int .i64 P.mode) (.int .i64 P.sub) (.int .i64 P.set) (.int .i64 P.len) (.int .i64 P.ttl) (.int .i64 P.ent) (.int .i64 P.ing) (.int .i64 P.pro) (.int .u64 (P.bits : Int)) (.string P.pay)) (fun b hb e => by have e2 := Option.some.inj e; omega)).keep (grown_drew (grown_refl _ none))).mono (fun _ _ => trivial))
    go_wp2_with fail
    refine bodyPost_ret (res_tct rfl _ _ (w.heap.size + 1) _ rfl rfl HE.out.1) rfl ?_
    rw [HV2.out]
    refine ⟨(some ⟨b, off + 1, none⟩), (c - 1), ?_, ?_, ?_, by omega, HE.out.2⟩
    · show _ = Ending.returned (.tuple #[.int .i64 y, .agg (#[.slice (some ⟨b, off + 1, none⟩) D.length (c - 1)] ++ _), .bool true])
      rw [HDL.out]
      rfl
    · show Rd _ _ (.slice _ D.length _) _
      rw [HDL.out]
      exact HRR.out
    · show D.length ≤ _
      rw [HDL.out]
      omega

end Go.Proofs.YtpabfjhjehjebaaDoor

/- stack: Push of the reference. -/
namespace Go.Proofs.YtpabfjhjehjebaaDoor
open Go.RowKit Bs
set_option maxRecDepth 100000 in
set_option maxHeartbeats 6400000 in
theorem rpush_any (t r : List Int) (P : Pk) (hP : P.Wf) (pt p : Option Addr) (ct c : Nat) (hc : r.length ≤ c ∧ c ≤ 9223372036854775807) (ht : t.length ≤ 1000) (hct : t.length ≤ ct ∧ ct ≤ 9223372036854775807) (hn : p = none → c = 0) (hnt : pt = none → ct = 0) (q q2 : Nat → Prop) (w : World) (hR : Rd w q (.slice p r.length c) (r.map iv)) (hRt : Rd w q2 (.slice pt t.length ct) (t.map iv)) :
    Calls Tryd.prog 17 #[fval (.slice p r.length c) P, .slice pt t.length ct] w fun e w' => PUPost (pushV t r P) w e w' := by
  have hB := PB.start w (.slice p r.length c) P
  have HR := Lib.hid (And.intro (hR.keep hB.gr) (hRt.keep hB.gr))
  have HN := Lib.hid (And.intro hn hnt)
  have HP := Lib.hid hP
  have HC := Lib.hid (And.intro hc hct)
  have B0 := Lib.hid hB
  have hfv : fval (.slice p r.length c) P = .agg #[.slice p r.length c, .int .i64 P.mode, .int .i64 P.sub, .int .i64 P.set, .int .i64 P.len, .int .i64 P.ttl, .int .i64 P.ent, .int .i64 P.ing, .int .i64 P.pro, .int .u64 (P.bits : Int), .string P.pay] := rfl
  have HFV := Lib.hid hfv
  have hval : P.val = .agg #[.int .i64 P.mode, .int .i64 P.sub, .int .i64 P.set, .int .i64 P.len, .int .i64 P.ttl, .int .i64 P.ent, .int .i64 P.ing, .int .i64 P.pro, .int .u64 (P.bits : Int), .string P.pay] := rfl
  have hm2 : t.length ≤ 9223372036854775807 := by omega
  rw [hfv]
  clear hR hRt hn hnt hP hc hct hB hfv hval
  go_enter Tryd.func17, Tryd.ntmps17
  go_upto_region 1 with fail
  change Hid (PB w (.slice p r.length c) P ((w.alloc (.cells #[.slice p r.length c, .int .i64 P.mode, .int .i64 P.sub, .int .i64 P.set, .int .i64 P.len, .int .i64 P.ttl, .int .i64 P.ent, .int .i64 P.ing, .int .i64 P.pro, .int .u64 (P.bits : Int), .string P.pay] 33)).alloc (.cells #[.slice none 0 0, .int .i64 0, .int .i64 0, .int .i64 0, .int .i64 0, .int .i64 0, .int .i64 0, .int .i64 0, .int .i64 0, .int .u64 0, .string ⟨#[]⟩] 33))) at B0
  change Hid (Rd ((w.alloc (.cells #[.slice p r.length c, .int .i64 P.mode, .int .i64 P.sub, .int .i64 P.set, .int .i64 P.len, .int .i64 P.ttl, .int .i64 P.ent, .int .i64 P.ing, .int .i64 P.pro, .int .u64 (P.bits : Int), .string P.pay] 33)).alloc (.cells #[.slice none 0 0, .int .i64 0, .int .i64 0, .int .i64 0, .int .i64 0, .int .i64 0, .int .i64 0, .int .i64 0, .int .i64 0, .int .u64 0, .string ⟨#[]⟩] 33)) q _ _ ∧ Rd ((w.alloc (.cells #[.slice p r.length c, .int .i64 P.mode, .int .i64 P.sub, .int .i64 P.set, .int .i64 P.len, .int .i64 P.ttl, .int .i64 P.ent, .int .i64 P.ing, .int .i64 P.pro, .int .u64 (P.bits : Int), .string P.pay] 33)).alloc (.cells #[.slice none 0 0, .int .i64 0, .int .i64 0, .int .i64 0, .int .i64 0, .int .i64 0, .int .i64 0, .int .i64 0, .int .i64 0, .int .u64 0, .string ⟨#[]⟩] 33)) q2 _ _) at HR
  generalize (w.alloc _).alloc _ = wa at *
  obtain ⟨c0, c1, c2, c3, c4, c5, c6, c7, c8, c9, c10⟩ := fr_facts B0.out.box
  have C : Calls Tryd.prog 20 #[.agg #[.slice p r.length c, .int .i64 P.mode, .int .i64 P.sub, .int .i64 P.set, .int .i64 P.len, .int .i64 P.ttl, .int .i64 P.ent, .int .i64 P.ing, .int .i64 P.pro, .int .u64 (P.bits : Int), .string P.pay]] wa fun e w' => e = .returned (.bool (vfr r P)) ∧ wa.grownBy w' none := rvfr_any r P HP.out p c (Nat.le_trans HC.out.1.1 HC.out.1.2) q wa HR.out.1
  go_wp2_with fail
  refine C.mono ?_
  clear C
  rintro e w1 ⟨rfl, hg⟩
  have B1 := Lib.hid (B0.out.keep hg)
  have HR1 := Lib.hid (And.intro (HR.out.1.keep hg) (HR.out.2.keep hg))
  clear hg B0 HR c0 c1 c2 c3 c4 c5 c6 c7 c8 c9 c10
  obtain ⟨⟨d0, d1, d2, d3, d4, d5, d6, d7, d8, d9, d10⟩, f0, f1, f2, f3, f4, f5, f6, f7, f8, f9, f10⟩ := zfr_facts B1.out.res
  cases hv : vfr r P
  · have HE := Lib.hid (B1.out.err (V := pushV t r P) (x := 1) (by unfold pushV; rw [if_pos hv]))
    clear hv
    go_wp2_with fail
    refine bodyPost_ret (res_frame_err rfl _ _ (w.heap.size + 1) zfr rfl rfl HE.out.1) rfl ?_
    exact HE.out.2
  have HV := Lib.hid hv
  obtain ⟨h24, -, -, -⟩ := vfr_parts hv
  clear hv
  go_wp2_with fail
  go_loopw [6] (fun a wr => ∃ k : Nat, k ≤ t.length ∧ a = .int .i64 (k : Int) ∧ wr = w1 ∧ Hid (∀ j, j < k → okR (t.getD j 0) = true)) (fun a _ => t.length - (intOf a).toNat)
  case atStart => exact ⟨0, Nat.zero_le _, rfl, rfl, Lib.hid (fun j hj => absurd hj (Nat.not_lt_zero _))⟩
  case round =>
  obtain ⟨k, hk, rfl, rfl, hne⟩ := hrel
  by_cases hlt : k < t.length
  case pos =>
    obtain ⟨b, off, rfl, hq, hcc⟩ := rdi_cells HR1.out.2 (by omega)
    have c0 := hcc k hlt
    clear hcc
    obtain ⟨y, hy⟩ : ∃ y, t.getD k 0 = y := ⟨_, rfl⟩
    rw [hy] at c0
    have HY := Lib.hid hy
    clear hy
    have bad : Hid (okR y = false) → Hid (pushV t r P = ([], zpk, 2)) := fun hz => Lib.hid (by
      have ha : allR t = false := by
        rw [Bool.eq_false_iff]
        intro h
        have h2 := List.all_eq_true.1 h _ (List.getElem_mem hlt)
        have h3 := HY.out
        rw [List.getD_eq_getElem?_getD, List.getElem?_eq_getElem hlt] at h3
        rw [show t[k] = y from h3, hz.out] at h2
        cases h2
      unfold pushV
      rw [HV.out, if_neg (by simp), if_pos ha])
    by_cases g1 : 1 ≤ y
    · by_cases g2 : y ≤ 99
      · have g1' : ¬ y < 1 := by omega
        have g2' : ¬ 99 < y := by omega
        have HZ : Hid (okR y = true) := Lib.hid (decide_eq_true ⟨g1, g2⟩)
        clear bad
        go_wp2_with fail
        refine ⟨⟨k + 1, by omega, congrArg _ (by omega), trivial, Lib.hid fun j hj => ?_⟩, by simp only [intOf]; omega⟩
        by_cases h2 : j = k
        · subst h2
          rw [HY.out]
          exact HZ.out
        · exact hne.out j (by omega)
      · have g1' : ¬ y < 1 := by omega
        have g2' : 99 < y := by omega
        have HE := Lib.hid (B1.out.err (V := pushV t r P) (x := 2) (bad (Lib.hid (decide_eq_false (by omega)))).out)
        clear bad
        go_wp2_with fail
        refine bodyPost_ret (res_frame_err rfl _ _ (w.heap.size + 1) zfr rfl rfl HE.out.1) rfl ?_
        exact HE.out.2
    · have g1' : y < 1 := by omega
      have HE := Lib.hid (B1.out.err (V := pushV t r P) (x := 2) (bad (Lib.hid (decide_eq_false (by omega)))).out)
      clear bad
      go_wp2_with fail
      refine bodyPost_ret (res_frame_err rfl _ _ (w.heap.size + 1) zfr rfl rfl HE.out.1) rfl ?_
      exact HE.out.2
  obtain rfl : k = t.length := by omega
  have HA : Hid (allR t = true) := Lib.hid (by
    refine List.all_eq_true.2 fun x hx => ?_
    obtain ⟨i, hi, he⟩ := List.getElem_of_mem hx
    have := hne.out i hi
    rw [List.getD_eq_getElem?_getD, List.getElem?_eq_getElem hi] at this
    rw [← he]; exact this)
  clear hne
  obtain ⟨w1, rfl⟩ : ∃ w1 : World, w1 = wr := ⟨_, rfl⟩
  obtain ⟨c0, c1, c2, c3, c4, c5, c6, c7, c8, c9, c10⟩ := fr_facts B1.out.box
  by_cases hl : 24 < t.length + r.length
  · have HE := Lib.hid (B1.out.err (V := pushV t r P) (x := 3) (by unfold pushV; rw [HV.out, HA.out, if_neg (by simp), if_neg (by simp), if_pos hl]))
    have hl2 : (24 : Int) < (t.length : Int) + (r.length : Int) := by omega
    go_wp2_with fail
    refine bodyPost_ret (res_frame_err rfl _ _ (w.heap.size + 1) zfr rfl rfl HE.out.1) rfl ?_
    exact HE.out.2
  have hl2 : ¬ (24 : Int) < (t.length : Int) + (r.length : Int) := by omega
  have HL := Lib.hid hl
  have hsz0 : w1.heap.size ≤ w1.heap.size := Nat.le_refl _
  go_wp2_with (at_builtin; refine wpList_append_iv rfl _ _ rfl w1.heap.size (.slice none 0 0) 0 [] rfl (World.ownsRow_nil _ _ _ _) pt t.length ct t rfl rfl HN.out.2 q2 HR1.out.2 HC.out.2.1 (by simp; omega) hsz0 ?_)
  intro v2 w2 h1 h2
  have H2 := Lib.hid (And.intro h1 h2)
  clear h1 h2
  change Hid (w2.ownsRow w1.heap.size 3 1 v2 t.length (t.map iv) ∧ w1.grownBy w2 none) at H2
  have hlt1 := B1.out.res.lt
  have B2 := Lib.hid (B1.out.keep H2.out.2)
  have HR2 := Lib.hid (HR1.out.1.keep H2.out.2)
  have hsz2 := H2.out.2.size
  clear B1 HR1 c0 c1 c2 c3 c4 c5 c6 c7 c8 c9 c10 d0 d1 d2 d3 d4 d5 d6 d7 d8 d9 d10 f0 f1 f2 f3 f4 f5 f6 f7 f8 f9 f10
  obtain ⟨c0, c1, c2, c3, c4, c5, c6, c7, c8, c9, c10⟩ := fr_facts B2.out.box
  go_wp2_with (at_builtin; refine wpList_append_iv rfl _ _ rfl w1.heap.size v2 t.length t rfl H2.out.1 p r.length c r rfl rfl HN.out.1 q HR2.out HC.out.1.1 (by omega) hsz2 ?_)
  intro v3 w3 h1 h2
  obtain ⟨R, hR⟩ : ∃ R, R = t ++ r := ⟨_, rfl⟩
  have hg3 : w2.grownBy w3 v2.ownBlock := h2
  have H3 : Hid (w3.ownsRow w1.heap.size 3 1 v3 R.length (R.map iv) ∧ w1.grownBy w3 none) := Lib.hid ⟨by
    rw [hR, List.length_append]; first | exact h1 | (rw [List.map_append]; exact h1), grown_own H2.out.2 H2.out.1 (Nat.le_refl _) hg3⟩
  have HRT := Lib.hid hR
  have B3 : Hid (PB w (.slice p r.length c) P w3) := Lib.hid ⟨kept_row B2.out.box hg3 (own_ne H2.out.1 (by omega)), B2.out.res.kept hg3 (own_ne H2.out.1 (by omega)), grown_own B2.out.gr H2.out.1 (by omega) hg3⟩
  clear h1 h2 hg3 hR HR2
  obtain ⟨p3, c3', rfl, hr3, hl3, hm3, hn3⟩ := ownret_rd H3.out.1
  have HR3 := Lib.hid (And.intro hr3 (And.intro hl3 (And.intro hm3 hn3)))
  have hm4 : R.length ≤ 9223372036854775807 := by omega
  clear hr3 hl3 hm3 hn3 c0 c1 c2 c3 c4 c5 c6 c7 c8 c9 c10 B2 H2 H3
  go_wp2_with fail
  refine (rrep_any R p3 c3' _ w3 HR3.out.1 hm4).mono ?_
  rintro e w4 ⟨rfl, hg⟩
  have hsz4 := hg.size
  have B4 := Lib.hid (B3.out.keep hg)
  have HR4 := Lib.hid (HR3.out.1.keep hg)
  clear hg B3
  obtain ⟨c0, c1, c2, c3, c4, c5, c6, c7, c8, c9, c10⟩ := fr_facts B4.out.box
  obtain ⟨⟨d0, d1, d2, d3, d4, d5, d6, d7, d8, d9, d10⟩, f0, f1, f2, f3, f4, f5, f6, f7, f8, f9, f10⟩ := zfr_facts B4.out.res
  cases hp : rep R
  · have HV2 : Hid (pushV t r P = (R, #[.int .i64 P.mode, .int .i64 P.sub, .int .i64 P.set, .int .i64 P.len, .int .i64 P.ttl, .int .i64 P.ent, .int .i64 P.ing, .int .i64 P.pro, .int .u64 (P.bits : Int), .string P.pay], 0)) := Lib.hid (by unfold pushV; rw [HV.out, HA.out, if_neg (by simp), if_neg (by simp), if_neg HL.out, ← HRT.out, hp, if_neg (by simp)])
    have HE := Lib.hid (B4.out.put (.slice p3 R.length c3') (.int .i64 P.mode) (.int .i64 P.sub) (.int .i64 P.set) (.int .i64 P.len) (.int .i64 P.ttl) (.int .i64 P.ent) (.int .i64 P.ing) (.int .i64 P.pro) (.int .u64 (P.bits : Int)) (.string P.pay))
    clear hp
    go_wp2_with fail
    refine bodyPost_ret (res_frame_err rfl _ _ (w.heap.size + 1) _ rfl rfl HE.out.1) rfl ?_
    rw [HV2.out]
    refine ⟨p3, c3', rfl, ?_, HR3.out.2.1, HR3.out.2.2.1, HR3.out.2.2.2, HE.out.2⟩
    exact (HR4.out.grown (fput_grown _ (w.heap.size + 1) _ _ _ _ _ _ _ _ _ _ _) (fun b hb e => by have := Option.some.inj e; omega)).mono (fun _ _ => trivial)
  · have HE := Lib.hid (B4.out.err (V := pushV t r P) (x := 5) (by unfold pushV; rw [HV.out, HA.out, if_neg (by simp), if_neg (by simp), if_neg HL.out, ← HRT.out, if_pos hp]))
    clear hp
    go_wp2_with fail
    refine bodyPost_ret (res_frame_err rfl _ _ (w.heap.size + 1) zfr rfl rfl HE.out.1) rfl ?_
    exact HE.out.2
end Go.Proofs.YtpabfjhjehjebaaDoor

/- A list of three frames. -/
namespace Go.Proofs.YtpabfjhjehjebaaDoor
open Go.RowKit Bs
/-- A frame with where its route lies. -/
structure Fr where
  r : List Int
  P : Pk
  p : Option Addr
  c : Nat
/-- Its first cell. -/
def Fr.v (F : Fr) : Value := .slice F.p F.r.length F.c
/-- A frame that can be read. -/
structure FrOk (w : World) (F : Fr) : Prop where
  wf : F.P.Wf
  le : F.r.length ≤ F.c
  max : F.c ≤ 9223372036854775807
  rd : Rd w (fun _ => True) (.slice F.p F.r.length F.c) (F.r.map iv)
set_option maxRecDepth 100000 in
theorem FrOk.keep {w w' : World} {F : Fr} (h : FrOk w F) (g : w.grownBy w' none) : FrOk w' F := ⟨h.wf, h.le, h.max, h.rd.keep g⟩
/-- The cells of three frames. -/
def c33 (A B C : Fr) : Array Value := #[A.v, .int .i64 A.P.mode, .int .i64 A.P.sub, .int .i64 A.P.set, .int .i64 A.P.len, .int .i64 A.P.ttl, .int .i64 A.P.ent, .int .i64 A.P.ing, .int .i64 A.P.pro, .int .u64 (A.P.bits : Int), .string A.P.pay, B.v, .int .i64 B.P.mode, .int .i64 B.P.sub, .int .i64 B.P.set, .int .i64 B.P.len, .int .i64 B.P.ttl, .int .i64 B.P.ent, .int .i64 B.P.ing, .int .i64 B.P.pro, .int .u64 (B.P.bits : Int), .string B.P.pay, C.v, .int .i64 C.P.mode, .int .i64 C.P.sub, .int .i64 C.P.set, .int .i64 C.P.len, .int .i64 C.P.ttl, .int .i64 C.P.ent, .int .i64 C.P.ing, .int .i64 C.P.pro, .int .u64 (C.P.bits : Int), .string C.P.pay]
def fsel (A B C : Fr) (j : Nat) : Fr := match j with | 0 => A | 1 => B | _ => C
/-- Member j of the list. -/
def At11 (w : World) (b j : Nat) (F : Fr) : Prop :=
  w.cell? ⟨b, j * 11, none⟩ = some F.v ∧ w.cell? ⟨b, j * 11 + 1, none⟩ = some (.int .i64 F.P.mode) ∧ w.cell? ⟨b, j * 11 + 2, none⟩ = some (.int .i64 F.P.sub) ∧ w.cell? ⟨b, j * 11 + 3, none⟩ = some (.int .i64 F.P.set) ∧ w.cell? ⟨b, j * 11 + 4, none⟩ = some (.int .i64 F.P.len) ∧ w.cell? ⟨b, j * 11 + 5, none⟩ = some (.int .i64 F.P.ttl) ∧ w.cell? ⟨b, j * 11 + 6, none⟩ = some (.int .i64 F.P.ent) ∧ w.cell? ⟨b, j * 11 + 7, none⟩ = some (.int .i64 F.P.ing) ∧ w.cell? ⟨b, j * 11 + 8, none⟩ = some (.int .i64 F.P.pro) ∧ w.cell? ⟨b, j * 11 + 9, none⟩ = some (.int .u64 (F.P.bits : Int)) ∧ w.cell? ⟨b, j * 11 + 10, none⟩ = some (.string F.P.pay)
set_option maxRecDepth 100000 in
theorem c33_at {w : World} {b : Nat} {A B C : Fr} (hr : w.heap[b]? = some (.cells (c33 A B C) 33 (0, 0))) (j : Nat) (hj : j < 3) : At11 w b j (fsel A B C j) := by
  rcases (show j = 0 ∨ j = 1 ∨ j = 2 by omega) with rfl | rfl | rfl
  · exact ⟨cell_of_row _ _ _ _ _ _ hr, cell_of_row _ _ _ _ _ _ hr, cell_of_row _ _ _ _ _ _ hr, cell_of_row _ _ _ _ _ _ hr, cell_of_row _ _ _ _ _ _ hr, cell_of_row _ _ _ _ _ _ hr, cell_of_row _ _ _ _ _ _ hr, cell_of_row _ _ _ _ _ _ hr, cell_of_row _ _ _ _ _ _ hr, cell_of_row _ _ _ _ _ _ hr, cell_of_row _ _ _ _ _ _ hr⟩
  · exact ⟨cell_of_row _ _ _ _ _ _ hr, cell_of_row _ _ _ _ _ _ hr, cell_of_row _ _ _ _ _ _ hr, cell_of_row _ _ _ _ _ _ hr, cell_of_row _ _ _ _ _ _ hr, cell_of_row _ _ _ _ _ _ hr, cell_of_row _ _ _ _ _ _ hr, cell_of_row _ _ _ _ _ _ hr, cell_of_row _ _ _ _ _ _ hr, cell_of_row _ _ _ _ _ _ hr, cell_of_row _ _ _ _ _ _ hr⟩
  · exact ⟨cell_of_row _ _ _ _ _ _ hr, cell_of_row _ _ _ _ _ _ hr, cell_of_row _ _ _ _ _ _ hr, cell_of_row _ _ _ _ _ _ hr, cell_of_row _ _ _ _ _ _ hr, cell_of_row _ _ _ _ _ _ hr, cell_of_row _ _ _ _ _ _ hr, cell_of_row _ _ _ _ _ _ hr, cell_of_row _ _ _ _ _ _ hr, cell_of_row _ _ _ _ _ _ hr, cell_of_row _ _ _ _ _ _ hr⟩
set_option maxRecDepth 100000 in
theorem At11.keep {w w' : World} {b j : Nat} {F : Fr} (h : At11 w b j F) (g : w.grownBy w' none) : At11 w' b j F := by
  obtain ⟨h0, h1, h2, h3, h4, h5, h6, h7, h8, h9, h10⟩ := h
  exact ⟨g.cell h0 (by simp), g.cell h1 (by simp), g.cell h2 (by simp), g.cell h3 (by simp), g.cell h4 (by simp), g.cell h5 (by simp), g.cell h6 (by simp), g.cell h7 (by simp), g.cell h8 (by simp), g.cell h9 (by simp), g.cell h10 (by simp)⟩
set_option maxRecDepth 100000 in
theorem fsel_ok {w : World} {A B C : Fr} (h1 : FrOk w A) (h2 : FrOk w B) (h3 : FrOk w C) (j : Nat) : FrOk w (fsel A B C j) := by
  unfold fsel
  split <;> assumption
set_option maxRecDepth 100000 in
theorem keep13 {w0 w' : World} {a b : Nat} {v : Value} {P : Pk} (h : w0.heap[b]? = some (.cells (frcells v P) 33 (0, 0))) (hab : b ≠ a) (hT : Tp w' a) (hg : Hid (w0.grownBy w' (some a))) :
    w'.cell? ⟨b, 0, none⟩ = some v ∧ w'.cell? ⟨b, 1, none⟩ = some (.int .i64 P.mode) ∧ w'.cell? ⟨b, 2, none⟩ = some (.int .i64 P.sub) ∧ w'.cell? ⟨b, 3, none⟩ = some (.int .i64 P.set) ∧ w'.cell? ⟨b, 4, none⟩ = some (.int .i64 P.len) ∧ w'.cell? ⟨b, 5, none⟩ = some (.int .i64 P.ttl) ∧ w'.cell? ⟨b, 6, none⟩ = some (.int .i64 P.ent) ∧ w'.cell? ⟨b, 7, none⟩ = some (.int .i64 P.ing) ∧ w'.cell? ⟨b, 8, none⟩ = some (.int .i64 P.pro) ∧ w'.cell? ⟨b, 9, none⟩ = some (.int .u64 (P.bits : Int)) ∧ w'.cell? ⟨b, 10, none⟩ = some (.string P.pay) ∧ Tp w' a ∧ Hid (w0.grownBy w' (some a)) := by
  obtain ⟨h0, h1, h2, h3, h4, h5, h6, h7, h8, h9, h10⟩ := fr_facts (kept_row h hg.out (fun e => hab (Option.some.inj e)))
  exact ⟨h0, h1, h2, h3, h4, h5, h6, h7, h8, h9, h10, hT, hg⟩
end Go.Proofs.YtpabfjhjehjebaaDoor

/- The reference's Ints and Same, and the statements' sameLabels, at equal lists. -/
namespace Go.Proofs.YtpabfjhjehjebaaDoor
open Go.RowKit Bs
set_option maxRecDepth 100000 in
set_option maxHeartbeats 3200000 in
theorem rints_any (r : List Int) (p1 p2 : Option Addr) (c1 c2 : Nat) (q1 q2 : Nat → Prop) (w : World) (h1 : Rd w q1 (.slice p1 r.length c1) (r.map iv)) (h2 : Rd w q2 (.slice p2 r.length c2) (r.map iv)) (hm : r.length ≤ 9223372036854775807) :
    Calls Tryd.prog 34 #[.slice p1 r.length c1, .slice p2 r.length c2] w fun e w' => e = .returned (.bool true) ∧ w.grownBy w' none := by
  have H := Lib.hid (And.intro h1 h2)
  clear h1 h2
  go_enter Tryd.func34, Tryd.ntmps34
  go_wp2_with fail
  go_loopw [5] (fun a wr => ∃ k : Nat, k ≤ r.length ∧ a = .int .i64 (k : Int) ∧ w.grownBy wr none) (fun a _ => r.length - (intOf a).toNat)
  case atStart => exact ⟨0, Nat.zero_le _, rfl, grown_refl _ _⟩
  case round =>
    obtain ⟨k, hk, rfl, hG⟩ := hrel
    by_cases hlt : k < r.length
    · obtain ⟨b1, o1, rfl, _, hc1⟩ := rdi_cells (H.out.1.keep hG) (by omega)
      obtain ⟨b2, o2, rfl, _, hc2⟩ := rdi_cells (H.out.2.keep hG) (by omega)
      have e1 := hc1 k hlt
      have e2 := hc2 k hlt
      have HG := Lib.hid hG
      clear hc1 hc2 hG
      generalize r.getD k 0 = y at *
      go_wp2_with fail
      go_region
      have HG2 := Lib.hid (grown_drew HG.out)
      clear HG e1 e2
      change Exit.then _ _ _ _ wr.drew
      generalize wr.drew = w2 at *
      go_wp2_with fail
      exact ⟨⟨k + 1, by omega, congrArg _ (by omega), HG2.out⟩, by simp only [intOf]; omega⟩
    · obtain rfl : k = r.length := by omega
      have HG := Lib.hid hG
      clear hG
      go_wp2_with fail
      go_ret
      exact ⟨rfl, HG.out⟩
/-- The cells of a frame, each by its kind. -/
def gcells (v : Value) (n0 n1 n2 n3 n4 n5 n6 n7 n8 : Int) (s9 : ByteArray) : Array Value := #[v, .int .i64 n0, .int .i64 n1, .int .i64 n2, .int .i64 n3, .int .i64 n4, .int .i64 n5, .int .i64 n6, .int .i64 n7, .int .u64 n8, .string s9]
set_option maxRecDepth 100000 in
theorem g_facts {w : World} {b : Nat} {v : Value} {n0 n1 n2 n3 n4 n5 n6 n7 n8 : Int} {s9 : ByteArray} (h : w.heap[b]? = some (.cells (gcells v n0 n1 n2 n3 n4 n5 n6 n7 n8 s9) 33 (0, 0))) :
    w.cell? ⟨b, 0, none⟩ = some v ∧ w.cell? ⟨b, 1, none⟩ = some (.int .i64 n0) ∧ w.cell? ⟨b, 2, none⟩ = some (.int .i64 n1) ∧ w.cell? ⟨b, 3, none⟩ = some (.int .i64 n2) ∧ w.cell? ⟨b, 4, none⟩ = some (.int .i64 n3) ∧ w.cell? ⟨b, 5, none⟩ = some (.int .i64 n4) ∧ w.cell? ⟨b, 6, none⟩ = some (.int .i64 n5) ∧ w.cell? ⟨b, 7, none⟩ = some (.int .i64 n6) ∧ w.cell? ⟨b, 8, none⟩ = some (.int .i64 n7) ∧ w.cell? ⟨b, 9, none⟩ = some (.int .u64 n8) ∧ w.cell? ⟨b, 10, none⟩ = some (.string s9) :=
  ⟨cell_of_row _ _ _ _ _ _ h, cell_of_row _ _ _ _ _ _ h, cell_of_row _ _ _ _ _ _ h, cell_of_row _ _ _ _ _ _ h, cell_of_row _ _ _ _ _ _ h, cell_of_row _ _ _ _ _ _ h, cell_of_row _ _ _ _ _ _ h, cell_of_row _ _ _ _ _ _ h, cell_of_row _ _ _ _ _ _ h, cell_of_row _ _ _ _ _ _ h, cell_of_row _ _ _ _ _ _ h⟩
set_option maxRecDepth 100000 in
set_option maxHeartbeats 3200000 in
theorem rsame_any (r : List Int) (n0 n1 n2 n3 n4 n5 n6 n7 n8 : Int) (s9 : ByteArray) (p1 p2 : Option Addr) (c1 c2 : Nat) (q1 q2 : Nat → Prop) (w : World) (h1 : Rd w q1 (.slice p1 r.length c1) (r.map iv)) (h2 : Rd w q2 (.slice p2 r.length c2) (r.map iv)) (hm : r.length ≤ 9223372036854775807) :
    Calls Tryd.prog 11 #[.agg #[.slice p1 r.length c1, .int .i64 n0, .int .i64 n1, .int .i64 n2, .int .i64 n3, .int .i64 n4, .int .i64 n5, .int .i64 n6, .int .i64 n7, .int .u64 n8, .string s9], .agg #[.slice p2 r.length c2, .int .i64 n0, .int .i64 n1, .int .i64 n2, .int .i64 n3, .int .i64 n4, .int .i64 n5, .int .i64 n6, .int .i64 n7, .int .u64 n8, .string s9]] w fun e w' => e = .returned (.bool true) ∧ w.grownBy w' none := by
  obtain ⟨k1, k2, k3, k4⟩ := two_boxes w (gcells (.slice p1 r.length c1) n0 n1 n2 n3 n4 n5 n6 n7 n8 s9) (gcells (.slice p2 r.length c2) n0 n1 n2 n3 n4 n5 n6 n7 n8 s9) 33 33
  obtain ⟨a0, a1, a2, a3, a4, a5, a6, a7, a8, a9, a10⟩ := g_facts k1
  obtain ⟨b0, b1, b2, b3, b4, b5, b6, b7, b8, b9, b10⟩ := g_facts k2
  have H := Lib.hid (And.intro (h1.keep k3) (h2.keep k3))
  have K := Lib.hid k3
  clear k1 k2 k3 k4 h1 h2
  unfold gcells at *
  go_enter Tryd.func11, Tryd.ntmps11
  go_upto_region 1 with fail
  generalize (w.alloc _).alloc _ = wa at *
  go_wp2_with (go_at_call 34; refine (rints_any r p1 p2 c1 c2 _ _ wa H.out.1 H.out.2 hm).mono ?_; rintro e w' ⟨rfl, hg⟩; have G := Lib.hid hg; clear hg)
  go_ret
  exact ⟨rfl, grown_trans K.out G.out⟩
end Go.Proofs.YtpabfjhjehjebaaDoor

/- packet: the chapter's example. -/
namespace Go.Proofs.YtpabfjhjehjebaaDoor
open Go.RowKit Bs
/-- The example's packet. -/
def exP : Pk := ⟨1, 0, 0, 8, 0, 0, 0, 0, 0, ⟨#[]⟩⟩
set_option maxRecDepth 100000 in
theorem ex_valid : vpk exP = true := by decide +kernel
set_option maxRecDepth 100000 in
theorem ex_enc : enc exP = [144, 0, 0, 0, 0, 0, 0, 109, 76, 0] := by decide +kernel
set_option maxRecDepth 100000 in
theorem ex_size : sizeV exP = 10 := by decide +kernel
set_option maxRecDepth 100000 in
theorem ex_wf : exP.Wf := ⟨by unfold I64; decide, by unfold I64; decide, by unfold I64; decide, by unfold I64; decide, by unfold I64; decide, by unfold I64; decide, by unfold I64; decide, by unfold I64; decide, by unfold U64; decide, by decide⟩
set_option maxRecDepth 100000 in
theorem ex_dec : decV [144, 0, 0, 0, 0, 0, 0, 109, 76, 0] = (#[.int .i64 1, .int .i64 0, .int .i64 0, .int .i64 8, .int .i64 0, .int .i64 0, .int .i64 0, .int .i64 0, .int .u64 0, .string ⟨#[]⟩], 0) := by kernel_rfl
end Go.Proofs.YtpabfjhjehjebaaDoor

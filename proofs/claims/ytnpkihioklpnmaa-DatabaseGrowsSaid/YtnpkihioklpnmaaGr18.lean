/- Parts of the proof, packed: DbGrLaw. -/
import Derived.Test.YtnpkihioklpnmaaGr17
import Derived.Test.YtnpkihioklpnmaaGr9
import Derived.Deep.CutBlock
import Derived.Deep.CutRange
/- The law DatabaseGrows. -/
namespace Go.Proofs.Ytnpkihioklpnmaa
open Go.RowKit Bs
set_option maxRecDepth 100000 in
set_option maxHeartbeats 25600000 in
theorem grows_walk (v : Value) (w : World) (hv : IntsIn w v) :
    Calls Try.prog 6 #[v] w fun e w' => e = .returned (.bool true) ∧ w.grownBy w' none := by
  go_enter Try.func6, Try.ntmps6
  go_wp2_with fail
  refine (new_any v w hv).mono ?_
  rintro e w1 ⟨rfl, hg1, hT1⟩
  obtain ⟨a, ha⟩ : ∃ a, w.heap.size = a := ⟨_, rfl⟩
  have HG : Hid (w.grownBy w1 none ∧ w.heap.size ≤ a) := Lib.hid ⟨hg1, Nat.le_of_eq ha⟩
  rw [ha] at hT1 ⊢
  have HT := Lib.hid hT1
  clear hg1 hT1 ha hv
  go_wp2_with fail
  refine (tdb_any a 0 (by unfold I64; omega) _ HT.out).mono ?_
  rintro e w2 ⟨l1, p1, c1, rfl, h7, hdl, hdv, hrd, hc, hn, hs⟩
  have h2 := dm_of h7 hdl hrd hc hn
  have HO1 := Lib.hid (dv_ok (hdv (by omega)))
  have H1 : Hid (DM w2 (· ≠ a) l1 p1 c1 ∧ w.grownBy w2 none ∧ w.heap.size ≤ a ∧ Tp w2 a) := Lib.hid ⟨h2.mono (fun b hb => by have := HT.out.lt; omega), grown_new HG.out.1 hs.1 HG.out.2, HG.out.2, hs.2⟩
  clear h7 hdl hdv hrd hc hn hs h2 HT HG
  go_wp2_with fail
  refine (tdb_any a 0 (by unfold I64; omega) _ H1.out.2.2.2).mono ?_
  rintro e w3 ⟨l2, p2, c2, rfl, h7, hdl, hdv, hrd, hc, hn, hs⟩
  have h2 := dm_of h7 hdl hrd hc hn
  have HO2 := Lib.hid (dv_ok (hdv (by omega)))
  have H2 : Hid (DM w3 (· ≠ a) l2 p2 c2 ∧ DM w3 (· ≠ a) l1 p1 c1 ∧ w.grownBy w3 none ∧ w.heap.size ≤ a ∧ Tp w3 a) := Lib.hid ⟨h2.mono (fun b hb => by have := H1.out.2.2.2.lt; omega), H1.out.1.grown hs.1 (fun b hb e => hb (Option.some.inj e)), grown_new H1.out.2.1 hs.1 H1.out.2.2.1, H1.out.2.2.1, hs.2⟩
  clear h7 hdl hdv hrd hc hn hs h2 H1
  obtain ⟨k1, k2, k3, k4⟩ := two_boxes w3 #[.slice p1 l1.length c1] #[.slice p2 l2.length c2] 25 25
  have H3 : Hid (PB a _ w3.heap.size l1 p1 c1 ∧ PB a _ (w3.heap.size + 1) l2 p2 c2 ∧ Tp _ a ∧ w.grownBy _ none ∧ w.heap.size ≤ a) := Lib.hid ⟨⟨k1, H2.out.2.1.keep k3, by have := H2.out.2.2.2.2.lt; omega⟩, ⟨k2, H2.out.1.keep k3, by have := H2.out.2.2.2.2.lt; omega⟩, H2.out.2.2.2.2.keep k3, grown_trans H2.out.2.2.1 k3, H2.out.2.2.2.1⟩
  clear k1 k2 k3 k4 H2
  go_upto_region 3 with fail
  generalize hw : (w3.alloc _).alloc _ = w4 at *
  generalize w3.heap.size = n4 at *
  clear hw w3
  have q4 := H3.out.1.cell
  have q5 := H3.out.2.1.cell
  go_wp2_with fail
  refine (dmerge_any l1 l2 p1 p2 c1 c2 _ _ _ H3.out.1.d.r H3.out.1.d.n H3.out.1.d.c H3.out.1.d.m H3.out.1.d.s H3.out.2.1.d.r H3.out.2.1.d.m H3.out.2.1.d.s).mono ?_
  rintro e w5 ⟨m6, p6, c6, rfl, hf, hrd, hc, hn, hg⟩
  rw [(mgV_of HO1.out HO2.out).2]
  have HG6 := Lib.hid (And.intro (grow_mg HO1.out HO2.out hf) (okD_congr (mgV_ok _ _) hf))
  have hd := dm_ok (mgV_ok _ _) hf hrd hc hn
  obtain ⟨n1, n2⟩ := tone_box w5 #[.slice p6 m6.length c6] 25
  have hlt := H3.out.2.2.1.lt
  have H4 : Hid (GS w a n4 l1 p1 c1 w5.heap.size m6 p6 c6 _) := Lib.hid ⟨(H3.out.1.keep hg).keep n2, ⟨n1, (hd.keep n2).mono (fun b hb => by omega), by have := hg.size; omega⟩, (H3.out.2.2.1.keep hg).keep n2, grown_trans (grown_trans H3.out.2.2.2.1 hg) n2, H3.out.2.2.2.2⟩
  clear hf hrd hc hn hg hd n1 n2 H3 q4 q5 hlt
  go_upto_region 4 with fail
  generalize hw : w5.alloc _ = w6 at *
  generalize w5.heap.size = n6 at *
  clear hw w5
  go_cut [8, 9] from 27 to 35 (fun u o wx => ∃ (n8 : Nat) (m8 : List Ad) (p8 : Option Addr) (c8 : Nat) (pz : Bool), u = .pointer (some ⟨n8, 0, none⟩) ∧ o = .bool pz ∧ Hid (GS w a n4 l1 p1 c1 n6 m6 p6 c6 wx ∧ BM wx n8 m8 p8 c8 ∧ GrowP l1 m8 ∧ OkD m8))
  case first =>
    have HD := Lib.hid (H4.out.keep (grown_drew (grown_refl w6 none)))
    have HN6 : Hid (w6.heap.size ≤ w6.heap.size) := Lib.hid (Nat.le_refl _)
    have HGR : Hid (St a w6 w6.drew) := Lib.hid ⟨grown_drew (grown_refl w6 _), H4.out.t.drew⟩
    refine region_until2 (S := fun w' => Hid (GS w a n4 l1 p1 c1 n6 m6 p6 c6 w')) (fun j => j == 10 || j == 11) (by kernel_rfl) (HD) (fun hHeld => ?_)
    refine anyV_take (i := 0) (oi := { dst := some 28, op := Op.load 25 (Operand.tmp 4), type := 25, pos := "law.go:102", after := #[], guard := none }) (v := ?_) rfl (by kernel_rfl) (by kernel_rfl) (by kernel_rfl) (by kernel_rfl) (by kernel_rfl) (fun _ _ _ h => h) (Or.inl ⟨by rfl, ?_⟩) hHeld ?_
    rotate_left 1
    · intro u hSu
      have q4 := hSu.out.x.cell
      go_simp
      first | done | with_reducible rfl
    (try simp only [Act.put, List.setIfInBounds_toArray, List.set_cons_zero, List.set_cons_succ])
    refine anyV_take (i := 1) (oi := { dst := some 29, op := Op.move (Operand.tmp 3), type := 26, pos := "law.go:102", after := #[], guard := none }) (v := ?_) rfl (by kernel_rfl) (by kernel_rfl) (by kernel_rfl) (by kernel_rfl) (by kernel_rfl) (fun _ _ _ h => h) (Or.inl ⟨by rfl, ?_⟩) hHeld ?_
    rotate_left 1
    · intro u hSu
      have q4 := hSu.out.x.cell
      go_simp
      first | done | with_reducible rfl
    (try simp only [Act.put, List.setIfInBounds_toArray, List.set_cons_zero, List.set_cons_succ])
    refine anyV_take (i := 2) (oi := { dst := some 30, op := Op.move (Operand.tmp 3), type := 26, pos := "law.go:102", after := #[], guard := none }) (v := ?_) rfl (by kernel_rfl) (by kernel_rfl) (by kernel_rfl) (by kernel_rfl) (by kernel_rfl) (fun _ _ _ h => h) (Or.inl ⟨by rfl, ?_⟩) hHeld ?_
    rotate_left 1
    · intro u hSu
      have q4 := hSu.out.x.cell
      go_simp
      first | done | with_reducible rfl
    (try simp only [Act.put, List.setIfInBounds_toArray, List.set_cons_zero, List.set_cons_succ])
    refine anyV_ready (rs := [3, 9]) (by kernel_rfl) (by simp) ?_
    refine EachV.cons (o := { dst := some 31, op := Op.call { callee := Callee.value (Operand.func 18), args := #[Operand.tmp 30, Operand.const (Value.int IntKind.i64 1), Operand.const (Value.int IntKind.i64 7)], argTypes := #[26, 3, 3] }, type := 3, pos := "law.go:102", after := #[{ on := 2, ground := Ground.data }], guard := none }) rfl (fun Kz hK => ?_) (EachV.cons (o := { dst := some 8, op := Op.alloc 25, type := 0, pos := "law.go:102", after := #[], guard := none }) rfl (fun Kz hK => ?_) EachV.nil)
    · go_simp
      go_at_call 18
      refine (range_any a 1 7 (by omega) (by omega) (by omega) (by omega) _ hHeld.out.t).mono ?_
      rintro e w7 ⟨R, rfl, hR, hs⟩
      have HR := Lib.hid hR
      have HDn := Lib.hid (hHeld.out.tape hs)
      try replace HS9 := Lib.hid (show ∀ b, b = _ → _ from fun b hb => (HS9.out b hb).tape hs)
      clear hR
      have HGN := Lib.hid (HGR.out.trans hs)
      clear HGR
      have HGR := HGN
      clear HGN
      clear hs
      refine hK.out _ _ (fun _ _ => HDn) (fun hH2 => ?_)
      have hHeld2 := hH2 rfl hHeld
      clear hK Kz hHeld hH2
      have hHeld := hHeld2
      clear hHeld2
      (try simp only [Act.put, List.setIfInBounds_toArray, List.set_cons_zero, List.set_cons_succ])
      refine anyV_ready (rs := [4, 9]) (by kernel_rfl) (by simp) ?_
      refine EachV.cons (o := { dst := some 32, op := Op.call { callee := Callee.value (Operand.func 23), args := #[Operand.tmp 29, Operand.tmp 31, Operand.const (Value.int IntKind.i64 0)], argTypes := #[26, 3, 3] }, type := 38, pos := "law.go:102", after := #[{ on := 1, ground := Ground.data }, { on := 3, ground := Ground.data }, { on := 3, ground := Ground.chain }], guard := none }) rfl (fun Kz hK => ?_) (EachV.cons (o := { dst := some 8, op := Op.alloc 25, type := 0, pos := "law.go:102", after := #[], guard := none }) rfl (fun Kz hK => ?_) EachV.nil)
      · go_simp
        go_at_call 23
        refine (adv3_any a R 0 (by have := HR.out.1; have := HR.out.2.1 (by omega); unfold I64; omega) (by unfold I64; omega) _ hHeld.out.t).mono ?_
        rintro e w8 ⟨A, rfl, hta, hok, hs, hnl⟩
        rw [show A.val = .agg #[.int .i64 A.r, .int .i64 A.q, .bool A.cp, .slice A.pL A.L.length A.cL, .slice A.pC A.C.length A.cC] from rfl]
        have HV := Lib.hid (hta.valid (by omega) (by have := HR.out.1; have := HR.out.2.1 (by omega); omega)).1
        have HTA := Lib.hid (And.intro hta.ll (And.intro hta.cl hnl))
        have HOK := Lib.hid (hok.mono (q' := (· ≠ a)) (fun b hb => by have := hHeld.out.t.lt; omega))
        have HDn2 := Lib.hid (hHeld.out.tape hs)
        try replace HS9 := Lib.hid (show ∀ b, b = _ → _ from fun b hb => (HS9.out b hb).tape hs)
        clear hta hok hnl
        have HGN := Lib.hid (HGR.out.trans hs)
        clear HGR
        have HGR := HGN
        clear HGN
        clear hs
        refine hK.out _ _ (fun _ _ => HDn2) (fun hH2 => ?_)
        have hHeld2 := hH2 rfl hHeld
        clear hK Kz hHeld hH2
        have hHeld := hHeld2
        clear hHeld2
        (try simp only [Act.put, List.setIfInBounds_toArray, List.set_cons_zero, List.set_cons_succ])
        refine anyV_ready (rs := [5, 9]) (by kernel_rfl) (by simp) ?_
        refine EachV.cons (o := { dst := some 33, op := Op.call { callee := Callee.value (Operand.func 26), args := #[Operand.tmp 28, Operand.tmp 32], argTypes := #[25, 38] }, type := 47, pos := "law.go:102", after := #[{ on := 0, ground := Ground.data }, { on := 4, ground := Ground.data }, { on := 4, ground := Ground.chain }], guard := none }) rfl (fun Kz hK => ?_) (EachV.cons (o := { dst := some 8, op := Op.alloc 25, type := 0, pos := "law.go:102", after := #[], guard := none }) rfl (fun Kz hK => ?_) EachV.nil)
        · go_simp
          try have HQ9 := Lib.hid (nbx_lt HS9.out)
          go_at_call 26
          refine (dput_any l1 A p1 c1 _ _ hHeld.out.x.d.r hHeld.out.x.d.n hHeld.out.x.d.c hHeld.out.x.d.m hHeld.out.x.d.s HOK.out HTA.out.2.2 (by have := HTA.out.1; have := HTA.out.2.1; omega)).mono ?_
          rintro e w9 ⟨m8, p8, c8, rfl, hf, hrd, hc, hn, hg⟩
          have HF := Lib.hid (And.intro (grow_put HO1.out HV.out hf) (put_ok HO1.out HV.out hf))
          have HDM := Lib.hid (dm_ok (put_ok HO1.out HV.out hf) rfl hrd hc hn)
          have HDn3 := Lib.hid (hHeld.out.keep hg)
          try replace HS9 := Lib.hid (show ∀ b, b = _ → _ from fun b hb => (HS9.out b hb).keep hg)
          clear hf hrd hc hn
          have HGN := Lib.hid (HGR.out.none_ hg)
          clear HGR
          have HGR := HGN
          clear HGN
          clear hg
          refine hK.out _ _ (fun _ _ => HDn3) (fun hH2 => ?_)
          have hHeld2 := hH2 rfl hHeld
          clear hK Kz hHeld hH2
          have hHeld := hHeld2
          clear hHeld2
          (try simp only [Act.put, List.setIfInBounds_toArray, List.set_cons_zero, List.set_cons_succ])
          refine anyV_take (i := 6) (oi := { dst := some 27, op := Op.move (Operand.tmp 33), type := 47, pos := "law.go:102", after := #[{ on := 5, ground := Ground.data }], guard := none }) (v := ?_) rfl (by kernel_rfl) (by kernel_rfl) (by kernel_rfl) (by kernel_rfl) (by kernel_rfl) (fun _ _ _ h => h) (Or.inl ⟨by rfl, ?_⟩) hHeld ?_
          rotate_left 1
          · intro u hSu
            have q4 := hSu.out.x.cell
            go_simp
            first | done | with_reducible rfl
          (try simp only [Act.put, List.setIfInBounds_toArray, List.set_cons_zero, List.set_cons_succ])
          refine anyV_take (i := 7) (oi := { dst := some 34, op := Op.extract (Operand.tmp 27) 0, type := 25, pos := "law.go:102", after := #[{ on := 6, ground := Ground.data }], guard := none }) (v := ?_) rfl (by kernel_rfl) (by kernel_rfl) (by kernel_rfl) (by kernel_rfl) (by kernel_rfl) (fun _ _ _ h => h) (Or.inl ⟨by rfl, ?_⟩) hHeld ?_
          rotate_left 1
          · intro u hSu
            have q4 := hSu.out.x.cell
            go_simp
            first | done | with_reducible rfl
          (try simp only [Act.put, List.setIfInBounds_toArray, List.set_cons_zero, List.set_cons_succ])
          refine anyV_ready (rs := [8, 9]) (by kernel_rfl) (by simp) ?_
          refine EachV.cons (o := { dst := some 35, op := Op.extract (Operand.tmp 27) 1, type := 4, pos := "law.go:102", after := #[{ on := 6, ground := Ground.data }, { on := 10, ground := Ground.gcOnly Departure.lateStores }], guard := none }) rfl (fun Kz hK => ?_) (EachV.cons (o := { dst := some 8, op := Op.alloc 25, type := 0, pos := "law.go:102", after := #[], guard := none }) rfl (fun Kz hK => ?_) EachV.nil)
          · go_simp
            refine hK.out _ _ (fun _ h => h) (fun _ => ?_)
            clear hK Kz
            (try simp only [Act.put, List.setIfInBounds_toArray, List.set_cons_zero, List.set_cons_succ])
            refine anyV_ready (rs := [9]) (by kernel_rfl) (by simp) ?_
            refine EachV.cons (o := { dst := some 8, op := Op.alloc 25, type := 0, pos := "law.go:102", after := #[], guard := none }) rfl (fun Kz hK => ?_) EachV.nil
            go_simp
            try have HE2 := Lib.hid (And.intro (hHeld.out.keep (bm_gr _ p8 m8.length c8)) (bm_new HDM.out))
            try replace HOK := Lib.hid (HOK.out.keep (World.grownBy_alloc _ (.cells #[.slice none 0 0] 25) none))
            have HSN := nbx_start (a := a) (N := w6.heap.size) hHeld.out.t HGR.out.1.size
            have hHn := Lib.hid (hHeld.out.keep (World.grownBy_alloc _ (.cells #[.slice none 0 0] 25) none))
            have HS9 := Lib.hid HSN
            clear HSN
            have HGN := Lib.hid (HGR.out.none_ (World.grownBy_alloc _ (.cells #[.slice none 0 0] 25) none))
            clear HGR
            have HGR := HGN
            clear HGN
            refine hK.out _ _ (fun _ _ => hHn) (fun hH2 => ?_)
            have hHeld2 := hH2 rfl hHeld
            clear hK Kz hHeld hH2
            have hHeld := hHeld2
            clear hHeld2
            (try simp only [Act.put, List.setIfInBounds_toArray, List.set_cons_zero, List.set_cons_succ])
            refine anyV_ready (rs := [10]) (by kernel_rfl) (by simp) ?_
            refine EachV.cons (o := { dst := none, op := Op.store 25 (Operand.tmp 8) (Operand.tmp 34), type := 0, pos := "law.go:102", after := #[{ on := 9, ground := Ground.data }, { on := 7, ground := Ground.data }, { on := 5, ground := Ground.chain }, { on := 0, ground := Ground.phase }, { on := 1, ground := Ground.phase }, { on := 2, ground := Ground.phase }, { on := 3, ground := Ground.phase }, { on := 4, ground := Ground.phase }, { on := 5, ground := Ground.phase }, { on := 6, ground := Ground.phase }, { on := 7, ground := Ground.phase }, { on := 8, ground := Ground.textOnly Departure.lateStores }, { on := 9, ground := Ground.phase }], guard := none }) rfl (fun Kz hK => ?_) EachV.nil
            have hna := HS9.out _ (by first | rfl | simp)
            have k0 : World.cell? _ ⟨_, 0, none⟩ = some (.slice none 0 0) := cell_of_row _ _ _ _ _ _ hna.bx
            have f0 := frozen_of_row _ _ 0 _ _ hna.bx
            try (have hna2 : NBx a _ w6.heap.size _ := hna; have j0 : World.cell? _ ⟨_, 0, none⟩ = some (.slice none 0 0) := cell_of_row _ _ _ _ _ _ hna2.bx; have g0 := frozen_of_row _ _ 0 _ _ hna2.bx)
            try have hfl := hna.fill HDM.out HQ9.out
            try have HE := Lib.hid (And.intro (H4.out.tape (HGR.out.newA hfl.2 hna.lo H4.out.t.lt)) hfl.1)
            go_simp
            refine hK.out _ _ (fun h => by cases h) (fun _ => ?_)
            clear hK Kz
            (try simp only [Act.put, List.setIfInBounds_toArray, List.set_cons_zero, List.set_cons_succ])
            refine anyV_ready (rs := [11]) (by kernel_rfl) (by simp) ?_
            refine EachV.cons (o := { dst := some 9, op := Op.assign (Operand.tmp 35), type := 4, pos := "law.go:102", after := #[{ on := 8, ground := Ground.data }, { on := 10, ground := Ground.chain }, { on := 0, ground := Ground.phase }, { on := 1, ground := Ground.phase }, { on := 2, ground := Ground.phase }, { on := 3, ground := Ground.phase }, { on := 4, ground := Ground.phase }, { on := 5, ground := Ground.phase }, { on := 6, ground := Ground.phase }, { on := 7, ground := Ground.phase }, { on := 8, ground := Ground.phase }, { on := 9, ground := Ground.phase }, { on := 10, ground := Ground.phase }], guard := none }) rfl (fun Kz hK => ?_) EachV.nil
            go_simp
            refine hK.out _ _ (fun h => by cases h) (fun _ => ?_)
            clear hK Kz
            (try simp only [Act.put, List.setIfInBounds_toArray, List.set_cons_zero, List.set_cons_succ])
            refine anyV_done (by kernel_rfl) ?_ _
            clear HD HS9
            go_wp2_with fail
            go_meet
            first | exact ⟨_, m8, p8, c8, _, rfl, rfl, Lib.hid ⟨HE2.out.1, HE2.out.2, HF.out.1, HF.out.2⟩⟩ | exact ⟨_, m8, p8, c8, _, rfl, rfl, Lib.hid ⟨HE.out.1, HE.out.2, HF.out.1, HF.out.2⟩⟩
          · go_simp
            try have HE2 := Lib.hid (And.intro (hHeld.out.keep (bm_gr _ p8 m8.length c8)) (bm_new HDM.out))
            try replace HOK := Lib.hid (HOK.out.keep (World.grownBy_alloc _ (.cells #[.slice none 0 0] 25) none))
            have HSN := nbx_start (a := a) (N := w6.heap.size) hHeld.out.t HGR.out.1.size
            have hHn := Lib.hid (hHeld.out.keep (World.grownBy_alloc _ (.cells #[.slice none 0 0] 25) none))
            have HS9 := Lib.hid HSN
            clear HSN
            have HGN := Lib.hid (HGR.out.none_ (World.grownBy_alloc _ (.cells #[.slice none 0 0] 25) none))
            clear HGR
            have HGR := HGN
            clear HGN
            refine hK.out _ _ (fun _ _ => hHn) (fun hH2 => ?_)
            have hHeld2 := hH2 rfl hHeld
            clear hK Kz hHeld hH2
            have hHeld := hHeld2
            clear hHeld2
            (try simp only [Act.put, List.setIfInBounds_toArray, List.set_cons_zero, List.set_cons_succ])
            refine anyV_ready (rs := [8, 10]) (by kernel_rfl) (by simp) ?_
            refine EachV.cons (o := { dst := some 35, op := Op.extract (Operand.tmp 27) 1, type := 4, pos := "law.go:102", after := #[{ on := 6, ground := Ground.data }, { on := 10, ground := Ground.gcOnly Departure.lateStores }], guard := none }) rfl (fun Kz hK => ?_) (EachV.cons (o := { dst := none, op := Op.store 25 (Operand.tmp 8) (Operand.tmp 34), type := 0, pos := "law.go:102", after := #[{ on := 9, ground := Ground.data }, { on := 7, ground := Ground.data }, { on := 5, ground := Ground.chain }, { on := 0, ground := Ground.phase }, { on := 1, ground := Ground.phase }, { on := 2, ground := Ground.phase }, { on := 3, ground := Ground.phase }, { on := 4, ground := Ground.phase }, { on := 5, ground := Ground.phase }, { on := 6, ground := Ground.phase }, { on := 7, ground := Ground.phase }, { on := 8, ground := Ground.textOnly Departure.lateStores }, { on := 9, ground := Ground.phase }], guard := none }) rfl (fun Kz hK => ?_) EachV.nil)
            · go_simp
              refine hK.out _ _ (fun _ h => h) (fun _ => ?_)
              clear hK Kz
              (try simp only [Act.put, List.setIfInBounds_toArray, List.set_cons_zero, List.set_cons_succ])
              refine anyV_ready (rs := [10]) (by kernel_rfl) (by simp) ?_
              refine EachV.cons (o := { dst := none, op := Op.store 25 (Operand.tmp 8) (Operand.tmp 34), type := 0, pos := "law.go:102", after := #[{ on := 9, ground := Ground.data }, { on := 7, ground := Ground.data }, { on := 5, ground := Ground.chain }, { on := 0, ground := Ground.phase }, { on := 1, ground := Ground.phase }, { on := 2, ground := Ground.phase }, { on := 3, ground := Ground.phase }, { on := 4, ground := Ground.phase }, { on := 5, ground := Ground.phase }, { on := 6, ground := Ground.phase }, { on := 7, ground := Ground.phase }, { on := 8, ground := Ground.textOnly Departure.lateStores }, { on := 9, ground := Ground.phase }], guard := none }) rfl (fun Kz hK => ?_) EachV.nil
              have hna := HS9.out _ (by first | rfl | simp)
              have k0 : World.cell? _ ⟨_, 0, none⟩ = some (.slice none 0 0) := cell_of_row _ _ _ _ _ _ hna.bx
              have f0 := frozen_of_row _ _ 0 _ _ hna.bx
              try (have hna2 : NBx a _ w6.heap.size _ := hna; have j0 : World.cell? _ ⟨_, 0, none⟩ = some (.slice none 0 0) := cell_of_row _ _ _ _ _ _ hna2.bx; have g0 := frozen_of_row _ _ 0 _ _ hna2.bx)
              try have hfl := hna.fill HDM.out HQ9.out
              try have HE := Lib.hid (And.intro (H4.out.tape (HGR.out.newA hfl.2 hna.lo H4.out.t.lt)) hfl.1)
              go_simp
              refine hK.out _ _ (fun h => by cases h) (fun _ => ?_)
              clear hK Kz
              (try simp only [Act.put, List.setIfInBounds_toArray, List.set_cons_zero, List.set_cons_succ])
              refine anyV_ready (rs := [11]) (by kernel_rfl) (by simp) ?_
              refine EachV.cons (o := { dst := some 9, op := Op.assign (Operand.tmp 35), type := 4, pos := "law.go:102", after := #[{ on := 8, ground := Ground.data }, { on := 10, ground := Ground.chain }, { on := 0, ground := Ground.phase }, { on := 1, ground := Ground.phase }, { on := 2, ground := Ground.phase }, { on := 3, ground := Ground.phase }, { on := 4, ground := Ground.phase }, { on := 5, ground := Ground.phase }, { on := 6, ground := Ground.phase }, { on := 7, ground := Ground.phase }, { on := 8, ground := Ground.phase }, { on := 9, ground := Ground.phase }, { on := 10, ground := Ground.phase }], guard := none }) rfl (fun Kz hK => ?_) EachV.nil
              go_simp
              refine hK.out _ _ (fun h => by cases h) (fun _ => ?_)
              clear hK Kz
              (try simp only [Act.put, List.setIfInBounds_toArray, List.set_cons_zero, List.set_cons_succ])
              refine anyV_done (by kernel_rfl) ?_ _
              clear HD HS9
              go_wp2_with fail
              go_meet
              first | exact ⟨_, m8, p8, c8, _, rfl, rfl, Lib.hid ⟨HE2.out.1, HE2.out.2, HF.out.1, HF.out.2⟩⟩ | exact ⟨_, m8, p8, c8, _, rfl, rfl, Lib.hid ⟨HE.out.1, HE.out.2, HF.out.1, HF.out.2⟩⟩
            · have hna := HS9.out _ (by first | rfl | simp)
              have k0 : World.cell? _ ⟨_, 0, none⟩ = some (.slice none 0 0) := cell_of_row _ _ _ _ _ _ hna.bx
              have f0 := frozen_of_row _ _ 0 _ _ hna.bx
              try (have hna2 : NBx a _ w6.heap.size _ := hna; have j0 : World.cell? _ ⟨_, 0, none⟩ = some (.slice none 0 0) := cell_of_row _ _ _ _ _ _ hna2.bx; have g0 := frozen_of_row _ _ 0 _ _ hna2.bx)
              try have hfl := hna.fill HDM.out HQ9.out
              try have HE := Lib.hid (And.intro (H4.out.tape (HGR.out.newA hfl.2 hna.lo H4.out.t.lt)) hfl.1)
              go_simp
              refine hK.out _ _ (fun h => by cases h) (fun _ => ?_)
              clear hK Kz
              (try simp only [Act.put, List.setIfInBounds_toArray, List.set_cons_zero, List.set_cons_succ])
              refine anyV_ready (rs := [8]) (by kernel_rfl) (by simp) ?_
              refine EachV.cons (o := { dst := some 35, op := Op.extract (Operand.tmp 27) 1, type := 4, pos := "law.go:102", after := #[{ on := 6, ground := Ground.data }, { on := 10, ground := Ground.gcOnly Departure.lateStores }], guard := none }) rfl (fun Kz hK => ?_) EachV.nil
              go_simp
              refine hK.out _ _ (fun _ h => h) (fun _ => ?_)
              clear hK Kz
              (try simp only [Act.put, List.setIfInBounds_toArray, List.set_cons_zero, List.set_cons_succ])
              refine anyV_ready (rs := [11]) (by kernel_rfl) (by simp) ?_
              refine EachV.cons (o := { dst := some 9, op := Op.assign (Operand.tmp 35), type := 4, pos := "law.go:102", after := #[{ on := 8, ground := Ground.data }, { on := 10, ground := Ground.chain }, { on := 0, ground := Ground.phase }, { on := 1, ground := Ground.phase }, { on := 2, ground := Ground.phase }, { on := 3, ground := Ground.phase }, { on := 4, ground := Ground.phase }, { on := 5, ground := Ground.phase }, { on := 6, ground := Ground.phase }, { on := 7, ground := Ground.phase }, { on := 8, ground := Ground.phase }, { on := 9, ground := Ground.phase }, { on := 10, ground := Ground.phase }], guard := none }) rfl (fun Kz hK => ?_) EachV.nil
              go_simp
              refine hK.out _ _ (fun h => by cases h) (fun _ => ?_)
              clear hK Kz
              (try simp only [Act.put, List.setIfInBounds_toArray, List.set_cons_zero, List.set_cons_succ])
              refine anyV_done (by kernel_rfl) ?_ _
              clear HD HS9
              go_wp2_with fail
              go_meet
              first | exact ⟨_, m8, p8, c8, _, rfl, rfl, Lib.hid ⟨HE2.out.1, HE2.out.2, HF.out.1, HF.out.2⟩⟩ | exact ⟨_, m8, p8, c8, _, rfl, rfl, Lib.hid ⟨HE.out.1, HE.out.2, HF.out.1, HF.out.2⟩⟩
        · go_simp
          try have HE2 := Lib.hid (And.intro (hHeld.out.keep (bm_gr _ p8 m8.length c8)) (bm_new HDM.out))
          try replace HOK := Lib.hid (HOK.out.keep (World.grownBy_alloc _ (.cells #[.slice none 0 0] 25) none))
          have HSN := nbx_start (a := a) (N := w6.heap.size) hHeld.out.t HGR.out.1.size
          have hHn := Lib.hid (hHeld.out.keep (World.grownBy_alloc _ (.cells #[.slice none 0 0] 25) none))
          have HS9 := Lib.hid HSN
          clear HSN
          have HGN := Lib.hid (HGR.out.none_ (World.grownBy_alloc _ (.cells #[.slice none 0 0] 25) none))
          clear HGR
          have HGR := HGN
          clear HGN
          refine hK.out _ _ (fun _ _ => hHn) (fun hH2 => ?_)
          have hHeld2 := hH2 rfl hHeld
          clear hK Kz hHeld hH2
          have hHeld := hHeld2
          clear hHeld2
          (try simp only [Act.put, List.setIfInBounds_toArray, List.set_cons_zero, List.set_cons_succ])
          refine anyV_ready (rs := [5]) (by kernel_rfl) (by simp) ?_
          refine EachV.cons (o := { dst := some 33, op := Op.call { callee := Callee.value (Operand.func 26), args := #[Operand.tmp 28, Operand.tmp 32], argTypes := #[25, 38] }, type := 47, pos := "law.go:102", after := #[{ on := 0, ground := Ground.data }, { on := 4, ground := Ground.data }, { on := 4, ground := Ground.chain }], guard := none }) rfl (fun Kz hK => ?_) EachV.nil
          go_simp
          try have HQ9 := Lib.hid (nbx_lt HS9.out)
          go_at_call 26
          refine (dput_any l1 A p1 c1 _ _ hHeld.out.x.d.r hHeld.out.x.d.n hHeld.out.x.d.c hHeld.out.x.d.m hHeld.out.x.d.s HOK.out HTA.out.2.2 (by have := HTA.out.1; have := HTA.out.2.1; omega)).mono ?_
          rintro e w9 ⟨m8, p8, c8, rfl, hf, hrd, hc, hn, hg⟩
          have HF := Lib.hid (And.intro (grow_put HO1.out HV.out hf) (put_ok HO1.out HV.out hf))
          have HDM := Lib.hid (dm_ok (put_ok HO1.out HV.out hf) rfl hrd hc hn)
          have HDn3 := Lib.hid (hHeld.out.keep hg)
          try replace HS9 := Lib.hid (show ∀ b, b = _ → _ from fun b hb => (HS9.out b hb).keep hg)
          clear hf hrd hc hn
          have HGN := Lib.hid (HGR.out.none_ hg)
          clear HGR
          have HGR := HGN
          clear HGN
          clear hg
          refine hK.out _ _ (fun _ _ => HDn3) (fun hH2 => ?_)
          have hHeld2 := hH2 rfl hHeld
          clear hK Kz hHeld hH2
          have hHeld := hHeld2
          clear hHeld2
          (try simp only [Act.put, List.setIfInBounds_toArray, List.set_cons_zero, List.set_cons_succ])
          refine anyV_take (i := 6) (oi := { dst := some 27, op := Op.move (Operand.tmp 33), type := 47, pos := "law.go:102", after := #[{ on := 5, ground := Ground.data }], guard := none }) (v := ?_) rfl (by kernel_rfl) (by kernel_rfl) (by kernel_rfl) (by kernel_rfl) (by kernel_rfl) (fun _ _ _ h => h) (Or.inl ⟨by rfl, ?_⟩) hHeld ?_
          rotate_left 1
          · intro u hSu
            have q4 := hSu.out.x.cell
            go_simp
            first | done | with_reducible rfl
          (try simp only [Act.put, List.setIfInBounds_toArray, List.set_cons_zero, List.set_cons_succ])
          refine anyV_take (i := 7) (oi := { dst := some 34, op := Op.extract (Operand.tmp 27) 0, type := 25, pos := "law.go:102", after := #[{ on := 6, ground := Ground.data }], guard := none }) (v := ?_) rfl (by kernel_rfl) (by kernel_rfl) (by kernel_rfl) (by kernel_rfl) (by kernel_rfl) (fun _ _ _ h => h) (Or.inl ⟨by rfl, ?_⟩) hHeld ?_
          rotate_left 1
          · intro u hSu
            have q4 := hSu.out.x.cell
            go_simp
            first | done | with_reducible rfl
          (try simp only [Act.put, List.setIfInBounds_toArray, List.set_cons_zero, List.set_cons_succ])
          refine anyV_ready (rs := [8, 10]) (by kernel_rfl) (by simp) ?_
          refine EachV.cons (o := { dst := some 35, op := Op.extract (Operand.tmp 27) 1, type := 4, pos := "law.go:102", after := #[{ on := 6, ground := Ground.data }, { on := 10, ground := Ground.gcOnly Departure.lateStores }], guard := none }) rfl (fun Kz hK => ?_) (EachV.cons (o := { dst := none, op := Op.store 25 (Operand.tmp 8) (Operand.tmp 34), type := 0, pos := "law.go:102", after := #[{ on := 9, ground := Ground.data }, { on := 7, ground := Ground.data }, { on := 5, ground := Ground.chain }, { on := 0, ground := Ground.phase }, { on := 1, ground := Ground.phase }, { on := 2, ground := Ground.phase }, { on := 3, ground := Ground.phase }, { on := 4, ground := Ground.phase }, { on := 5, ground := Ground.phase }, { on := 6, ground := Ground.phase }, { on := 7, ground := Ground.phase }, { on := 8, ground := Ground.textOnly Departure.lateStores }, { on := 9, ground := Ground.phase }], guard := none }) rfl (fun Kz hK => ?_) EachV.nil)
          · go_simp
            refine hK.out _ _ (fun _ h => h) (fun _ => ?_)
            clear hK Kz
            (try simp only [Act.put, List.setIfInBounds_toArray, List.set_cons_zero, List.set_cons_succ])
            refine anyV_ready (rs := [10]) (by kernel_rfl) (by simp) ?_
            refine EachV.cons (o := { dst := none, op := Op.store 25 (Operand.tmp 8) (Operand.tmp 34), type := 0, pos := "law.go:102", after := #[{ on := 9, ground := Ground.data }, { on := 7, ground := Ground.data }, { on := 5, ground := Ground.chain }, { on := 0, ground := Ground.phase }, { on := 1, ground := Ground.phase }, { on := 2, ground := Ground.phase }, { on := 3, ground := Ground.phase }, { on := 4, ground := Ground.phase }, { on := 5, ground := Ground.phase }, { on := 6, ground := Ground.phase }, { on := 7, ground := Ground.phase }, { on := 8, ground := Ground.textOnly Departure.lateStores }, { on := 9, ground := Ground.phase }], guard := none }) rfl (fun Kz hK => ?_) EachV.nil
            have hna := HS9.out _ (by first | rfl | simp)
            have k0 : World.cell? _ ⟨_, 0, none⟩ = some (.slice none 0 0) := cell_of_row _ _ _ _ _ _ hna.bx
            have f0 := frozen_of_row _ _ 0 _ _ hna.bx
            try (have hna2 : NBx a _ w6.heap.size _ := hna; have j0 : World.cell? _ ⟨_, 0, none⟩ = some (.slice none 0 0) := cell_of_row _ _ _ _ _ _ hna2.bx; have g0 := frozen_of_row _ _ 0 _ _ hna2.bx)
            try have hfl := hna.fill HDM.out HQ9.out
            try have HE := Lib.hid (And.intro (H4.out.tape (HGR.out.newA hfl.2 hna.lo H4.out.t.lt)) hfl.1)
            go_simp
            refine hK.out _ _ (fun h => by cases h) (fun _ => ?_)
            clear hK Kz
            (try simp only [Act.put, List.setIfInBounds_toArray, List.set_cons_zero, List.set_cons_succ])
            refine anyV_ready (rs := [11]) (by kernel_rfl) (by simp) ?_
            refine EachV.cons (o := { dst := some 9, op := Op.assign (Operand.tmp 35), type := 4, pos := "law.go:102", after := #[{ on := 8, ground := Ground.data }, { on := 10, ground := Ground.chain }, { on := 0, ground := Ground.phase }, { on := 1, ground := Ground.phase }, { on := 2, ground := Ground.phase }, { on := 3, ground := Ground.phase }, { on := 4, ground := Ground.phase }, { on := 5, ground := Ground.phase }, { on := 6, ground := Ground.phase }, { on := 7, ground := Ground.phase }, { on := 8, ground := Ground.phase }, { on := 9, ground := Ground.phase }, { on := 10, ground := Ground.phase }], guard := none }) rfl (fun Kz hK => ?_) EachV.nil
            go_simp
            refine hK.out _ _ (fun h => by cases h) (fun _ => ?_)
            clear hK Kz
            (try simp only [Act.put, List.setIfInBounds_toArray, List.set_cons_zero, List.set_cons_succ])
            refine anyV_done (by kernel_rfl) ?_ _
            clear HD HS9
            go_wp2_with fail
            go_meet
            first | exact ⟨_, m8, p8, c8, _, rfl, rfl, Lib.hid ⟨HE2.out.1, HE2.out.2, HF.out.1, HF.out.2⟩⟩ | exact ⟨_, m8, p8, c8, _, rfl, rfl, Lib.hid ⟨HE.out.1, HE.out.2, HF.out.1, HF.out.2⟩⟩
          · have hna := HS9.out _ (by first | rfl | simp)
            have k0 : World.cell? _ ⟨_, 0, none⟩ = some (.slice none 0 0) := cell_of_row _ _ _ _ _ _ hna.bx
            have f0 := frozen_of_row _ _ 0 _ _ hna.bx
            try (have hna2 : NBx a _ w6.heap.size _ := hna; have j0 : World.cell? _ ⟨_, 0, none⟩ = some (.slice none 0 0) := cell_of_row _ _ _ _ _ _ hna2.bx; have g0 := frozen_of_row _ _ 0 _ _ hna2.bx)
            try have hfl := hna.fill HDM.out HQ9.out
            try have HE := Lib.hid (And.intro (H4.out.tape (HGR.out.newA hfl.2 hna.lo H4.out.t.lt)) hfl.1)
            go_simp
            refine hK.out _ _ (fun h => by cases h) (fun _ => ?_)
            clear hK Kz
            (try simp only [Act.put, List.setIfInBounds_toArray, List.set_cons_zero, List.set_cons_succ])
            refine anyV_ready (rs := [8]) (by kernel_rfl) (by simp) ?_
            refine EachV.cons (o := { dst := some 35, op := Op.extract (Operand.tmp 27) 1, type := 4, pos := "law.go:102", after := #[{ on := 6, ground := Ground.data }, { on := 10, ground := Ground.gcOnly Departure.lateStores }], guard := none }) rfl (fun Kz hK => ?_) EachV.nil
            go_simp
            refine hK.out _ _ (fun _ h => h) (fun _ => ?_)
            clear hK Kz
            (try simp only [Act.put, List.setIfInBounds_toArray, List.set_cons_zero, List.set_cons_succ])
            refine anyV_ready (rs := [11]) (by kernel_rfl) (by simp) ?_
            refine EachV.cons (o := { dst := some 9, op := Op.assign (Operand.tmp 35), type := 4, pos := "law.go:102", after := #[{ on := 8, ground := Ground.data }, { on := 10, ground := Ground.chain }, { on := 0, ground := Ground.phase }, { on := 1, ground := Ground.phase }, { on := 2, ground := Ground.phase }, { on := 3, ground := Ground.phase }, { on := 4, ground := Ground.phase }, { on := 5, ground := Ground.phase }, { on := 6, ground := Ground.phase }, { on := 7, ground := Ground.phase }, { on := 8, ground := Ground.phase }, { on := 9, ground := Ground.phase }, { on := 10, ground := Ground.phase }], guard := none }) rfl (fun Kz hK => ?_) EachV.nil
            go_simp
            refine hK.out _ _ (fun h => by cases h) (fun _ => ?_)
            clear hK Kz
            (try simp only [Act.put, List.setIfInBounds_toArray, List.set_cons_zero, List.set_cons_succ])
            refine anyV_done (by kernel_rfl) ?_ _
            clear HD HS9
            go_wp2_with fail
            go_meet
            first | exact ⟨_, m8, p8, c8, _, rfl, rfl, Lib.hid ⟨HE2.out.1, HE2.out.2, HF.out.1, HF.out.2⟩⟩ | exact ⟨_, m8, p8, c8, _, rfl, rfl, Lib.hid ⟨HE.out.1, HE.out.2, HF.out.1, HF.out.2⟩⟩
      · go_simp
        try have HE2 := Lib.hid (And.intro (hHeld.out.keep (bm_gr _ p8 m8.length c8)) (bm_new HDM.out))
        try replace HOK := Lib.hid (HOK.out.keep (World.grownBy_alloc _ (.cells #[.slice none 0 0] 25) none))
        have HSN := nbx_start (a := a) (N := w6.heap.size) hHeld.out.t HGR.out.1.size
        have hHn := Lib.hid (hHeld.out.keep (World.grownBy_alloc _ (.cells #[.slice none 0 0] 25) none))
        have HS9 := Lib.hid HSN
        clear HSN
        have HGN := Lib.hid (HGR.out.none_ (World.grownBy_alloc _ (.cells #[.slice none 0 0] 25) none))
        clear HGR
        have HGR := HGN
        clear HGN
        refine hK.out _ _ (fun _ _ => hHn) (fun hH2 => ?_)
        have hHeld2 := hH2 rfl hHeld
        clear hK Kz hHeld hH2
        have hHeld := hHeld2
        clear hHeld2
        (try simp only [Act.put, List.setIfInBounds_toArray, List.set_cons_zero, List.set_cons_succ])
        refine anyV_ready (rs := [4]) (by kernel_rfl) (by simp) ?_
        refine EachV.cons (o := { dst := some 32, op := Op.call { callee := Callee.value (Operand.func 23), args := #[Operand.tmp 29, Operand.tmp 31, Operand.const (Value.int IntKind.i64 0)], argTypes := #[26, 3, 3] }, type := 38, pos := "law.go:102", after := #[{ on := 1, ground := Ground.data }, { on := 3, ground := Ground.data }, { on := 3, ground := Ground.chain }], guard := none }) rfl (fun Kz hK => ?_) EachV.nil
        go_simp
        go_at_call 23
        refine (adv3_any a R 0 (by have := HR.out.1; have := HR.out.2.1 (by omega); unfold I64; omega) (by unfold I64; omega) _ hHeld.out.t).mono ?_
        rintro e w8 ⟨A, rfl, hta, hok, hs, hnl⟩
        rw [show A.val = .agg #[.int .i64 A.r, .int .i64 A.q, .bool A.cp, .slice A.pL A.L.length A.cL, .slice A.pC A.C.length A.cC] from rfl]
        have HV := Lib.hid (hta.valid (by omega) (by have := HR.out.1; have := HR.out.2.1 (by omega); omega)).1
        have HTA := Lib.hid (And.intro hta.ll (And.intro hta.cl hnl))
        have HOK := Lib.hid (hok.mono (q' := (· ≠ a)) (fun b hb => by have := hHeld.out.t.lt; omega))
        have HDn2 := Lib.hid (hHeld.out.tape hs)
        try replace HS9 := Lib.hid (show ∀ b, b = _ → _ from fun b hb => (HS9.out b hb).tape hs)
        clear hta hok hnl
        have HGN := Lib.hid (HGR.out.trans hs)
        clear HGR
        have HGR := HGN
        clear HGN
        clear hs
        refine hK.out _ _ (fun _ _ => HDn2) (fun hH2 => ?_)
        have hHeld2 := hH2 rfl hHeld
        clear hK Kz hHeld hH2
        have hHeld := hHeld2
        clear hHeld2
        (try simp only [Act.put, List.setIfInBounds_toArray, List.set_cons_zero, List.set_cons_succ])
        refine anyV_ready (rs := [5]) (by kernel_rfl) (by simp) ?_
        refine EachV.cons (o := { dst := some 33, op := Op.call { callee := Callee.value (Operand.func 26), args := #[Operand.tmp 28, Operand.tmp 32], argTypes := #[25, 38] }, type := 47, pos := "law.go:102", after := #[{ on := 0, ground := Ground.data }, { on := 4, ground := Ground.data }, { on := 4, ground := Ground.chain }], guard := none }) rfl (fun Kz hK => ?_) EachV.nil
        go_simp
        try have HQ9 := Lib.hid (nbx_lt HS9.out)
        go_at_call 26
        refine (dput_any l1 A p1 c1 _ _ hHeld.out.x.d.r hHeld.out.x.d.n hHeld.out.x.d.c hHeld.out.x.d.m hHeld.out.x.d.s HOK.out HTA.out.2.2 (by have := HTA.out.1; have := HTA.out.2.1; omega)).mono ?_
        rintro e w9 ⟨m8, p8, c8, rfl, hf, hrd, hc, hn, hg⟩
        have HF := Lib.hid (And.intro (grow_put HO1.out HV.out hf) (put_ok HO1.out HV.out hf))
        have HDM := Lib.hid (dm_ok (put_ok HO1.out HV.out hf) rfl hrd hc hn)
        have HDn3 := Lib.hid (hHeld.out.keep hg)
        try replace HS9 := Lib.hid (show ∀ b, b = _ → _ from fun b hb => (HS9.out b hb).keep hg)
        clear hf hrd hc hn
        have HGN := Lib.hid (HGR.out.none_ hg)
        clear HGR
        have HGR := HGN
        clear HGN
        clear hg
        refine hK.out _ _ (fun _ _ => HDn3) (fun hH2 => ?_)
        have hHeld2 := hH2 rfl hHeld
        clear hK Kz hHeld hH2
        have hHeld := hHeld2
        clear hHeld2
        (try simp only [Act.put, List.setIfInBounds_toArray, List.set_cons_zero, List.set_cons_succ])
        refine anyV_take (i := 6) (oi := { dst := some 27, op := Op.move (Operand.tmp 33), type := 47, pos := "law.go:102", after := #[{ on := 5, ground := Ground.data }], guard := none }) (v := ?_) rfl (by kernel_rfl) (by kernel_rfl) (by kernel_rfl) (by kernel_rfl) (by kernel_rfl) (fun _ _ _ h => h) (Or.inl ⟨by rfl, ?_⟩) hHeld ?_
        rotate_left 1
        · intro u hSu
          have q4 := hSu.out.x.cell
          go_simp
          first | done | with_reducible rfl
        (try simp only [Act.put, List.setIfInBounds_toArray, List.set_cons_zero, List.set_cons_succ])
        refine anyV_take (i := 7) (oi := { dst := some 34, op := Op.extract (Operand.tmp 27) 0, type := 25, pos := "law.go:102", after := #[{ on := 6, ground := Ground.data }], guard := none }) (v := ?_) rfl (by kernel_rfl) (by kernel_rfl) (by kernel_rfl) (by kernel_rfl) (by kernel_rfl) (fun _ _ _ h => h) (Or.inl ⟨by rfl, ?_⟩) hHeld ?_
        rotate_left 1
        · intro u hSu
          have q4 := hSu.out.x.cell
          go_simp
          first | done | with_reducible rfl
        (try simp only [Act.put, List.setIfInBounds_toArray, List.set_cons_zero, List.set_cons_succ])
        refine anyV_ready (rs := [8, 10]) (by kernel_rfl) (by simp) ?_
        refine EachV.cons (o := { dst := some 35, op := Op.extract (Operand.tmp 27) 1, type := 4, pos := "law.go:102", after := #[{ on := 6, ground := Ground.data }, { on := 10, ground := Ground.gcOnly Departure.lateStores }], guard := none }) rfl (fun Kz hK => ?_) (EachV.cons (o := { dst := none, op := Op.store 25 (Operand.tmp 8) (Operand.tmp 34), type := 0, pos := "law.go:102", after := #[{ on := 9, ground := Ground.data }, { on := 7, ground := Ground.data }, { on := 5, ground := Ground.chain }, { on := 0, ground := Ground.phase }, { on := 1, ground := Ground.phase }, { on := 2, ground := Ground.phase }, { on := 3, ground := Ground.phase }, { on := 4, ground := Ground.phase }, { on := 5, ground := Ground.phase }, { on := 6, ground := Ground.phase }, { on := 7, ground := Ground.phase }, { on := 8, ground := Ground.textOnly Departure.lateStores }, { on := 9, ground := Ground.phase }], guard := none }) rfl (fun Kz hK => ?_) EachV.nil)
        · go_simp
          refine hK.out _ _ (fun _ h => h) (fun _ => ?_)
          clear hK Kz
          (try simp only [Act.put, List.setIfInBounds_toArray, List.set_cons_zero, List.set_cons_succ])
          refine anyV_ready (rs := [10]) (by kernel_rfl) (by simp) ?_
          refine EachV.cons (o := { dst := none, op := Op.store 25 (Operand.tmp 8) (Operand.tmp 34), type := 0, pos := "law.go:102", after := #[{ on := 9, ground := Ground.data }, { on := 7, ground := Ground.data }, { on := 5, ground := Ground.chain }, { on := 0, ground := Ground.phase }, { on := 1, ground := Ground.phase }, { on := 2, ground := Ground.phase }, { on := 3, ground := Ground.phase }, { on := 4, ground := Ground.phase }, { on := 5, ground := Ground.phase }, { on := 6, ground := Ground.phase }, { on := 7, ground := Ground.phase }, { on := 8, ground := Ground.textOnly Departure.lateStores }, { on := 9, ground := Ground.phase }], guard := none }) rfl (fun Kz hK => ?_) EachV.nil
          have hna := HS9.out _ (by first | rfl | simp)
          have k0 : World.cell? _ ⟨_, 0, none⟩ = some (.slice none 0 0) := cell_of_row _ _ _ _ _ _ hna.bx
          have f0 := frozen_of_row _ _ 0 _ _ hna.bx
          try (have hna2 : NBx a _ w6.heap.size _ := hna; have j0 : World.cell? _ ⟨_, 0, none⟩ = some (.slice none 0 0) := cell_of_row _ _ _ _ _ _ hna2.bx; have g0 := frozen_of_row _ _ 0 _ _ hna2.bx)
          try have hfl := hna.fill HDM.out HQ9.out
          try have HE := Lib.hid (And.intro (H4.out.tape (HGR.out.newA hfl.2 hna.lo H4.out.t.lt)) hfl.1)
          go_simp
          refine hK.out _ _ (fun h => by cases h) (fun _ => ?_)
          clear hK Kz
          (try simp only [Act.put, List.setIfInBounds_toArray, List.set_cons_zero, List.set_cons_succ])
          refine anyV_ready (rs := [11]) (by kernel_rfl) (by simp) ?_
          refine EachV.cons (o := { dst := some 9, op := Op.assign (Operand.tmp 35), type := 4, pos := "law.go:102", after := #[{ on := 8, ground := Ground.data }, { on := 10, ground := Ground.chain }, { on := 0, ground := Ground.phase }, { on := 1, ground := Ground.phase }, { on := 2, ground := Ground.phase }, { on := 3, ground := Ground.phase }, { on := 4, ground := Ground.phase }, { on := 5, ground := Ground.phase }, { on := 6, ground := Ground.phase }, { on := 7, ground := Ground.phase }, { on := 8, ground := Ground.phase }, { on := 9, ground := Ground.phase }, { on := 10, ground := Ground.phase }], guard := none }) rfl (fun Kz hK => ?_) EachV.nil
          go_simp
          refine hK.out _ _ (fun h => by cases h) (fun _ => ?_)
          clear hK Kz
          (try simp only [Act.put, List.setIfInBounds_toArray, List.set_cons_zero, List.set_cons_succ])
          refine anyV_done (by kernel_rfl) ?_ _
          clear HD HS9
          go_wp2_with fail
          go_meet
          first | exact ⟨_, m8, p8, c8, _, rfl, rfl, Lib.hid ⟨HE2.out.1, HE2.out.2, HF.out.1, HF.out.2⟩⟩ | exact ⟨_, m8, p8, c8, _, rfl, rfl, Lib.hid ⟨HE.out.1, HE.out.2, HF.out.1, HF.out.2⟩⟩
        · have hna := HS9.out _ (by first | rfl | simp)
          have k0 : World.cell? _ ⟨_, 0, none⟩ = some (.slice none 0 0) := cell_of_row _ _ _ _ _ _ hna.bx
          have f0 := frozen_of_row _ _ 0 _ _ hna.bx
          try (have hna2 : NBx a _ w6.heap.size _ := hna; have j0 : World.cell? _ ⟨_, 0, none⟩ = some (.slice none 0 0) := cell_of_row _ _ _ _ _ _ hna2.bx; have g0 := frozen_of_row _ _ 0 _ _ hna2.bx)
          try have hfl := hna.fill HDM.out HQ9.out
          try have HE := Lib.hid (And.intro (H4.out.tape (HGR.out.newA hfl.2 hna.lo H4.out.t.lt)) hfl.1)
          go_simp
          refine hK.out _ _ (fun h => by cases h) (fun _ => ?_)
          clear hK Kz
          (try simp only [Act.put, List.setIfInBounds_toArray, List.set_cons_zero, List.set_cons_succ])
          refine anyV_ready (rs := [8]) (by kernel_rfl) (by simp) ?_
          refine EachV.cons (o := { dst := some 35, op := Op.extract (Operand.tmp 27) 1, type := 4, pos := "law.go:102", after := #[{ on := 6, ground := Ground.data }, { on := 10, ground := Ground.gcOnly Departure.lateStores }], guard := none }) rfl (fun Kz hK => ?_) EachV.nil
          go_simp
          refine hK.out _ _ (fun _ h => h) (fun _ => ?_)
          clear hK Kz
          (try simp only [Act.put, List.setIfInBounds_toArray, List.set_cons_zero, List.set_cons_succ])
          refine anyV_ready (rs := [11]) (by kernel_rfl) (by simp) ?_
          refine EachV.cons (o := { dst := some 9, op := Op.assign (Operand.tmp 35), type := 4, pos := "law.go:102", after := #[{ on := 8, ground := Ground.data }, { on := 10, ground := Ground.chain }, { on := 0, ground := Ground.phase }, { on := 1, ground := Ground.phase }, { on := 2, ground := Ground.phase }, { on := 3, ground := Ground.phase }, { on := 4, ground := Ground.phase }, { on := 5, ground := Ground.phase }, { on := 6, ground := Ground.phase }, { on := 7, ground := Ground.phase }, { on := 8, ground := Ground.phase }, { on := 9, ground := Ground.phase }, { on := 10, ground := Ground.phase }], guard := none }) rfl (fun Kz hK => ?_) EachV.nil
          go_simp
          refine hK.out _ _ (fun h => by cases h) (fun _ => ?_)
          clear hK Kz
          (try simp only [Act.put, List.setIfInBounds_toArray, List.set_cons_zero, List.set_cons_succ])
          refine anyV_done (by kernel_rfl) ?_ _
          clear HD HS9
          go_wp2_with fail
          go_meet
          first | exact ⟨_, m8, p8, c8, _, rfl, rfl, Lib.hid ⟨HE2.out.1, HE2.out.2, HF.out.1, HF.out.2⟩⟩ | exact ⟨_, m8, p8, c8, _, rfl, rfl, Lib.hid ⟨HE.out.1, HE.out.2, HF.out.1, HF.out.2⟩⟩
    · go_simp
      try have HE2 := Lib.hid (And.intro (hHeld.out.keep (bm_gr _ p8 m8.length c8)) (bm_new HDM.out))
      try replace HOK := Lib.hid (HOK.out.keep (World.grownBy_alloc _ (.cells #[.slice none 0 0] 25) none))
      have HSN := nbx_start (a := a) (N := w6.heap.size) hHeld.out.t HGR.out.1.size
      have hHn := Lib.hid (hHeld.out.keep (World.grownBy_alloc _ (.cells #[.slice none 0 0] 25) none))
      have HS9 := Lib.hid HSN
      clear HSN
      have HGN := Lib.hid (HGR.out.none_ (World.grownBy_alloc _ (.cells #[.slice none 0 0] 25) none))
      clear HGR
      have HGR := HGN
      clear HGN
      refine hK.out _ _ (fun _ _ => hHn) (fun hH2 => ?_)
      have hHeld2 := hH2 rfl hHeld
      clear hK Kz hHeld hH2
      have hHeld := hHeld2
      clear hHeld2
      (try simp only [Act.put, List.setIfInBounds_toArray, List.set_cons_zero, List.set_cons_succ])
      refine anyV_ready (rs := [3]) (by kernel_rfl) (by simp) ?_
      refine EachV.cons (o := { dst := some 31, op := Op.call { callee := Callee.value (Operand.func 18), args := #[Operand.tmp 30, Operand.const (Value.int IntKind.i64 1), Operand.const (Value.int IntKind.i64 7)], argTypes := #[26, 3, 3] }, type := 3, pos := "law.go:102", after := #[{ on := 2, ground := Ground.data }], guard := none }) rfl (fun Kz hK => ?_) EachV.nil
      go_simp
      go_at_call 18
      refine (range_any a 1 7 (by omega) (by omega) (by omega) (by omega) _ hHeld.out.t).mono ?_
      rintro e w7 ⟨R, rfl, hR, hs⟩
      have HR := Lib.hid hR
      have HDn := Lib.hid (hHeld.out.tape hs)
      try replace HS9 := Lib.hid (show ∀ b, b = _ → _ from fun b hb => (HS9.out b hb).tape hs)
      clear hR
      have HGN := Lib.hid (HGR.out.trans hs)
      clear HGR
      have HGR := HGN
      clear HGN
      clear hs
      refine hK.out _ _ (fun _ _ => HDn) (fun hH2 => ?_)
      have hHeld2 := hH2 rfl hHeld
      clear hK Kz hHeld hH2
      have hHeld := hHeld2
      clear hHeld2
      (try simp only [Act.put, List.setIfInBounds_toArray, List.set_cons_zero, List.set_cons_succ])
      refine anyV_ready (rs := [4]) (by kernel_rfl) (by simp) ?_
      refine EachV.cons (o := { dst := some 32, op := Op.call { callee := Callee.value (Operand.func 23), args := #[Operand.tmp 29, Operand.tmp 31, Operand.const (Value.int IntKind.i64 0)], argTypes := #[26, 3, 3] }, type := 38, pos := "law.go:102", after := #[{ on := 1, ground := Ground.data }, { on := 3, ground := Ground.data }, { on := 3, ground := Ground.chain }], guard := none }) rfl (fun Kz hK => ?_) EachV.nil
      go_simp
      go_at_call 23
      refine (adv3_any a R 0 (by have := HR.out.1; have := HR.out.2.1 (by omega); unfold I64; omega) (by unfold I64; omega) _ hHeld.out.t).mono ?_
      rintro e w8 ⟨A, rfl, hta, hok, hs, hnl⟩
      rw [show A.val = .agg #[.int .i64 A.r, .int .i64 A.q, .bool A.cp, .slice A.pL A.L.length A.cL, .slice A.pC A.C.length A.cC] from rfl]
      have HV := Lib.hid (hta.valid (by omega) (by have := HR.out.1; have := HR.out.2.1 (by omega); omega)).1
      have HTA := Lib.hid (And.intro hta.ll (And.intro hta.cl hnl))
      have HOK := Lib.hid (hok.mono (q' := (· ≠ a)) (fun b hb => by have := hHeld.out.t.lt; omega))
      have HDn2 := Lib.hid (hHeld.out.tape hs)
      try replace HS9 := Lib.hid (show ∀ b, b = _ → _ from fun b hb => (HS9.out b hb).tape hs)
      clear hta hok hnl
      have HGN := Lib.hid (HGR.out.trans hs)
      clear HGR
      have HGR := HGN
      clear HGN
      clear hs
      refine hK.out _ _ (fun _ _ => HDn2) (fun hH2 => ?_)
      have hHeld2 := hH2 rfl hHeld
      clear hK Kz hHeld hH2
      have hHeld := hHeld2
      clear hHeld2
      (try simp only [Act.put, List.setIfInBounds_toArray, List.set_cons_zero, List.set_cons_succ])
      refine anyV_ready (rs := [5]) (by kernel_rfl) (by simp) ?_
      refine EachV.cons (o := { dst := some 33, op := Op.call { callee := Callee.value (Operand.func 26), args := #[Operand.tmp 28, Operand.tmp 32], argTypes := #[25, 38] }, type := 47, pos := "law.go:102", after := #[{ on := 0, ground := Ground.data }, { on := 4, ground := Ground.data }, { on := 4, ground := Ground.chain }], guard := none }) rfl (fun Kz hK => ?_) EachV.nil
      go_simp
      try have HQ9 := Lib.hid (nbx_lt HS9.out)
      go_at_call 26
      refine (dput_any l1 A p1 c1 _ _ hHeld.out.x.d.r hHeld.out.x.d.n hHeld.out.x.d.c hHeld.out.x.d.m hHeld.out.x.d.s HOK.out HTA.out.2.2 (by have := HTA.out.1; have := HTA.out.2.1; omega)).mono ?_
      rintro e w9 ⟨m8, p8, c8, rfl, hf, hrd, hc, hn, hg⟩
      have HF := Lib.hid (And.intro (grow_put HO1.out HV.out hf) (put_ok HO1.out HV.out hf))
      have HDM := Lib.hid (dm_ok (put_ok HO1.out HV.out hf) rfl hrd hc hn)
      have HDn3 := Lib.hid (hHeld.out.keep hg)
      try replace HS9 := Lib.hid (show ∀ b, b = _ → _ from fun b hb => (HS9.out b hb).keep hg)
      clear hf hrd hc hn
      have HGN := Lib.hid (HGR.out.none_ hg)
      clear HGR
      have HGR := HGN
      clear HGN
      clear hg
      refine hK.out _ _ (fun _ _ => HDn3) (fun hH2 => ?_)
      have hHeld2 := hH2 rfl hHeld
      clear hK Kz hHeld hH2
      have hHeld := hHeld2
      clear hHeld2
      (try simp only [Act.put, List.setIfInBounds_toArray, List.set_cons_zero, List.set_cons_succ])
      refine anyV_take (i := 6) (oi := { dst := some 27, op := Op.move (Operand.tmp 33), type := 47, pos := "law.go:102", after := #[{ on := 5, ground := Ground.data }], guard := none }) (v := ?_) rfl (by kernel_rfl) (by kernel_rfl) (by kernel_rfl) (by kernel_rfl) (by kernel_rfl) (fun _ _ _ h => h) (Or.inl ⟨by rfl, ?_⟩) hHeld ?_
      rotate_left 1
      · intro u hSu
        have q4 := hSu.out.x.cell
        go_simp
        first | done | with_reducible rfl
      (try simp only [Act.put, List.setIfInBounds_toArray, List.set_cons_zero, List.set_cons_succ])
      refine anyV_take (i := 7) (oi := { dst := some 34, op := Op.extract (Operand.tmp 27) 0, type := 25, pos := "law.go:102", after := #[{ on := 6, ground := Ground.data }], guard := none }) (v := ?_) rfl (by kernel_rfl) (by kernel_rfl) (by kernel_rfl) (by kernel_rfl) (by kernel_rfl) (fun _ _ _ h => h) (Or.inl ⟨by rfl, ?_⟩) hHeld ?_
      rotate_left 1
      · intro u hSu
        have q4 := hSu.out.x.cell
        go_simp
        first | done | with_reducible rfl
      (try simp only [Act.put, List.setIfInBounds_toArray, List.set_cons_zero, List.set_cons_succ])
      refine anyV_ready (rs := [8, 10]) (by kernel_rfl) (by simp) ?_
      refine EachV.cons (o := { dst := some 35, op := Op.extract (Operand.tmp 27) 1, type := 4, pos := "law.go:102", after := #[{ on := 6, ground := Ground.data }, { on := 10, ground := Ground.gcOnly Departure.lateStores }], guard := none }) rfl (fun Kz hK => ?_) (EachV.cons (o := { dst := none, op := Op.store 25 (Operand.tmp 8) (Operand.tmp 34), type := 0, pos := "law.go:102", after := #[{ on := 9, ground := Ground.data }, { on := 7, ground := Ground.data }, { on := 5, ground := Ground.chain }, { on := 0, ground := Ground.phase }, { on := 1, ground := Ground.phase }, { on := 2, ground := Ground.phase }, { on := 3, ground := Ground.phase }, { on := 4, ground := Ground.phase }, { on := 5, ground := Ground.phase }, { on := 6, ground := Ground.phase }, { on := 7, ground := Ground.phase }, { on := 8, ground := Ground.textOnly Departure.lateStores }, { on := 9, ground := Ground.phase }], guard := none }) rfl (fun Kz hK => ?_) EachV.nil)
      · go_simp
        refine hK.out _ _ (fun _ h => h) (fun _ => ?_)
        clear hK Kz
        (try simp only [Act.put, List.setIfInBounds_toArray, List.set_cons_zero, List.set_cons_succ])
        refine anyV_ready (rs := [10]) (by kernel_rfl) (by simp) ?_
        refine EachV.cons (o := { dst := none, op := Op.store 25 (Operand.tmp 8) (Operand.tmp 34), type := 0, pos := "law.go:102", after := #[{ on := 9, ground := Ground.data }, { on := 7, ground := Ground.data }, { on := 5, ground := Ground.chain }, { on := 0, ground := Ground.phase }, { on := 1, ground := Ground.phase }, { on := 2, ground := Ground.phase }, { on := 3, ground := Ground.phase }, { on := 4, ground := Ground.phase }, { on := 5, ground := Ground.phase }, { on := 6, ground := Ground.phase }, { on := 7, ground := Ground.phase }, { on := 8, ground := Ground.textOnly Departure.lateStores }, { on := 9, ground := Ground.phase }], guard := none }) rfl (fun Kz hK => ?_) EachV.nil
        have hna := HS9.out _ (by first | rfl | simp)
        have k0 : World.cell? _ ⟨_, 0, none⟩ = some (.slice none 0 0) := cell_of_row _ _ _ _ _ _ hna.bx
        have f0 := frozen_of_row _ _ 0 _ _ hna.bx
        try (have hna2 : NBx a _ w6.heap.size _ := hna; have j0 : World.cell? _ ⟨_, 0, none⟩ = some (.slice none 0 0) := cell_of_row _ _ _ _ _ _ hna2.bx; have g0 := frozen_of_row _ _ 0 _ _ hna2.bx)
        try have hfl := hna.fill HDM.out HQ9.out
        try have HE := Lib.hid (And.intro (H4.out.tape (HGR.out.newA hfl.2 hna.lo H4.out.t.lt)) hfl.1)
        go_simp
        refine hK.out _ _ (fun h => by cases h) (fun _ => ?_)
        clear hK Kz
        (try simp only [Act.put, List.setIfInBounds_toArray, List.set_cons_zero, List.set_cons_succ])
        refine anyV_ready (rs := [11]) (by kernel_rfl) (by simp) ?_
        refine EachV.cons (o := { dst := some 9, op := Op.assign (Operand.tmp 35), type := 4, pos := "law.go:102", after := #[{ on := 8, ground := Ground.data }, { on := 10, ground := Ground.chain }, { on := 0, ground := Ground.phase }, { on := 1, ground := Ground.phase }, { on := 2, ground := Ground.phase }, { on := 3, ground := Ground.phase }, { on := 4, ground := Ground.phase }, { on := 5, ground := Ground.phase }, { on := 6, ground := Ground.phase }, { on := 7, ground := Ground.phase }, { on := 8, ground := Ground.phase }, { on := 9, ground := Ground.phase }, { on := 10, ground := Ground.phase }], guard := none }) rfl (fun Kz hK => ?_) EachV.nil
        go_simp
        refine hK.out _ _ (fun h => by cases h) (fun _ => ?_)
        clear hK Kz
        (try simp only [Act.put, List.setIfInBounds_toArray, List.set_cons_zero, List.set_cons_succ])
        refine anyV_done (by kernel_rfl) ?_ _
        clear HD HS9
        go_wp2_with fail
        go_meet
        first | exact ⟨_, m8, p8, c8, _, rfl, rfl, Lib.hid ⟨HE2.out.1, HE2.out.2, HF.out.1, HF.out.2⟩⟩ | exact ⟨_, m8, p8, c8, _, rfl, rfl, Lib.hid ⟨HE.out.1, HE.out.2, HF.out.1, HF.out.2⟩⟩
      · have hna := HS9.out _ (by first | rfl | simp)
        have k0 : World.cell? _ ⟨_, 0, none⟩ = some (.slice none 0 0) := cell_of_row _ _ _ _ _ _ hna.bx
        have f0 := frozen_of_row _ _ 0 _ _ hna.bx
        try (have hna2 : NBx a _ w6.heap.size _ := hna; have j0 : World.cell? _ ⟨_, 0, none⟩ = some (.slice none 0 0) := cell_of_row _ _ _ _ _ _ hna2.bx; have g0 := frozen_of_row _ _ 0 _ _ hna2.bx)
        try have hfl := hna.fill HDM.out HQ9.out
        try have HE := Lib.hid (And.intro (H4.out.tape (HGR.out.newA hfl.2 hna.lo H4.out.t.lt)) hfl.1)
        go_simp
        refine hK.out _ _ (fun h => by cases h) (fun _ => ?_)
        clear hK Kz
        (try simp only [Act.put, List.setIfInBounds_toArray, List.set_cons_zero, List.set_cons_succ])
        refine anyV_ready (rs := [8]) (by kernel_rfl) (by simp) ?_
        refine EachV.cons (o := { dst := some 35, op := Op.extract (Operand.tmp 27) 1, type := 4, pos := "law.go:102", after := #[{ on := 6, ground := Ground.data }, { on := 10, ground := Ground.gcOnly Departure.lateStores }], guard := none }) rfl (fun Kz hK => ?_) EachV.nil
        go_simp
        refine hK.out _ _ (fun _ h => h) (fun _ => ?_)
        clear hK Kz
        (try simp only [Act.put, List.setIfInBounds_toArray, List.set_cons_zero, List.set_cons_succ])
        refine anyV_ready (rs := [11]) (by kernel_rfl) (by simp) ?_
        refine EachV.cons (o := { dst := some 9, op := Op.assign (Operand.tmp 35), type := 4, pos := "law.go:102", after := #[{ on := 8, ground := Ground.data }, { on := 10, ground := Ground.chain }, { on := 0, ground := Ground.phase }, { on := 1, ground := Ground.phase }, { on := 2, ground := Ground.phase }, { on := 3, ground := Ground.phase }, { on := 4, ground := Ground.phase }, { on := 5, ground := Ground.phase }, { on := 6, ground := Ground.phase }, { on := 7, ground := Ground.phase }, { on := 8, ground := Ground.phase }, { on := 9, ground := Ground.phase }, { on := 10, ground := Ground.phase }], guard := none }) rfl (fun Kz hK => ?_) EachV.nil
        go_simp
        refine hK.out _ _ (fun h => by cases h) (fun _ => ?_)
        clear hK Kz
        (try simp only [Act.put, List.setIfInBounds_toArray, List.set_cons_zero, List.set_cons_succ])
        refine anyV_done (by kernel_rfl) ?_ _
        clear HD HS9
        go_wp2_with fail
        go_meet
        first | exact ⟨_, m8, p8, c8, _, rfl, rfl, Lib.hid ⟨HE2.out.1, HE2.out.2, HF.out.1, HF.out.2⟩⟩ | exact ⟨_, m8, p8, c8, _, rfl, rfl, Lib.hid ⟨HE.out.1, HE.out.2, HF.out.1, HF.out.2⟩⟩
  case rest =>
  obtain ⟨n8, m8, p8, c8, pz, rfl, rfl, H5⟩ := hcut
  have HL1 : l1.length ≤ 900 := H4.out.x.d.m
  clear H4
  have HG8 := Lib.hid H5.out.2.2
  have H6 := Lib.hid (gw_start (x6 := ⟨m6, p6, c6⟩) (x8 := ⟨m8, p8, c8⟩) H5.out.1.x.bm H5.out.1.y.bm H5.out.2.1 H5.out.1.g)
  have q6 := H5.out.1.y.cell
  have q8 := H5.out.2.1.cell
  clear H5
  go_upto_region 6 with fail
  clear q6 q8
  generalize hw : wc.alloc _ = w7 at *
  generalize wc.heap.size = D at *
  clear hw wc
  go_wp2_with fail
  go_loopw [11] (fun u wr => ∃ i : Nat, i ≤ 2 ∧ u = .int .i64 (i : Int) ∧ Hid (GW w n4 l1 p1 c1 n6 n8 D ⟨m6, p6, c6⟩ ⟨m8, p8, c8⟩ wr)) (fun u _ => 2 - (RowKit.intOf u).toNat)
  case atStart => exact ⟨0, by omega, rfl, H6⟩
  case round =>
  obtain ⟨i, hi, rfl, K⟩ := hrel
  clear H6
  by_cases hi2 : i < 2
  · have hi2I : (i : Int) < 2 := by omega
    obtain ⟨x, hx⟩ : ∃ x, [(⟨m6, p6, c6⟩ : Dv), ⟨m8, p8, c8⟩][i]? = some x := ⟨_, List.getElem?_eq_getElem hi2⟩
    have HGX : Hid (GrowP l1 x.l) := Lib.hid (by
      match i, hx with
      | 0, hx => cases hx; exact HG6.out.1
      | 1, hx => cases hx; exact HG8.out.1)
    have HXX := Lib.hid hx
    have HXM := Lib.hid (And.intro (K.out.dm i x hx).m (K.out.dm i x hx).s)
    clear hx
    go_wp2_with fail
    go_loopw [12] (fun u wq => ∃ k : Nat, k ≤ l1.length ∧ u = .int .i64 (k : Int) ∧ Hid (GW w n4 l1 p1 c1 n6 n8 D ⟨m6, p6, c6⟩ ⟨m8, p8, c8⟩ wq)) (fun u _ => l1.length - (RowKit.intOf u).toNat)
    case atStart => exact ⟨0, by omega, rfl, K⟩
    case round =>
    obtain ⟨k, hk, rfl, K2⟩ := hrel
    clear K
    obtain ⟨wq, hwq⟩ : ∃ wq, wq = wr := ⟨_, rfl⟩
    rw [← hwq] at K2 ⊢
    clear hwq
    have q4 := K2.out.x.cell
    by_cases hkl : k < l1.length
    · obtain ⟨-, g, off, rfl, -, -⟩ := rda_cells K2.out.x.2.r (by omega)
      obtain ⟨B, hB⟩ : ∃ B, l1[k]? = some B := ⟨_, List.getElem?_eq_getElem hkl⟩
      have HB := Lib.hid (And.intro hB (List.mem_of_getElem? hB))
      clear hB
      go_upto_region 12 with fail
      clear q4
      go_cut [13, 14] from 50 to 63 (fun u o wx => ∃ (b : Nat) (A1 : Ad), u = .pointer (some ⟨b, 0, none⟩) ∧ o = .bool true ∧ Hid (FA wq x.l B.r b A1 wx))
      case first =>
        have HD := Lib.hid (grown_drew (grown_refl wq none))
        refine region_until2 (S := fun w' => Hid (wq.grownBy w' none)) (fun j => j == 15 || j == 16) (by kernel_rfl) (HD) (fun hHeld => ?_)
        refine anyV_take (i := 0) (oi := { dst := some 51, op := Op.move (Operand.tmp 10), type := 29, pos := "law.go:106", after := #[], guard := none }) (v := ?_) rfl (by kernel_rfl) (by kernel_rfl) (by kernel_rfl) (by kernel_rfl) (by kernel_rfl) (fun _ _ _ h => h) (Or.inl ⟨by rfl, ?_⟩) hHeld ?_
        rotate_left 1
        · intro u hSu
          have hO := K2.out.keep hSu.out
          have q0 := hO.row i x HXX.out
          have q4 := hO.x.cell
          obtain ⟨a0, a1, a2, a3, a4⟩ := rda_at hO.x.2.r HB.out.1
          go_simp
          first | done | with_reducible rfl
        (try simp only [Act.put, List.setIfInBounds_toArray, List.set_cons_zero, List.set_cons_succ])
        refine anyV_take (i := 1) (oi := { dst := some 52, op := Op.move (Operand.tmp 11), type := 3, pos := "law.go:106", after := #[], guard := none }) (v := ?_) rfl (by kernel_rfl) (by kernel_rfl) (by kernel_rfl) (by kernel_rfl) (by kernel_rfl) (fun _ _ _ h => h) (Or.inl ⟨by rfl, ?_⟩) hHeld ?_
        rotate_left 1
        · intro u hSu
          have hO := K2.out.keep hSu.out
          have q0 := hO.row i x HXX.out
          have q4 := hO.x.cell
          obtain ⟨a0, a1, a2, a3, a4⟩ := rda_at hO.x.2.r HB.out.1
          go_simp
          first | done | with_reducible rfl
        (try simp only [Act.put, List.setIfInBounds_toArray, List.set_cons_zero, List.set_cons_succ])
        refine anyV_take (i := 2) (oi := { dst := some 53, op := Op.indexAddr 29 (Operand.tmp 51) (Operand.tmp 52), type := 0, pos := "law.go:106", after := #[{ on := 0, ground := Ground.data }, { on := 1, ground := Ground.data }], guard := none }) (v := ?_) rfl (by kernel_rfl) (by kernel_rfl) (by kernel_rfl) (by kernel_rfl) (by kernel_rfl) (fun _ _ _ h => h) (Or.inl ⟨by rfl, ?_⟩) hHeld ?_
        rotate_left 1
        · intro u hSu
          have hO := K2.out.keep hSu.out
          have q0 := hO.row i x HXX.out
          have q4 := hO.x.cell
          obtain ⟨a0, a1, a2, a3, a4⟩ := rda_at hO.x.2.r HB.out.1
          go_simp
          first | done | with_reducible rfl
        (try simp only [Act.put, List.setIfInBounds_toArray, List.set_cons_zero, List.set_cons_succ])
        refine anyV_take (i := 3) (oi := { dst := some 54, op := Op.load 25 (Operand.tmp 53), type := 25, pos := "law.go:106", after := #[{ on := 2, ground := Ground.data }], guard := none }) (v := ?_) rfl (by kernel_rfl) (by kernel_rfl) (by kernel_rfl) (by kernel_rfl) (by kernel_rfl) (fun _ _ _ h => h) (Or.inl ⟨by rfl, ?_⟩) hHeld ?_
        rotate_left 1
        · intro u hSu
          have hO := K2.out.keep hSu.out
          have q0 := hO.row i x HXX.out
          have q4 := hO.x.cell
          obtain ⟨a0, a1, a2, a3, a4⟩ := rda_at hO.x.2.r HB.out.1
          go_simp
          first | done | with_reducible rfl
        (try simp only [Act.put, List.setIfInBounds_toArray, List.set_cons_zero, List.set_cons_succ])
        refine anyV_take (i := 4) (oi := { dst := some 55, op := Op.fieldAddr 25 (Operand.tmp 4) 0, type := 0, pos := "law.go:106", after := #[], guard := none }) (v := ?_) rfl (by kernel_rfl) (by kernel_rfl) (by kernel_rfl) (by kernel_rfl) (by kernel_rfl) (fun _ _ _ h => h) (Or.inl ⟨by rfl, ?_⟩) hHeld ?_
        rotate_left 1
        · intro u hSu
          have hO := K2.out.keep hSu.out
          have q0 := hO.row i x HXX.out
          have q4 := hO.x.cell
          obtain ⟨a0, a1, a2, a3, a4⟩ := rda_at hO.x.2.r HB.out.1
          go_simp
          first | done | with_reducible rfl
        (try simp only [Act.put, List.setIfInBounds_toArray, List.set_cons_zero, List.set_cons_succ])
        refine anyV_take (i := 5) (oi := { dst := some 56, op := Op.load 23 (Operand.tmp 55), type := 23, pos := "law.go:106", after := #[{ on := 4, ground := Ground.data }], guard := none }) (v := ?_) rfl (by kernel_rfl) (by kernel_rfl) (by kernel_rfl) (by kernel_rfl) (by kernel_rfl) (fun _ _ _ h => h) (Or.inl ⟨by rfl, ?_⟩) hHeld ?_
        rotate_left 1
        · intro u hSu
          have hO := K2.out.keep hSu.out
          have q0 := hO.row i x HXX.out
          have q4 := hO.x.cell
          obtain ⟨a0, a1, a2, a3, a4⟩ := rda_at hO.x.2.r HB.out.1
          go_simp
          first | done | with_reducible rfl
        (try simp only [Act.put, List.setIfInBounds_toArray, List.set_cons_zero, List.set_cons_succ])
        refine anyV_take (i := 6) (oi := { dst := some 57, op := Op.move (Operand.tmp 12), type := 3, pos := "law.go:106", after := #[], guard := none }) (v := ?_) rfl (by kernel_rfl) (by kernel_rfl) (by kernel_rfl) (by kernel_rfl) (by kernel_rfl) (fun _ _ _ h => h) (Or.inl ⟨by rfl, ?_⟩) hHeld ?_
        rotate_left 1
        · intro u hSu
          have hO := K2.out.keep hSu.out
          have q0 := hO.row i x HXX.out
          have q4 := hO.x.cell
          obtain ⟨a0, a1, a2, a3, a4⟩ := rda_at hO.x.2.r HB.out.1
          go_simp
          first | done | with_reducible rfl
        (try simp only [Act.put, List.setIfInBounds_toArray, List.set_cons_zero, List.set_cons_succ])
        refine anyV_take (i := 7) (oi := { dst := some 58, op := Op.indexAddr 23 (Operand.tmp 56) (Operand.tmp 57), type := 0, pos := "law.go:106", after := #[{ on := 5, ground := Ground.data }, { on := 6, ground := Ground.data }], guard := none }) (v := ?_) rfl (by kernel_rfl) (by kernel_rfl) (by kernel_rfl) (by kernel_rfl) (by kernel_rfl) (fun _ _ _ h => h) (Or.inl ⟨by rfl, ?_⟩) hHeld ?_
        rotate_left 1
        · intro u hSu
          have hO := K2.out.keep hSu.out
          have q0 := hO.row i x HXX.out
          have q4 := hO.x.cell
          obtain ⟨a0, a1, a2, a3, a4⟩ := rda_at hO.x.2.r HB.out.1
          go_simp
          first | done | with_reducible rfl
        (try simp only [Act.put, List.setIfInBounds_toArray, List.set_cons_zero, List.set_cons_succ])
        refine anyV_take (i := 8) (oi := { dst := some 59, op := Op.fieldAddr 38 (Operand.tmp 58) 0, type := 0, pos := "law.go:106", after := #[{ on := 7, ground := Ground.data }], guard := none }) (v := ?_) rfl (by kernel_rfl) (by kernel_rfl) (by kernel_rfl) (by kernel_rfl) (by kernel_rfl) (fun _ _ _ h => h) (Or.inl ⟨by rfl, ?_⟩) hHeld ?_
        rotate_left 1
        · intro u hSu
          have hO := K2.out.keep hSu.out
          have q0 := hO.row i x HXX.out
          have q4 := hO.x.cell
          obtain ⟨a0, a1, a2, a3, a4⟩ := rda_at hO.x.2.r HB.out.1
          go_simp
          first | done | with_reducible rfl
        (try simp only [Act.put, List.setIfInBounds_toArray, List.set_cons_zero, List.set_cons_succ])
        refine anyV_take (i := 9) (oi := { dst := some 60, op := Op.load 3 (Operand.tmp 59), type := 3, pos := "law.go:106", after := #[{ on := 8, ground := Ground.data }], guard := none }) (v := ?_) rfl (by kernel_rfl) (by kernel_rfl) (by kernel_rfl) (by kernel_rfl) (by kernel_rfl) (fun _ _ _ h => h) (Or.inl ⟨by rfl, ?_⟩) hHeld ?_
        rotate_left 1
        · intro u hSu
          have hO := K2.out.keep hSu.out
          have q0 := hO.row i x HXX.out
          have q4 := hO.x.cell
          obtain ⟨a0, a1, a2, a3, a4⟩ := rda_at hO.x.2.r HB.out.1
          go_simp
          first | done | with_reducible rfl
        (try simp only [Act.put, List.setIfInBounds_toArray, List.set_cons_zero, List.set_cons_succ])
        refine anyV_ready (rs := [10, 14]) (by kernel_rfl) (by simp) ?_
        refine EachV.cons (o := { dst := some 61, op := Op.call { callee := Callee.value (Operand.func 19), args := #[Operand.tmp 54, Operand.tmp 60], argTypes := #[25, 3] }, type := 39, pos := "law.go:106", after := #[{ on := 3, ground := Ground.data }, { on := 9, ground := Ground.data }], guard := none }) rfl (fun Kz hK => ?_) (EachV.cons (o := { dst := some 13, op := Op.alloc 38, type := 0, pos := "law.go:106", after := #[], guard := none }) rfl (fun Kz hK => ?_) EachV.nil)
        · go_simp
          go_at_call 19
          try have HQ9 := Lib.hid (na_ltG HS9.out)
          refine (dfind_any x.l B.r x.p x.c _ _ ((K2.out.keep hHeld.out).dm i x HXX.out).r (by have := HXM.out.1; omega) HXM.out.2).mono ?_
          rintro e w5 ⟨A1, rfl, hsm, hok, hg⟩
          rw [grow_is HGX.out HB.out.2]
          have HA := Lib.hid (And.intro hsm hok.and)
          have hHn := Lib.hid (grown_trans hHeld.out hg)
          try replace HS9 := Lib.hid (show ∀ b, b = _ → _ from fun b hb => (HS9.out b hb).keep hg)
          clear hg hsm hok
          refine hK.out _ _ (fun _ _ => hHn) (fun hH2 => ?_)
          have hHeld2 := hH2 rfl hHeld
          clear hK Kz hHeld hH2
          have hHeld := hHeld2
          clear hHeld2
          (try simp only [Act.put, List.setIfInBounds_toArray, List.set_cons_zero, List.set_cons_succ])
          refine anyV_take (i := 11) (oi := { dst := some 50, op := Op.move (Operand.tmp 61), type := 39, pos := "law.go:106", after := #[{ on := 10, ground := Ground.data }], guard := none }) (v := ?_) rfl (by kernel_rfl) (by kernel_rfl) (by kernel_rfl) (by kernel_rfl) (by kernel_rfl) (fun _ _ _ h => h) (Or.inl ⟨by rfl, ?_⟩) hHeld ?_
          rotate_left 1
          · intro u hSu
            have hO := K2.out.keep hSu.out
            have q0 := hO.row i x HXX.out
            have q4 := hO.x.cell
            obtain ⟨a0, a1, a2, a3, a4⟩ := rda_at hO.x.2.r HB.out.1
            go_simp
            first | done | with_reducible rfl
          (try simp only [Act.put, List.setIfInBounds_toArray, List.set_cons_zero, List.set_cons_succ])
          refine anyV_take (i := 12) (oi := { dst := some 62, op := Op.extract (Operand.tmp 50) 0, type := 38, pos := "law.go:106", after := #[{ on := 11, ground := Ground.data }], guard := none }) (v := ?_) rfl (by kernel_rfl) (by kernel_rfl) (by kernel_rfl) (by kernel_rfl) (by kernel_rfl) (fun _ _ _ h => h) (Or.inl ⟨by rfl, ?_⟩) hHeld ?_
          rotate_left 1
          · intro u hSu
            have hO := K2.out.keep hSu.out
            have q0 := hO.row i x HXX.out
            have q4 := hO.x.cell
            obtain ⟨a0, a1, a2, a3, a4⟩ := rda_at hO.x.2.r HB.out.1
            go_simp
            first | done | with_reducible rfl
          (try simp only [Act.put, List.setIfInBounds_toArray, List.set_cons_zero, List.set_cons_succ])
          refine anyV_ready (rs := [13, 14]) (by kernel_rfl) (by simp) ?_
          refine EachV.cons (o := { dst := some 63, op := Op.extract (Operand.tmp 50) 1, type := 4, pos := "law.go:106", after := #[{ on := 11, ground := Ground.data }, { on := 15, ground := Ground.gcOnly Departure.lateStores }], guard := none }) rfl (fun Kz hK => ?_) (EachV.cons (o := { dst := some 13, op := Op.alloc 38, type := 0, pos := "law.go:106", after := #[], guard := none }) rfl (fun Kz hK => ?_) EachV.nil)
          · go_simp
            refine hK.out _ _ (fun _ h => h) (fun _ => ?_)
            clear hK Kz
            (try simp only [Act.put, List.setIfInBounds_toArray, List.set_cons_zero, List.set_cons_succ])
            refine anyV_ready (rs := [14]) (by kernel_rfl) (by simp) ?_
            refine EachV.cons (o := { dst := some 13, op := Op.alloc 38, type := 0, pos := "law.go:106", after := #[], guard := none }) rfl (fun Kz hK => ?_) EachV.nil
            go_simp
            try have HE2 := Lib.hid (fa_new hHeld.out HA.out.1 HA.out.2)
            try replace HA := Lib.hid (And.intro HA.out.1 (HA.out.2.keep (World.grownBy_alloc _ (.cells #[.int .i64 0, .int .i64 0, .bool false, .slice none 0 0, .slice none 0 0] 38) none)))
            have HSN := na_startG hHeld.out
            have hHn := Lib.hid (grown_trans hHeld.out (World.grownBy_alloc _ (.cells #[.int .i64 0, .int .i64 0, .bool false, .slice none 0 0, .slice none 0 0] 38) none))
            have HS9 := Lib.hid HSN
            clear HSN
            refine hK.out _ _ (fun _ _ => hHn) (fun hH2 => ?_)
            have hHeld2 := hH2 rfl hHeld
            clear hK Kz hHeld hH2
            have hHeld := hHeld2
            clear hHeld2
            (try simp only [Act.put, List.setIfInBounds_toArray, List.set_cons_zero, List.set_cons_succ])
            refine anyV_ready (rs := [15]) (by kernel_rfl) (by simp) ?_
            refine EachV.cons (o := { dst := none, op := Op.store 38 (Operand.tmp 13) (Operand.tmp 62), type := 0, pos := "law.go:106", after := #[{ on := 14, ground := Ground.data }, { on := 12, ground := Ground.data }, { on := 10, ground := Ground.chain }, { on := 0, ground := Ground.phase }, { on := 1, ground := Ground.phase }, { on := 2, ground := Ground.phase }, { on := 3, ground := Ground.phase }, { on := 4, ground := Ground.phase }, { on := 5, ground := Ground.phase }, { on := 6, ground := Ground.phase }, { on := 7, ground := Ground.phase }, { on := 8, ground := Ground.phase }, { on := 9, ground := Ground.phase }, { on := 10, ground := Ground.phase }, { on := 11, ground := Ground.phase }, { on := 12, ground := Ground.phase }, { on := 13, ground := Ground.textOnly Departure.lateStores }, { on := 14, ground := Ground.phase }], guard := none }) rfl (fun Kz hK => ?_) EachV.nil
            have hna := HS9.out _ (by first | rfl | simp)
            obtain ⟨k0, k1, k2, k3, k4⟩ := row5 hna.ab
            have f0 := frozen_of_row _ _ 0 _ _ hna.ab
            have f1 := frozen_of_row _ _ 1 _ _ hna.ab
            have f2 := frozen_of_row _ _ 2 _ _ hna.ab
            have f3 := frozen_of_row _ _ 3 _ _ hna.ab
            have f4 := frozen_of_row _ _ 4 _ _ hna.ab
            try (have hna2 : NA _ wq.heap.size _ := hna; obtain ⟨j0, j1, j2, j3, j4⟩ := row5 hna2.ab; have g0 := frozen_of_row _ _ 0 _ _ hna2.ab; have g1 := frozen_of_row _ _ 1 _ _ hna2.ab; have g2 := frozen_of_row _ _ 2 _ _ hna2.ab; have g3 := frozen_of_row _ _ 3 _ _ hna2.ab; have g4 := frozen_of_row _ _ 4 _ _ hna2.ab)
            have HE := Lib.hid (hna.fill hHeld.out HA.out.1 HA.out.2 (fun hq9 => by first | exact absurd hq9.1 (Nat.not_le.2 HQ9.out) | omega))
            go_simp
            refine hK.out _ _ (fun h => by cases h) (fun _ => ?_)
            clear hK Kz
            (try simp only [Act.put, List.setIfInBounds_toArray, List.set_cons_zero, List.set_cons_succ])
            refine anyV_ready (rs := [16]) (by kernel_rfl) (by simp) ?_
            refine EachV.cons (o := { dst := some 14, op := Op.assign (Operand.tmp 63), type := 4, pos := "law.go:106", after := #[{ on := 13, ground := Ground.data }, { on := 15, ground := Ground.chain }, { on := 0, ground := Ground.phase }, { on := 1, ground := Ground.phase }, { on := 2, ground := Ground.phase }, { on := 3, ground := Ground.phase }, { on := 4, ground := Ground.phase }, { on := 5, ground := Ground.phase }, { on := 6, ground := Ground.phase }, { on := 7, ground := Ground.phase }, { on := 8, ground := Ground.phase }, { on := 9, ground := Ground.phase }, { on := 10, ground := Ground.phase }, { on := 11, ground := Ground.phase }, { on := 12, ground := Ground.phase }, { on := 13, ground := Ground.phase }, { on := 14, ground := Ground.phase }, { on := 15, ground := Ground.phase }], guard := none }) rfl (fun Kz hK => ?_) EachV.nil
            go_simp
            refine hK.out _ _ (fun h => by cases h) (fun _ => ?_)
            clear hK Kz
            (try simp only [Act.put, List.setIfInBounds_toArray, List.set_cons_zero, List.set_cons_succ])
            refine anyV_done (by kernel_rfl) ?_ _
            clear HD HS9
            go_wp2_with fail
            go_meet
            first | exact ⟨_, A1, rfl, rfl, HE⟩ | exact ⟨_, A1, rfl, rfl, HE2⟩
          · go_simp
            try have HE2 := Lib.hid (fa_new hHeld.out HA.out.1 HA.out.2)
            try replace HA := Lib.hid (And.intro HA.out.1 (HA.out.2.keep (World.grownBy_alloc _ (.cells #[.int .i64 0, .int .i64 0, .bool false, .slice none 0 0, .slice none 0 0] 38) none)))
            have HSN := na_startG hHeld.out
            have hHn := Lib.hid (grown_trans hHeld.out (World.grownBy_alloc _ (.cells #[.int .i64 0, .int .i64 0, .bool false, .slice none 0 0, .slice none 0 0] 38) none))
            have HS9 := Lib.hid HSN
            clear HSN
            refine hK.out _ _ (fun _ _ => hHn) (fun hH2 => ?_)
            have hHeld2 := hH2 rfl hHeld
            clear hK Kz hHeld hH2
            have hHeld := hHeld2
            clear hHeld2
            (try simp only [Act.put, List.setIfInBounds_toArray, List.set_cons_zero, List.set_cons_succ])
            refine anyV_ready (rs := [13, 15]) (by kernel_rfl) (by simp) ?_
            refine EachV.cons (o := { dst := some 63, op := Op.extract (Operand.tmp 50) 1, type := 4, pos := "law.go:106", after := #[{ on := 11, ground := Ground.data }, { on := 15, ground := Ground.gcOnly Departure.lateStores }], guard := none }) rfl (fun Kz hK => ?_) (EachV.cons (o := { dst := none, op := Op.store 38 (Operand.tmp 13) (Operand.tmp 62), type := 0, pos := "law.go:106", after := #[{ on := 14, ground := Ground.data }, { on := 12, ground := Ground.data }, { on := 10, ground := Ground.chain }, { on := 0, ground := Ground.phase }, { on := 1, ground := Ground.phase }, { on := 2, ground := Ground.phase }, { on := 3, ground := Ground.phase }, { on := 4, ground := Ground.phase }, { on := 5, ground := Ground.phase }, { on := 6, ground := Ground.phase }, { on := 7, ground := Ground.phase }, { on := 8, ground := Ground.phase }, { on := 9, ground := Ground.phase }, { on := 10, ground := Ground.phase }, { on := 11, ground := Ground.phase }, { on := 12, ground := Ground.phase }, { on := 13, ground := Ground.textOnly Departure.lateStores }, { on := 14, ground := Ground.phase }], guard := none }) rfl (fun Kz hK => ?_) EachV.nil)
            · go_simp
              refine hK.out _ _ (fun _ h => h) (fun _ => ?_)
              clear hK Kz
              (try simp only [Act.put, List.setIfInBounds_toArray, List.set_cons_zero, List.set_cons_succ])
              refine anyV_ready (rs := [15]) (by kernel_rfl) (by simp) ?_
              refine EachV.cons (o := { dst := none, op := Op.store 38 (Operand.tmp 13) (Operand.tmp 62), type := 0, pos := "law.go:106", after := #[{ on := 14, ground := Ground.data }, { on := 12, ground := Ground.data }, { on := 10, ground := Ground.chain }, { on := 0, ground := Ground.phase }, { on := 1, ground := Ground.phase }, { on := 2, ground := Ground.phase }, { on := 3, ground := Ground.phase }, { on := 4, ground := Ground.phase }, { on := 5, ground := Ground.phase }, { on := 6, ground := Ground.phase }, { on := 7, ground := Ground.phase }, { on := 8, ground := Ground.phase }, { on := 9, ground := Ground.phase }, { on := 10, ground := Ground.phase }, { on := 11, ground := Ground.phase }, { on := 12, ground := Ground.phase }, { on := 13, ground := Ground.textOnly Departure.lateStores }, { on := 14, ground := Ground.phase }], guard := none }) rfl (fun Kz hK => ?_) EachV.nil
              have hna := HS9.out _ (by first | rfl | simp)
              obtain ⟨k0, k1, k2, k3, k4⟩ := row5 hna.ab
              have f0 := frozen_of_row _ _ 0 _ _ hna.ab
              have f1 := frozen_of_row _ _ 1 _ _ hna.ab
              have f2 := frozen_of_row _ _ 2 _ _ hna.ab
              have f3 := frozen_of_row _ _ 3 _ _ hna.ab
              have f4 := frozen_of_row _ _ 4 _ _ hna.ab
              try (have hna2 : NA _ wq.heap.size _ := hna; obtain ⟨j0, j1, j2, j3, j4⟩ := row5 hna2.ab; have g0 := frozen_of_row _ _ 0 _ _ hna2.ab; have g1 := frozen_of_row _ _ 1 _ _ hna2.ab; have g2 := frozen_of_row _ _ 2 _ _ hna2.ab; have g3 := frozen_of_row _ _ 3 _ _ hna2.ab; have g4 := frozen_of_row _ _ 4 _ _ hna2.ab)
              have HE := Lib.hid (hna.fill hHeld.out HA.out.1 HA.out.2 (fun hq9 => by first | exact absurd hq9.1 (Nat.not_le.2 HQ9.out) | omega))
              go_simp
              refine hK.out _ _ (fun h => by cases h) (fun _ => ?_)
              clear hK Kz
              (try simp only [Act.put, List.setIfInBounds_toArray, List.set_cons_zero, List.set_cons_succ])
              refine anyV_ready (rs := [16]) (by kernel_rfl) (by simp) ?_
              refine EachV.cons (o := { dst := some 14, op := Op.assign (Operand.tmp 63), type := 4, pos := "law.go:106", after := #[{ on := 13, ground := Ground.data }, { on := 15, ground := Ground.chain }, { on := 0, ground := Ground.phase }, { on := 1, ground := Ground.phase }, { on := 2, ground := Ground.phase }, { on := 3, ground := Ground.phase }, { on := 4, ground := Ground.phase }, { on := 5, ground := Ground.phase }, { on := 6, ground := Ground.phase }, { on := 7, ground := Ground.phase }, { on := 8, ground := Ground.phase }, { on := 9, ground := Ground.phase }, { on := 10, ground := Ground.phase }, { on := 11, ground := Ground.phase }, { on := 12, ground := Ground.phase }, { on := 13, ground := Ground.phase }, { on := 14, ground := Ground.phase }, { on := 15, ground := Ground.phase }], guard := none }) rfl (fun Kz hK => ?_) EachV.nil
              go_simp
              refine hK.out _ _ (fun h => by cases h) (fun _ => ?_)
              clear hK Kz
              (try simp only [Act.put, List.setIfInBounds_toArray, List.set_cons_zero, List.set_cons_succ])
              refine anyV_done (by kernel_rfl) ?_ _
              clear HD HS9
              go_wp2_with fail
              go_meet
              first | exact ⟨_, A1, rfl, rfl, HE⟩ | exact ⟨_, A1, rfl, rfl, HE2⟩
            · have hna := HS9.out _ (by first | rfl | simp)
              obtain ⟨k0, k1, k2, k3, k4⟩ := row5 hna.ab
              have f0 := frozen_of_row _ _ 0 _ _ hna.ab
              have f1 := frozen_of_row _ _ 1 _ _ hna.ab
              have f2 := frozen_of_row _ _ 2 _ _ hna.ab
              have f3 := frozen_of_row _ _ 3 _ _ hna.ab
              have f4 := frozen_of_row _ _ 4 _ _ hna.ab
              try (have hna2 : NA _ wq.heap.size _ := hna; obtain ⟨j0, j1, j2, j3, j4⟩ := row5 hna2.ab; have g0 := frozen_of_row _ _ 0 _ _ hna2.ab; have g1 := frozen_of_row _ _ 1 _ _ hna2.ab; have g2 := frozen_of_row _ _ 2 _ _ hna2.ab; have g3 := frozen_of_row _ _ 3 _ _ hna2.ab; have g4 := frozen_of_row _ _ 4 _ _ hna2.ab)
              have HE := Lib.hid (hna.fill hHeld.out HA.out.1 HA.out.2 (fun hq9 => by first | exact absurd hq9.1 (Nat.not_le.2 HQ9.out) | omega))
              go_simp
              refine hK.out _ _ (fun h => by cases h) (fun _ => ?_)
              clear hK Kz
              (try simp only [Act.put, List.setIfInBounds_toArray, List.set_cons_zero, List.set_cons_succ])
              refine anyV_ready (rs := [13]) (by kernel_rfl) (by simp) ?_
              refine EachV.cons (o := { dst := some 63, op := Op.extract (Operand.tmp 50) 1, type := 4, pos := "law.go:106", after := #[{ on := 11, ground := Ground.data }, { on := 15, ground := Ground.gcOnly Departure.lateStores }], guard := none }) rfl (fun Kz hK => ?_) EachV.nil
              go_simp
              refine hK.out _ _ (fun _ h => h) (fun _ => ?_)
              clear hK Kz
              (try simp only [Act.put, List.setIfInBounds_toArray, List.set_cons_zero, List.set_cons_succ])
              refine anyV_ready (rs := [16]) (by kernel_rfl) (by simp) ?_
              refine EachV.cons (o := { dst := some 14, op := Op.assign (Operand.tmp 63), type := 4, pos := "law.go:106", after := #[{ on := 13, ground := Ground.data }, { on := 15, ground := Ground.chain }, { on := 0, ground := Ground.phase }, { on := 1, ground := Ground.phase }, { on := 2, ground := Ground.phase }, { on := 3, ground := Ground.phase }, { on := 4, ground := Ground.phase }, { on := 5, ground := Ground.phase }, { on := 6, ground := Ground.phase }, { on := 7, ground := Ground.phase }, { on := 8, ground := Ground.phase }, { on := 9, ground := Ground.phase }, { on := 10, ground := Ground.phase }, { on := 11, ground := Ground.phase }, { on := 12, ground := Ground.phase }, { on := 13, ground := Ground.phase }, { on := 14, ground := Ground.phase }, { on := 15, ground := Ground.phase }], guard := none }) rfl (fun Kz hK => ?_) EachV.nil
              go_simp
              refine hK.out _ _ (fun h => by cases h) (fun _ => ?_)
              clear hK Kz
              (try simp only [Act.put, List.setIfInBounds_toArray, List.set_cons_zero, List.set_cons_succ])
              refine anyV_done (by kernel_rfl) ?_ _
              clear HD HS9
              go_wp2_with fail
              go_meet
              first | exact ⟨_, A1, rfl, rfl, HE⟩ | exact ⟨_, A1, rfl, rfl, HE2⟩
        · go_simp
          try have HE2 := Lib.hid (fa_new hHeld.out HA.out.1 HA.out.2)
          try replace HA := Lib.hid (And.intro HA.out.1 (HA.out.2.keep (World.grownBy_alloc _ (.cells #[.int .i64 0, .int .i64 0, .bool false, .slice none 0 0, .slice none 0 0] 38) none)))
          have HSN := na_startG hHeld.out
          have hHn := Lib.hid (grown_trans hHeld.out (World.grownBy_alloc _ (.cells #[.int .i64 0, .int .i64 0, .bool false, .slice none 0 0, .slice none 0 0] 38) none))
          have HS9 := Lib.hid HSN
          clear HSN
          refine hK.out _ _ (fun _ _ => hHn) (fun hH2 => ?_)
          have hHeld2 := hH2 rfl hHeld
          clear hK Kz hHeld hH2
          have hHeld := hHeld2
          clear hHeld2
          (try simp only [Act.put, List.setIfInBounds_toArray, List.set_cons_zero, List.set_cons_succ])
          refine anyV_ready (rs := [10]) (by kernel_rfl) (by simp) ?_
          refine EachV.cons (o := { dst := some 61, op := Op.call { callee := Callee.value (Operand.func 19), args := #[Operand.tmp 54, Operand.tmp 60], argTypes := #[25, 3] }, type := 39, pos := "law.go:106", after := #[{ on := 3, ground := Ground.data }, { on := 9, ground := Ground.data }], guard := none }) rfl (fun Kz hK => ?_) EachV.nil
          go_simp
          go_at_call 19
          try have HQ9 := Lib.hid (na_ltG HS9.out)
          refine (dfind_any x.l B.r x.p x.c _ _ ((K2.out.keep hHeld.out).dm i x HXX.out).r (by have := HXM.out.1; omega) HXM.out.2).mono ?_
          rintro e w5 ⟨A1, rfl, hsm, hok, hg⟩
          rw [grow_is HGX.out HB.out.2]
          have HA := Lib.hid (And.intro hsm hok.and)
          have hHn := Lib.hid (grown_trans hHeld.out hg)
          try replace HS9 := Lib.hid (show ∀ b, b = _ → _ from fun b hb => (HS9.out b hb).keep hg)
          clear hg hsm hok
          refine hK.out _ _ (fun _ _ => hHn) (fun hH2 => ?_)
          have hHeld2 := hH2 rfl hHeld
          clear hK Kz hHeld hH2
          have hHeld := hHeld2
          clear hHeld2
          (try simp only [Act.put, List.setIfInBounds_toArray, List.set_cons_zero, List.set_cons_succ])
          refine anyV_take (i := 11) (oi := { dst := some 50, op := Op.move (Operand.tmp 61), type := 39, pos := "law.go:106", after := #[{ on := 10, ground := Ground.data }], guard := none }) (v := ?_) rfl (by kernel_rfl) (by kernel_rfl) (by kernel_rfl) (by kernel_rfl) (by kernel_rfl) (fun _ _ _ h => h) (Or.inl ⟨by rfl, ?_⟩) hHeld ?_
          rotate_left 1
          · intro u hSu
            have hO := K2.out.keep hSu.out
            have q0 := hO.row i x HXX.out
            have q4 := hO.x.cell
            obtain ⟨a0, a1, a2, a3, a4⟩ := rda_at hO.x.2.r HB.out.1
            go_simp
            first | done | with_reducible rfl
          (try simp only [Act.put, List.setIfInBounds_toArray, List.set_cons_zero, List.set_cons_succ])
          refine anyV_take (i := 12) (oi := { dst := some 62, op := Op.extract (Operand.tmp 50) 0, type := 38, pos := "law.go:106", after := #[{ on := 11, ground := Ground.data }], guard := none }) (v := ?_) rfl (by kernel_rfl) (by kernel_rfl) (by kernel_rfl) (by kernel_rfl) (by kernel_rfl) (fun _ _ _ h => h) (Or.inl ⟨by rfl, ?_⟩) hHeld ?_
          rotate_left 1
          · intro u hSu
            have hO := K2.out.keep hSu.out
            have q0 := hO.row i x HXX.out
            have q4 := hO.x.cell
            obtain ⟨a0, a1, a2, a3, a4⟩ := rda_at hO.x.2.r HB.out.1
            go_simp
            first | done | with_reducible rfl
          (try simp only [Act.put, List.setIfInBounds_toArray, List.set_cons_zero, List.set_cons_succ])
          refine anyV_ready (rs := [13, 15]) (by kernel_rfl) (by simp) ?_
          refine EachV.cons (o := { dst := some 63, op := Op.extract (Operand.tmp 50) 1, type := 4, pos := "law.go:106", after := #[{ on := 11, ground := Ground.data }, { on := 15, ground := Ground.gcOnly Departure.lateStores }], guard := none }) rfl (fun Kz hK => ?_) (EachV.cons (o := { dst := none, op := Op.store 38 (Operand.tmp 13) (Operand.tmp 62), type := 0, pos := "law.go:106", after := #[{ on := 14, ground := Ground.data }, { on := 12, ground := Ground.data }, { on := 10, ground := Ground.chain }, { on := 0, ground := Ground.phase }, { on := 1, ground := Ground.phase }, { on := 2, ground := Ground.phase }, { on := 3, ground := Ground.phase }, { on := 4, ground := Ground.phase }, { on := 5, ground := Ground.phase }, { on := 6, ground := Ground.phase }, { on := 7, ground := Ground.phase }, { on := 8, ground := Ground.phase }, { on := 9, ground := Ground.phase }, { on := 10, ground := Ground.phase }, { on := 11, ground := Ground.phase }, { on := 12, ground := Ground.phase }, { on := 13, ground := Ground.textOnly Departure.lateStores }, { on := 14, ground := Ground.phase }], guard := none }) rfl (fun Kz hK => ?_) EachV.nil)
          · go_simp
            refine hK.out _ _ (fun _ h => h) (fun _ => ?_)
            clear hK Kz
            (try simp only [Act.put, List.setIfInBounds_toArray, List.set_cons_zero, List.set_cons_succ])
            refine anyV_ready (rs := [15]) (by kernel_rfl) (by simp) ?_
            refine EachV.cons (o := { dst := none, op := Op.store 38 (Operand.tmp 13) (Operand.tmp 62), type := 0, pos := "law.go:106", after := #[{ on := 14, ground := Ground.data }, { on := 12, ground := Ground.data }, { on := 10, ground := Ground.chain }, { on := 0, ground := Ground.phase }, { on := 1, ground := Ground.phase }, { on := 2, ground := Ground.phase }, { on := 3, ground := Ground.phase }, { on := 4, ground := Ground.phase }, { on := 5, ground := Ground.phase }, { on := 6, ground := Ground.phase }, { on := 7, ground := Ground.phase }, { on := 8, ground := Ground.phase }, { on := 9, ground := Ground.phase }, { on := 10, ground := Ground.phase }, { on := 11, ground := Ground.phase }, { on := 12, ground := Ground.phase }, { on := 13, ground := Ground.textOnly Departure.lateStores }, { on := 14, ground := Ground.phase }], guard := none }) rfl (fun Kz hK => ?_) EachV.nil
            have hna := HS9.out _ (by first | rfl | simp)
            obtain ⟨k0, k1, k2, k3, k4⟩ := row5 hna.ab
            have f0 := frozen_of_row _ _ 0 _ _ hna.ab
            have f1 := frozen_of_row _ _ 1 _ _ hna.ab
            have f2 := frozen_of_row _ _ 2 _ _ hna.ab
            have f3 := frozen_of_row _ _ 3 _ _ hna.ab
            have f4 := frozen_of_row _ _ 4 _ _ hna.ab
            try (have hna2 : NA _ wq.heap.size _ := hna; obtain ⟨j0, j1, j2, j3, j4⟩ := row5 hna2.ab; have g0 := frozen_of_row _ _ 0 _ _ hna2.ab; have g1 := frozen_of_row _ _ 1 _ _ hna2.ab; have g2 := frozen_of_row _ _ 2 _ _ hna2.ab; have g3 := frozen_of_row _ _ 3 _ _ hna2.ab; have g4 := frozen_of_row _ _ 4 _ _ hna2.ab)
            have HE := Lib.hid (hna.fill hHeld.out HA.out.1 HA.out.2 (fun hq9 => by first | exact absurd hq9.1 (Nat.not_le.2 HQ9.out) | omega))
            go_simp
            refine hK.out _ _ (fun h => by cases h) (fun _ => ?_)
            clear hK Kz
            (try simp only [Act.put, List.setIfInBounds_toArray, List.set_cons_zero, List.set_cons_succ])
            refine anyV_ready (rs := [16]) (by kernel_rfl) (by simp) ?_
            refine EachV.cons (o := { dst := some 14, op := Op.assign (Operand.tmp 63), type := 4, pos := "law.go:106", after := #[{ on := 13, ground := Ground.data }, { on := 15, ground := Ground.chain }, { on := 0, ground := Ground.phase }, { on := 1, ground := Ground.phase }, { on := 2, ground := Ground.phase }, { on := 3, ground := Ground.phase }, { on := 4, ground := Ground.phase }, { on := 5, ground := Ground.phase }, { on := 6, ground := Ground.phase }, { on := 7, ground := Ground.phase }, { on := 8, ground := Ground.phase }, { on := 9, ground := Ground.phase }, { on := 10, ground := Ground.phase }, { on := 11, ground := Ground.phase }, { on := 12, ground := Ground.phase }, { on := 13, ground := Ground.phase }, { on := 14, ground := Ground.phase }, { on := 15, ground := Ground.phase }], guard := none }) rfl (fun Kz hK => ?_) EachV.nil
            go_simp
            refine hK.out _ _ (fun h => by cases h) (fun _ => ?_)
            clear hK Kz
            (try simp only [Act.put, List.setIfInBounds_toArray, List.set_cons_zero, List.set_cons_succ])
            refine anyV_done (by kernel_rfl) ?_ _
            clear HD HS9
            go_wp2_with fail
            go_meet
            first | exact ⟨_, A1, rfl, rfl, HE⟩ | exact ⟨_, A1, rfl, rfl, HE2⟩
          · have hna := HS9.out _ (by first | rfl | simp)
            obtain ⟨k0, k1, k2, k3, k4⟩ := row5 hna.ab
            have f0 := frozen_of_row _ _ 0 _ _ hna.ab
            have f1 := frozen_of_row _ _ 1 _ _ hna.ab
            have f2 := frozen_of_row _ _ 2 _ _ hna.ab
            have f3 := frozen_of_row _ _ 3 _ _ hna.ab
            have f4 := frozen_of_row _ _ 4 _ _ hna.ab
            try (have hna2 : NA _ wq.heap.size _ := hna; obtain ⟨j0, j1, j2, j3, j4⟩ := row5 hna2.ab; have g0 := frozen_of_row _ _ 0 _ _ hna2.ab; have g1 := frozen_of_row _ _ 1 _ _ hna2.ab; have g2 := frozen_of_row _ _ 2 _ _ hna2.ab; have g3 := frozen_of_row _ _ 3 _ _ hna2.ab; have g4 := frozen_of_row _ _ 4 _ _ hna2.ab)
            have HE := Lib.hid (hna.fill hHeld.out HA.out.1 HA.out.2 (fun hq9 => by first | exact absurd hq9.1 (Nat.not_le.2 HQ9.out) | omega))
            go_simp
            refine hK.out _ _ (fun h => by cases h) (fun _ => ?_)
            clear hK Kz
            (try simp only [Act.put, List.setIfInBounds_toArray, List.set_cons_zero, List.set_cons_succ])
            refine anyV_ready (rs := [13]) (by kernel_rfl) (by simp) ?_
            refine EachV.cons (o := { dst := some 63, op := Op.extract (Operand.tmp 50) 1, type := 4, pos := "law.go:106", after := #[{ on := 11, ground := Ground.data }, { on := 15, ground := Ground.gcOnly Departure.lateStores }], guard := none }) rfl (fun Kz hK => ?_) EachV.nil
            go_simp
            refine hK.out _ _ (fun _ h => h) (fun _ => ?_)
            clear hK Kz
            (try simp only [Act.put, List.setIfInBounds_toArray, List.set_cons_zero, List.set_cons_succ])
            refine anyV_ready (rs := [16]) (by kernel_rfl) (by simp) ?_
            refine EachV.cons (o := { dst := some 14, op := Op.assign (Operand.tmp 63), type := 4, pos := "law.go:106", after := #[{ on := 13, ground := Ground.data }, { on := 15, ground := Ground.chain }, { on := 0, ground := Ground.phase }, { on := 1, ground := Ground.phase }, { on := 2, ground := Ground.phase }, { on := 3, ground := Ground.phase }, { on := 4, ground := Ground.phase }, { on := 5, ground := Ground.phase }, { on := 6, ground := Ground.phase }, { on := 7, ground := Ground.phase }, { on := 8, ground := Ground.phase }, { on := 9, ground := Ground.phase }, { on := 10, ground := Ground.phase }, { on := 11, ground := Ground.phase }, { on := 12, ground := Ground.phase }, { on := 13, ground := Ground.phase }, { on := 14, ground := Ground.phase }, { on := 15, ground := Ground.phase }], guard := none }) rfl (fun Kz hK => ?_) EachV.nil
            go_simp
            refine hK.out _ _ (fun h => by cases h) (fun _ => ?_)
            clear hK Kz
            (try simp only [Act.put, List.setIfInBounds_toArray, List.set_cons_zero, List.set_cons_succ])
            refine anyV_done (by kernel_rfl) ?_ _
            clear HD HS9
            go_wp2_with fail
            go_meet
            first | exact ⟨_, A1, rfl, rfl, HE⟩ | exact ⟨_, A1, rfl, rfl, HE2⟩
      case rest =>
      obtain ⟨b1, A1, rfl, rfl, F1⟩ := hcut
      have K3 := Lib.hid (And.intro (K2.out.keep F1.out.gr) F1.out)
      have HNW := Lib.hid (grow_hit HGX.out HB.out.2 F1.out.sm)
      clear K2 F1
      go_upto_region 13 with fail
      have HD := Lib.hid (And.intro (K3.out.1.keep (grown_drew (grown_refl _ none))) (K3.out.2.keep (grown_drew (grown_refl _ none))))
      clear K3
      refine wp_region_held_drew (S := fun w' => Hid (GW w n4 l1 (some ⟨g, off, none⟩) c1 n6 n8 D ⟨m6, p6, c6⟩ ⟨m8, p8, c8⟩ w' ∧ FA wq x.l B.r b1 A1 w')) (by kernel_rfl) (HD) (fun hHeld => ?_)
      refine wpAnyH_take (i := 0) (oi := { dst := some 64, op := Op.move (Operand.tmp 14), type := 4, pos := "law.go:107", after := #[], guard := none }) (v := ?_) rfl (by kernel_rfl) (by kernel_rfl) (by kernel_rfl) (fun _ _ _ h => h) (Or.inl ⟨by rfl, ?_⟩) hHeld ?_
      rotate_left 1
      · intro u hSu
        have q4 := hSu.out.1.x.cell
        obtain ⟨a0, a1, a2, a3, a4⟩ := rda_at hSu.out.1.x.2.r HB.out.1
        obtain ⟨b0, b1, b2, b3, b4⟩ := row5 hSu.out.2.ab
        go_simp
        first | done | with_reducible rfl
      (try simp only [Act.put, List.setIfInBounds_toArray, List.set_cons_zero, List.set_cons_succ])
      refine wpAnyH_take (i := 1) (oi := { dst := some 65, op := Op.unOp UnOp.not 4 (Operand.tmp 64), type := 4, pos := "law.go:107", after := #[{ on := 0, ground := Ground.data }], guard := none }) (v := ?_) rfl (by kernel_rfl) (by kernel_rfl) (by kernel_rfl) (fun _ _ _ h => h) (Or.inl ⟨by rfl, ?_⟩) hHeld ?_
      rotate_left 1
      · intro u hSu
        have q4 := hSu.out.1.x.cell
        obtain ⟨a0, a1, a2, a3, a4⟩ := rda_at hSu.out.1.x.2.r HB.out.1
        obtain ⟨b0, b1, b2, b3, b4⟩ := row5 hSu.out.2.ab
        go_simp
        first | done | with_reducible rfl
      (try simp only [Act.put, List.setIfInBounds_toArray, List.set_cons_zero, List.set_cons_succ])
      refine wpAnyH_take (i := 2) (oi := { dst := some 66, op := Op.move (Operand.tmp 65), type := 4, pos := "law.go:107", after := #[{ on := 1, ground := Ground.data }], guard := none }) (v := ?_) rfl (by kernel_rfl) (by kernel_rfl) (by kernel_rfl) (fun _ _ _ h => h) (Or.inl ⟨by rfl, ?_⟩) hHeld ?_
      rotate_left 1
      · intro u hSu
        have q4 := hSu.out.1.x.cell
        obtain ⟨a0, a1, a2, a3, a4⟩ := rda_at hSu.out.1.x.2.r HB.out.1
        obtain ⟨b0, b1, b2, b3, b4⟩ := row5 hSu.out.2.ab
        go_simp
        first | done | with_reducible rfl
      (try simp only [Act.put, List.setIfInBounds_toArray, List.set_cons_zero, List.set_cons_succ])
      refine wpAnyH_take (i := 3) (oi := { dst := some 67, op := Op.fieldAddr 25 (Operand.tmp 4) 0, type := 0, pos := "law.go:107", after := #[{ on := 2, ground := Ground.guard }], guard := some (2, false) }) (v := ?_) rfl (by kernel_rfl) (by kernel_rfl) (by kernel_rfl) (fun _ _ _ h => h) (Or.inl ⟨by rfl, ?_⟩) hHeld ?_
      rotate_left 1
      · intro u hSu
        have q4 := hSu.out.1.x.cell
        obtain ⟨a0, a1, a2, a3, a4⟩ := rda_at hSu.out.1.x.2.r HB.out.1
        obtain ⟨b0, b1, b2, b3, b4⟩ := row5 hSu.out.2.ab
        go_simp
        first | done | with_reducible rfl
      (try simp only [Act.put, List.setIfInBounds_toArray, List.set_cons_zero, List.set_cons_succ])
      refine wpAnyH_take (i := 4) (oi := { dst := some 68, op := Op.load 23 (Operand.tmp 67), type := 23, pos := "law.go:107", after := #[{ on := 3, ground := Ground.data }, { on := 2, ground := Ground.guard }], guard := some (2, false) }) (v := ?_) rfl (by kernel_rfl) (by kernel_rfl) (by kernel_rfl) (fun _ _ _ h => h) (Or.inl ⟨by rfl, ?_⟩) hHeld ?_
      rotate_left 1
      · intro u hSu
        have q4 := hSu.out.1.x.cell
        obtain ⟨a0, a1, a2, a3, a4⟩ := rda_at hSu.out.1.x.2.r HB.out.1
        obtain ⟨b0, b1, b2, b3, b4⟩ := row5 hSu.out.2.ab
        go_simp
        first | done | with_reducible rfl
      (try simp only [Act.put, List.setIfInBounds_toArray, List.set_cons_zero, List.set_cons_succ])
      refine wpAnyH_take (i := 5) (oi := { dst := some 69, op := Op.move (Operand.tmp 12), type := 3, pos := "law.go:107", after := #[{ on := 2, ground := Ground.guard }], guard := some (2, false) }) (v := ?_) rfl (by kernel_rfl) (by kernel_rfl) (by kernel_rfl) (fun _ _ _ h => h) (Or.inl ⟨by rfl, ?_⟩) hHeld ?_
      rotate_left 1
      · intro u hSu
        have q4 := hSu.out.1.x.cell
        obtain ⟨a0, a1, a2, a3, a4⟩ := rda_at hSu.out.1.x.2.r HB.out.1
        obtain ⟨b0, b1, b2, b3, b4⟩ := row5 hSu.out.2.ab
        go_simp
        first | done | with_reducible rfl
      (try simp only [Act.put, List.setIfInBounds_toArray, List.set_cons_zero, List.set_cons_succ])
      refine wpAnyH_take (i := 6) (oi := { dst := some 70, op := Op.indexAddr 23 (Operand.tmp 68) (Operand.tmp 69), type := 0, pos := "law.go:107", after := #[{ on := 4, ground := Ground.data }, { on := 5, ground := Ground.data }, { on := 2, ground := Ground.guard }], guard := some (2, false) }) (v := ?_) rfl (by kernel_rfl) (by kernel_rfl) (by kernel_rfl) (fun _ _ _ h => h) (Or.inl ⟨by rfl, ?_⟩) hHeld ?_
      rotate_left 1
      · intro u hSu
        have q4 := hSu.out.1.x.cell
        obtain ⟨a0, a1, a2, a3, a4⟩ := rda_at hSu.out.1.x.2.r HB.out.1
        obtain ⟨b0, b1, b2, b3, b4⟩ := row5 hSu.out.2.ab
        go_simp
        first | done | with_reducible rfl
      (try simp only [Act.put, List.setIfInBounds_toArray, List.set_cons_zero, List.set_cons_succ])
      refine wpAnyH_take (i := 7) (oi := { dst := some 71, op := Op.load 38 (Operand.tmp 70), type := 38, pos := "law.go:107", after := #[{ on := 6, ground := Ground.data }, { on := 2, ground := Ground.guard }], guard := some (2, false) }) (v := ?_) rfl (by kernel_rfl) (by kernel_rfl) (by kernel_rfl) (fun _ _ _ h => h) (Or.inl ⟨by rfl, ?_⟩) hHeld ?_
      rotate_left 1
      · intro u hSu
        have q4 := hSu.out.1.x.cell
        obtain ⟨a0, a1, a2, a3, a4⟩ := rda_at hSu.out.1.x.2.r HB.out.1
        obtain ⟨b0, b1, b2, b3, b4⟩ := row5 hSu.out.2.ab
        go_simp
        first | done | with_reducible rfl
      (try simp only [Act.put, List.setIfInBounds_toArray, List.set_cons_zero, List.set_cons_succ])
      refine wpAnyH_take (i := 8) (oi := { dst := some 72, op := Op.load 38 (Operand.tmp 13), type := 38, pos := "law.go:107", after := #[{ on := 2, ground := Ground.guard }], guard := some (2, false) }) (v := ?_) rfl (by kernel_rfl) (by kernel_rfl) (by kernel_rfl) (fun _ _ _ h => h) (Or.inl ⟨by rfl, ?_⟩) hHeld ?_
      rotate_left 1
      · intro u hSu
        have q4 := hSu.out.1.x.cell
        obtain ⟨a0, a1, a2, a3, a4⟩ := rda_at hSu.out.1.x.2.r HB.out.1
        obtain ⟨b0, b1, b2, b3, b4⟩ := row5 hSu.out.2.ab
        go_simp
        first | done | with_reducible rfl
      (try simp only [Act.put, List.setIfInBounds_toArray, List.set_cons_zero, List.set_cons_succ])
      refine wpAnyH_ready (rs := [9]) (by kernel_rfl) (by simp) ?_
      refine AllReadyH.cons (o := { dst := some 73, op := Op.call { callee := Callee.value (Operand.func 30), args := #[Operand.tmp 71, Operand.tmp 72], argTypes := #[38, 38] }, type := 4, pos := "law.go:107", after := #[{ on := 7, ground := Ground.data }, { on := 8, ground := Ground.data }, { on := 2, ground := Ground.chain }, { on := 2, ground := Ground.guard }], guard := some (2, false) }) rfl (fun Kz hK => ?_) AllReadyH.nil
      go_simp
      go_at_call 30
      obtain ⟨q1, hq1⟩ := hHeld.out.2.ok
      have hcall := rnewer_any B A1 _ _ _ (hHeld.out.1.x.2.r.ok B HB.out.2) hq1
      unfold Ad.val at hcall
      refine hcall.mono ?_
      rintro e w5 ⟨rfl, hg⟩
      rw [HNW.out]
      have hHn := Lib.hid (And.intro (hHeld.out.1.keep hg) (hHeld.out.2.keep hg))
      clear hg hcall hq1
      refine hK.out _ _ (hHn) (fun hH2 => ?_)
      clear hK Kz hHeld
      have hHeld := hH2
      clear hH2
      (try simp only [Act.put, List.setIfInBounds_toArray, List.set_cons_zero, List.set_cons_succ])
      refine wpAnyH_take (i := 10) (oi := { dst := some 74, op := Op.pick (Operand.tmp 66) (Operand.const (Value.bool true)) (Operand.tmp 73), type := 4, pos := "law.go:107", after := #[{ on := 2, ground := Ground.data }, { on := 9, ground := Ground.data }], guard := none }) (v := ?_) rfl (by kernel_rfl) (by kernel_rfl) (by kernel_rfl) (fun _ _ _ h => h) (Or.inl ⟨by rfl, ?_⟩) hHeld ?_
      rotate_left 1
      · intro u hSu
        have q4 := hSu.out.1.x.cell
        obtain ⟨a0, a1, a2, a3, a4⟩ := rda_at hSu.out.1.x.2.r HB.out.1
        obtain ⟨b0, b1, b2, b3, b4⟩ := row5 hSu.out.2.ab
        go_simp
        first | done | with_reducible rfl
      (try simp only [Act.put, List.setIfInBounds_toArray, List.set_cons_zero, List.set_cons_succ])
      refine wpAnyH_done (by kernel_rfl) ?_ _
      have K4 := Lib.hid hHeld.out.1
      clear hHeld HD hHn
      go_wp2_with fail
      exact ⟨⟨k + 1, by omega, congrArg _ (by omega), K4⟩, by simp only [RowKit.intOf]; omega⟩
    · have q4 := K2.out.x.cell
      have K3 := K2
      clear K2
      go_wp2_with fail
      exact ⟨⟨i + 1, by omega, congrArg _ (by omega), K3⟩, by simp only [RowKit.intOf]; omega⟩
  · have hi2I : ¬ (i : Int) < 2 := by omega
    have q6 := K.out.y.cell
    go_wp2_with fail
    refine (dcheck_any m6 p6 c6 _ wr K.out.y.2.r (by have := K.out.y.2.m; simp only at this; omega)).mono ?_
    rintro e w9 ⟨rfl, hg⟩
    rw [chk_ok HG6.out.2]
    have K2 := Lib.hid (K.out.keep hg)
    clear hg K q6
    have q8 := K2.out.z.cell
    go_wp2_with fail
    refine (dcheck_any m8 p8 c8 _ w9 K2.out.z.2.r (by have := K2.out.z.2.m; simp only at this; omega)).mono ?_
    rintro e w10 ⟨rfl, hg⟩
    rw [chk_ok HG8.out.2]
    have K3 := Lib.hid (K2.out.keep hg)
    clear hg K2 q8
    go_wp2_with fail
    refine (dawake_any _).mono ?_
    rintro e w11 ⟨rfl, hg⟩
    have HG := Lib.hid (grown_trans K3.out.g hg)
    clear hg K3
    go_wp2_with fail
    go_ret
    exact ⟨rfl, HG.out⟩
end Go.Proofs.Ytnpkihioklpnmaa

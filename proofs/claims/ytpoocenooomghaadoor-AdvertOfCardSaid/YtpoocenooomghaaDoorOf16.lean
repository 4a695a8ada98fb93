/- Parts of the proof, packed: AdOfP. -/
import Derived.Test.YtpoocenooomghaaDoorOf15
import Derived.Test.YtpoocenooomghaaDoorOf4
import Derived.Test.YtpoocenooomghaaDoorOf8
import Derived.Test.YtpoocenooomghaaDoorOf7
/- advert.Of. -/
namespace Go.Proofs.YtpoocenooomghaaDoor
open Go.RowKit Bs
set_option maxRecDepth 100000 in
set_option maxHeartbeats 6400000 in
theorem aof_any (T : Tg) (x s : Int) (C : List T3) (pC : Option Addr) (cC : Nat) (q q2 : Nat → Prop) (w : World) (hT : TgOk w q T) (hC : Rd3 w q2 (.slice pC C.length cC) C) (hn : pC = none → cC = 0) (hc : C.length ≤ cC ∧ cC ≤ 9223372036854775807) (hm : C.length ≤ 1000) :
    Calls Tryd.prog 33 #[.agg #[.slice T.pR T.R.length T.cR, .slice T.pL T.L.length T.cL], .int .i64 x, .int .i64 s, .slice pC C.length cC] w fun e w' => OfPost T.R T.L x s C w e w' := by
  have H0 := Lib.hid (OF.start T q q2 hT hC)
  have HCC := Lib.hid (And.intro hn hc)
  clear hT hC hn hc
  obtain ⟨R, L, pR, cR, pL, cL⟩ := T
  simp only at H0 ⊢
  go_enter Tryd.func33, Tryd.ntmps33
  go_upto_region 1 with fail
  generalize (w.alloc _).alloc _ = wa at *
  obtain ⟨s0, s1⟩ := H0.out.facts
  go_wp2_with fail
  refine (tcheck_any ⟨R, L, pR, cR, pL, cL⟩ _ _ H0.out.t).mono ?_
  rintro e w1 ⟨rfl, hg⟩
  have H1 := Lib.hid (H0.out.keep hg)
  clear H0 hg s0 s1
  simp only
  obtain ⟨z, hz⟩ : ∃ z, chk R L = z := ⟨_, rfl⟩
  rw [hz]
  by_cases hz0 : z = 0
  rotate_left
  · have hzb : (z == 0) = false := by simpa using hz0
    have HE : Hid (ofE R L x s C = 1) := Lib.hid (by unfold ofE; rw [if_pos (by rw [hz]; exact hz0)])
    clear hz
    obtain ⟨d0, d1, d2, d3, d4⟩ := row5 H1.out.rb
    have f0 := frozen_of_row _ _ 0 _ _ H1.out.rb
    have f1 := frozen_of_row _ _ 1 _ _ H1.out.rb
    have f2 := frozen_of_row _ _ 2 _ _ H1.out.rb
    have f3 := frozen_of_row _ _ 3 _ _ H1.out.rb
    have f4 := frozen_of_row _ _ 4 _ _ H1.out.rb
    obtain ⟨t1, t2⟩ := store5 (.int .i64 0) (.int .i64 0) (.bool false) (.slice none 0 0) (.slice none 0 0) H1.out.rb
    have HT := Lib.hid (And.intro t1 (grown_new H1.out.gr t2 (by omega)))
    clear t1 t2
    go_wp2_with fail
    refine bodyPost_ret (res_adv_err rfl _ _ (w.heap.size + 1) _ _ _ _ _ rfl HT.out.1) rfl ?_
    exact ⟨zAo, by rw [HE.out]; rfl, ⟨fun _ => True, zAo_ok _ _⟩, HT.out.2, fun h => absurd h (by rw [HE.out]; decide), fun _ => rfl⟩
  subst hz0
  have HOK := Lib.hid (chk_okAll hz)
  have HZ := Lib.hid hz
  have hRl : R.length ≤ 1000000 := by have := (chk_okAll hz).l1; omega
  have hLl : L.length ≤ 1000 := by have := (chk_okAll hz).l2; omega
  clear hz
  obtain ⟨s0, s1⟩ := H1.out.facts
  go_wp2_with fail
  refine (thas_any ⟨R, L, pR, cR, pL, cL⟩ x _ _ H1.out.t hRl).mono ?_
  rintro e w2 ⟨rfl, hg⟩
  have H2 := Lib.hid (H1.out.keep hg)
  clear H1 hg s0 s1
  simp only
  obtain ⟨h, hh⟩ : ∃ h, hasV R L x = h := ⟨_, rfl⟩
  rw [hh]
  cases h with
  | false =>
    have HE : Hid (ofE R L x s C = 4) := Lib.hid (by unfold ofE; rw [if_neg (by rw [HZ.out]; decide), if_pos hh])
    clear hh
    obtain ⟨d0, d1, d2, d3, d4⟩ := row5 H2.out.rb
    have f0 := frozen_of_row _ _ 0 _ _ H2.out.rb
    have f1 := frozen_of_row _ _ 1 _ _ H2.out.rb
    have f2 := frozen_of_row _ _ 2 _ _ H2.out.rb
    have f3 := frozen_of_row _ _ 3 _ _ H2.out.rb
    have f4 := frozen_of_row _ _ 4 _ _ H2.out.rb
    obtain ⟨t1, t2⟩ := store5 (.int .i64 0) (.int .i64 0) (.bool false) (.slice none 0 0) (.slice none 0 0) H2.out.rb
    have HT := Lib.hid (And.intro t1 (grown_new H2.out.gr t2 (by omega)))
    clear t1 t2
    go_wp2_with fail
    refine bodyPost_ret (res_adv_err rfl _ _ (w.heap.size + 1) _ _ _ _ _ rfl HT.out.1) rfl ?_
    exact ⟨zAo, by rw [HE.out]; rfl, ⟨fun _ => True, zAo_ok _ _⟩, HT.out.2, fun h => absurd h (by rw [HE.out]; decide), fun _ => rfl⟩
  | true =>
    have HE0 : Hid (ofE R L x s C = if vAd (ofA R L x s C) = false then 2 else 0) := Lib.hid (by unfold ofE; rw [if_neg (by rw [HZ.out]; decide), if_neg (by rw [hh]; decide)])
    clear hh
    go_upto_region 5 with fail
    obtain ⟨cp, hcp⟩ : ∃ cp, capV R L x = cp := ⟨_, rfl⟩
    obtain ⟨M, hM⟩ : ∃ M, reL L x = M := ⟨_, rfl⟩
    have HXX : Hid (ofA R L x s C = ⟨x, s, cp, M, C, none, 0, none, 0⟩) := Lib.hid (by unfold ofA; rw [hcp, hM])
    have HCAP : Hid (∀ wz, Hid (OF w ⟨R, L, pR, cR, pL, cL⟩ C pC cC wz) → Calls Tryd.prog 65 #[.agg #[.slice pR R.length cR, .slice pL L.length cL], .int .i64 x] wz fun e w' => e = .returned (.bool cp) ∧ wz.grownBy w' none) := Lib.hid (fun wz h => by rw [← hcp]; exact tcap_any ⟨R, L, pR, cR, pL, cL⟩ x _ _ h.out.t hRl)
    have HREA : Hid (∀ wz, Hid (OF w ⟨R, L, pR, cR, pL, cL⟩ C pC cC wz) → Calls Tryd.prog 66 #[.slice pL L.length cL, .int .i64 x] wz fun e w' => ReaPost M wz e w') := Lib.hid (fun wz h => by rw [← hM]; exact areach_any L x pL cL _ _ h.out.t.l hLl)
    have HCLO : Hid (∀ wz, Hid (OF w ⟨R, L, pR, cR, pL, cL⟩ C pC cC wz) → Calls Tryd.prog 67 #[.slice pC C.length cC] wz fun e w' => ∃ v, e = .returned v ∧ w'.ownsRow wz.heap.size 73 3 v C.length (C.flatMap t3C) ∧ wz.grownBy w' none) := Lib.hid (fun wz h => aclone_any C pC cC _ wz h.out.c HCC.out.1 HCC.out.2 hm)
    clear hcp hM
    go_cut [10] from 20 to 31 (fun y wx => ∃ B X, y = .pointer (some ⟨B, 0, none⟩) ∧ Hid (OG w ⟨R, L, pR, cR, pL, cL⟩ C pC cC B X wx ∧ smA X ⟨x, s, cp, M, C, none, 0, none, 0⟩))
    case first =>
      have HD := Lib.hid (H2.out.keep (grown_drew (grown_refl w2 none)))
      clear H2
      refine region_until (S := fun w' => Hid (OF w ⟨R, L, pR, cR, pL, cL⟩ C pC cC w')) (fun j => j == 13) (by kernel_rfl) (HD) (fun hHeld => ?_)
      refine anyU_take (i := 0) (oi := { dst := some 20, op := Op.move (Operand.tmp 1), type := 3, pos := "advert.go:100", after := #[], guard := none }) (v := ?_) rfl (by kernel_rfl) (by kernel_rfl) (by kernel_rfl) (by kernel_rfl) (by kernel_rfl) (fun _ _ _ h => h) (Or.inl ⟨by rfl, ?_⟩) hHeld ?_
      rotate_left 1
      · intro u hSu
        obtain ⟨s0, s1⟩ := hSu.out.facts
        go_simp
        first | done | with_reducible rfl
      (try simp only [Act.put, List.setIfInBounds_toArray, List.set_cons_zero, List.set_cons_succ])
      refine anyU_take (i := 1) (oi := { dst := some 21, op := Op.move (Operand.tmp 2), type := 3, pos := "advert.go:100", after := #[], guard := none }) (v := ?_) rfl (by kernel_rfl) (by kernel_rfl) (by kernel_rfl) (by kernel_rfl) (by kernel_rfl) (fun _ _ _ h => h) (Or.inl ⟨by rfl, ?_⟩) hHeld ?_
      rotate_left 1
      · intro u hSu
        obtain ⟨s0, s1⟩ := hSu.out.facts
        go_simp
        first | done | with_reducible rfl
      (try simp only [Act.put, List.setIfInBounds_toArray, List.set_cons_zero, List.set_cons_succ])
      refine anyU_take (i := 2) (oi := { dst := some 22, op := Op.load 61 (Operand.tmp 4), type := 61, pos := "advert.go:100", after := #[], guard := none }) (v := ?_) rfl (by kernel_rfl) (by kernel_rfl) (by kernel_rfl) (by kernel_rfl) (by kernel_rfl) (fun _ _ _ h => h) (Or.inl ⟨by rfl, ?_⟩) hHeld ?_
      rotate_left 1
      · intro u hSu
        obtain ⟨s0, s1⟩ := hSu.out.facts
        go_simp
        first | done | with_reducible rfl
      (try simp only [Act.put, List.setIfInBounds_toArray, List.set_cons_zero, List.set_cons_succ])
      refine anyU_take (i := 3) (oi := { dst := some 23, op := Op.move (Operand.tmp 1), type := 3, pos := "advert.go:100", after := #[], guard := none }) (v := ?_) rfl (by kernel_rfl) (by kernel_rfl) (by kernel_rfl) (by kernel_rfl) (by kernel_rfl) (fun _ _ _ h => h) (Or.inl ⟨by rfl, ?_⟩) hHeld ?_
      rotate_left 1
      · intro u hSu
        obtain ⟨s0, s1⟩ := hSu.out.facts
        go_simp
        first | done | with_reducible rfl
      (try simp only [Act.put, List.setIfInBounds_toArray, List.set_cons_zero, List.set_cons_succ])
      refine anyU_take (i := 5) (oi := { dst := some 25, op := Op.fieldAddr 61 (Operand.tmp 4) 1, type := 0, pos := "advert.go:100", after := #[], guard := none }) (v := ?_) rfl (by kernel_rfl) (by kernel_rfl) (by kernel_rfl) (by kernel_rfl) (by kernel_rfl) (fun _ _ _ h => h) (Or.inl ⟨by rfl, ?_⟩) hHeld ?_
      rotate_left 1
      · intro u hSu
        obtain ⟨s0, s1⟩ := hSu.out.facts
        go_simp
        first | done | with_reducible rfl
      (try simp only [Act.put, List.setIfInBounds_toArray, List.set_cons_zero, List.set_cons_succ])
      refine anyU_take (i := 6) (oi := { dst := some 26, op := Op.load 59 (Operand.tmp 25), type := 59, pos := "advert.go:100", after := #[{ on := 5, ground := Ground.data }], guard := none }) (v := ?_) rfl (by kernel_rfl) (by kernel_rfl) (by kernel_rfl) (by kernel_rfl) (by kernel_rfl) (fun _ _ _ h => h) (Or.inl ⟨by rfl, ?_⟩) hHeld ?_
      rotate_left 1
      · intro u hSu
        obtain ⟨s0, s1⟩ := hSu.out.facts
        go_simp
        first | done | with_reducible rfl
      (try simp only [Act.put, List.setIfInBounds_toArray, List.set_cons_zero, List.set_cons_succ])
      refine anyU_take (i := 7) (oi := { dst := some 27, op := Op.move (Operand.tmp 1), type := 3, pos := "advert.go:100", after := #[], guard := none }) (v := ?_) rfl (by kernel_rfl) (by kernel_rfl) (by kernel_rfl) (by kernel_rfl) (by kernel_rfl) (fun _ _ _ h => h) (Or.inl ⟨by rfl, ?_⟩) hHeld ?_
      rotate_left 1
      · intro u hSu
        obtain ⟨s0, s1⟩ := hSu.out.facts
        go_simp
        first | done | with_reducible rfl
      (try simp only [Act.put, List.setIfInBounds_toArray, List.set_cons_zero, List.set_cons_succ])
      refine anyU_take (i := 9) (oi := { dst := some 29, op := Op.move (Operand.tmp 3), type := 24, pos := "advert.go:100", after := #[], guard := none }) (v := ?_) rfl (by kernel_rfl) (by kernel_rfl) (by kernel_rfl) (by kernel_rfl) (by kernel_rfl) (fun _ _ _ h => h) (Or.inl ⟨by rfl, ?_⟩) hHeld ?_
      rotate_left 1
      · intro u hSu
        obtain ⟨s0, s1⟩ := hSu.out.facts
        go_simp
        first | done | with_reducible rfl
      (try simp only [Act.put, List.setIfInBounds_toArray, List.set_cons_zero, List.set_cons_succ])
      refine anyU_ready (rs := [4, 12]) (by kernel_rfl) (by simp) ?_
      refine EachU.cons (o := { dst := some 24, op := Op.call { callee := Callee.value (Operand.func 65), args := #[Operand.tmp 22, Operand.tmp 23], argTypes := #[61, 3] }, type := 4, pos := "advert.go:103", after := #[{ on := 2, ground := Ground.data }, { on := 3, ground := Ground.data }], guard := none }) rfl (fun Kz hK => ?_) (EachU.cons (o := { dst := some 10, op := Op.alloc 26, type := 0, pos := "advert.go:100", after := #[], guard := none }) rfl (fun Kz hK => ?_) EachU.nil)
      · go_simp
        go_at_call 65
        refine (HCAP.out _ hHeld).mono ?_
        rintro e w5 ⟨rfl, hg⟩
        have hHn := Lib.hid (hHeld.out.keep hg)
        try replace HM := Lib.hid (And.intro (HM.out.1.grown hg (fun _ _ => by simp)) HM.out.2)
        try replace HN := Lib.hid (And.intro (HN.out.1.grown hg (fun _ _ => by simp)) HN.out.2)
        try replace HS := Lib.hid (show ∀ b, b = _ → _ from fun b hb => (HS.out b hb).keep hg)
        clear hg
        refine hK.out _ _ (fun _ => hHn) (fun hH2 => ?_)
        clear hK Kz hHeld
        have hHeld := hH2 rfl
        clear hH2
        (try simp only [Act.put, List.setIfInBounds_toArray, List.set_cons_zero, List.set_cons_succ])
        refine anyU_ready (rs := [8, 12]) (by kernel_rfl) (by simp) ?_
        refine EachU.cons (o := { dst := some 28, op := Op.call { callee := Callee.value (Operand.func 66), args := #[Operand.tmp 26, Operand.tmp 27], argTypes := #[59, 3] }, type := 23, pos := "advert.go:104", after := #[{ on := 6, ground := Ground.data }, { on := 7, ground := Ground.data }, { on := 4, ground := Ground.chain }], guard := none }) rfl (fun Kz hK => ?_) (EachU.cons (o := { dst := some 10, op := Op.alloc 26, type := 0, pos := "advert.go:100", after := #[], guard := none }) rfl (fun Kz hK => ?_) EachU.nil)
        · go_simp
          go_at_call 66
          have hsz := World.lt_of_row' hHeld.out.rb
          refine (HREA.out _ hHeld).mono ?_
          rintro e w5 ⟨p5, c5, rfl, hM, hMl, -, hg⟩
          have hHn := Lib.hid (hHeld.out.keep hg)
          have HM := Lib.hid (And.intro (hM.mono (q' := fun b => w.heap.size + 1 < b) (fun b hb => by omega)) hMl)
          try replace HN := Lib.hid (And.intro (HN.out.1.grown hg (fun _ _ => by simp)) HN.out.2)
          try replace HS := Lib.hid (show ∀ b, b = _ → _ from fun b hb => (HS.out b hb).keep hg)
          clear hg hM hMl hsz
          refine hK.out _ _ (fun _ => hHn) (fun hH2 => ?_)
          clear hK Kz hHeld
          have hHeld := hH2 rfl
          clear hH2
          (try simp only [Act.put, List.setIfInBounds_toArray, List.set_cons_zero, List.set_cons_succ])
          refine anyU_ready (rs := [10, 12]) (by kernel_rfl) (by simp) ?_
          refine EachU.cons (o := { dst := some 30, op := Op.call { callee := Callee.value (Operand.func 67), args := #[Operand.tmp 29], argTypes := #[24] }, type := 24, pos := "advert.go:105", after := #[{ on := 9, ground := Ground.data }, { on := 8, ground := Ground.chain }], guard := none }) rfl (fun Kz hK => ?_) (EachU.cons (o := { dst := some 10, op := Op.alloc 26, type := 0, pos := "advert.go:100", after := #[], guard := none }) rfl (fun Kz hK => ?_) EachU.nil)
          · go_simp
            go_at_call 67
            have hsz := World.lt_of_row' hHeld.out.rb
            refine (HCLO.out _ hHeld).mono ?_
            rintro e w5 ⟨v6, rfl, hO, hg⟩
            obtain ⟨p6, c6, rfl, h6a, h6b⟩ := own_shape hO
            have hHn := Lib.hid (hHeld.out.keep hg)
            have HN := Lib.hid (And.intro ((rdf_of_own hO).mono (q' := fun b => w.heap.size + 1 < b) (fun b hb => by omega)) (And.intro h6a h6b))
            try replace HM := Lib.hid (And.intro (HM.out.1.grown hg (fun _ _ => by simp)) HM.out.2)
            try replace HS := Lib.hid (show ∀ b, b = _ → _ from fun b hb => (HS.out b hb).keep hg)
            clear hg hO hsz h6a h6b
            refine hK.out _ _ (fun _ => hHn) (fun hH2 => ?_)
            clear hK Kz hHeld
            have hHeld := hH2 rfl
            clear hH2
            (try simp only [Act.put, List.setIfInBounds_toArray, List.set_cons_zero, List.set_cons_succ])
            refine anyU_take (i := 11) (oi := { dst := some 31, op := Op.build 26 #[(0, Operand.tmp 20), (1, Operand.tmp 21), (2, Operand.tmp 24), (3, Operand.tmp 28), (4, Operand.tmp 30)], type := 26, pos := "advert.go:100", after := #[{ on := 0, ground := Ground.data }, { on := 1, ground := Ground.data }, { on := 4, ground := Ground.data }, { on := 8, ground := Ground.data }, { on := 10, ground := Ground.data }], guard := none }) (v := ?_) rfl (by kernel_rfl) (by kernel_rfl) (by kernel_rfl) (by kernel_rfl) (by kernel_rfl) (fun _ _ _ h => h) (Or.inl ⟨by rfl, ?_⟩) hHeld ?_
            rotate_left 1
            · intro u hSu
              obtain ⟨s0, s1⟩ := hSu.out.facts
              go_simp
              first | done | with_reducible rfl
            (try simp only [Act.put, List.setIfInBounds_toArray, List.set_cons_zero, List.set_cons_succ])
            refine anyU_ready (rs := [12]) (by kernel_rfl) (by simp) ?_
            refine EachU.cons (o := { dst := some 10, op := Op.alloc 26, type := 0, pos := "advert.go:100", after := #[], guard := none }) rfl (fun Kz hK => ?_) EachU.nil
            go_simp
            try have HE2 := Lib.hid (og_new (X := ⟨x, s, cp, M, C, p5, c5, p6, c6⟩) hHeld.out HM.out.1 HN.out.1 HM.out.2 HN.out.2 x s cp rfl)
            have HSN := hHeld.out.nb
            have hHn := Lib.hid (hHeld.out.keep (World.grownBy_alloc _ (.cells #[.int .i64 0, .int .i64 0, .bool false, .slice none 0 0, .slice none 0 0] 26) none))
            try replace HM := Lib.hid (And.intro (HM.out.1.grown (World.grownBy_alloc _ (.cells #[.int .i64 0, .int .i64 0, .bool false, .slice none 0 0, .slice none 0 0] 26) none) (fun _ _ => by simp)) HM.out.2)
            try replace HN := Lib.hid (And.intro (HN.out.1.grown (World.grownBy_alloc _ (.cells #[.int .i64 0, .int .i64 0, .bool false, .slice none 0 0, .slice none 0 0] 26) none) (fun _ _ => by simp)) HN.out.2)
            have HS := Lib.hid HSN
            clear HSN
            refine hK.out _ _ (fun _ => hHn) (fun hH2 => ?_)
            clear hK Kz hHeld
            have hHeld := hH2 rfl
            clear hH2
            (try simp only [Act.put, List.setIfInBounds_toArray, List.set_cons_zero, List.set_cons_succ])
            refine anyU_ready (rs := [13]) (by kernel_rfl) (by simp) ?_
            refine EachU.cons (o := { dst := none, op := Op.store 26 (Operand.tmp 10) (Operand.tmp 31), type := 0, pos := "advert.go:100", after := #[{ on := 12, ground := Ground.data }, { on := 11, ground := Ground.data }, { on := 10, ground := Ground.chain }, { on := 0, ground := Ground.phase }, { on := 1, ground := Ground.phase }, { on := 2, ground := Ground.phase }, { on := 3, ground := Ground.phase }, { on := 4, ground := Ground.phase }, { on := 5, ground := Ground.phase }, { on := 6, ground := Ground.phase }, { on := 7, ground := Ground.phase }, { on := 8, ground := Ground.phase }, { on := 9, ground := Ground.phase }, { on := 10, ground := Ground.phase }, { on := 11, ground := Ground.phase }, { on := 12, ground := Ground.phase }], guard := none }) rfl (fun Kz hK => ?_) EachU.nil
            have hna := HS.out _ (by first | rfl | simp)
            obtain ⟨k0, k1, k2, k3, k4⟩ := row5 hna.ab
            have f0 := frozen_of_row _ _ 0 _ _ hna.ab
            have f1 := frozen_of_row _ _ 1 _ _ hna.ab
            have f2 := frozen_of_row _ _ 2 _ _ hna.ab
            have f3 := frozen_of_row _ _ 3 _ _ hna.ab
            have f4 := frozen_of_row _ _ 4 _ _ hna.ab
            try (have hna2 : NB w w2.heap.size _ := hna; obtain ⟨j0, j1, j2, j3, j4⟩ := row5 hna2.ab; have g0 := frozen_of_row _ _ 0 _ _ hna2.ab; have g1 := frozen_of_row _ _ 1 _ _ hna2.ab; have g2 := frozen_of_row _ _ 2 _ _ hna2.ab; have g3 := frozen_of_row _ _ 3 _ _ hna2.ab; have g4 := frozen_of_row _ _ 4 _ _ hna2.ab)
            have HE := Lib.hid (og_put (X := ⟨x, s, cp, M, C, p5, c5, p6, c6⟩) hHeld.out hna HM.out.1 HN.out.1 HM.out.2 HN.out.2 x s cp rfl)
            go_simp
            refine hK.out _ _ (fun h => by cases h) (fun _ => ?_)
            clear hK Kz
            (try simp only [Act.put, List.setIfInBounds_toArray, List.set_cons_zero, List.set_cons_succ])
            refine anyU_done (by kernel_rfl) ?_ _
            clear HD HS HM HN
            go_wp2_with fail
            go_meet
            first | exact ⟨_, ⟨x, s, cp, M, C, p5, c5, p6, c6⟩, rfl, Lib.hid ⟨HE.out, rfl, rfl, rfl, rfl, rfl⟩⟩ | exact ⟨_, ⟨x, s, cp, M, C, p5, c5, p6, c6⟩, rfl, Lib.hid ⟨HE2.out, rfl, rfl, rfl, rfl, rfl⟩⟩
          · go_simp
            try have HE2 := Lib.hid (og_new (X := ⟨x, s, cp, M, C, p5, c5, p6, c6⟩) hHeld.out HM.out.1 HN.out.1 HM.out.2 HN.out.2 x s cp rfl)
            have HSN := hHeld.out.nb
            have hHn := Lib.hid (hHeld.out.keep (World.grownBy_alloc _ (.cells #[.int .i64 0, .int .i64 0, .bool false, .slice none 0 0, .slice none 0 0] 26) none))
            try replace HM := Lib.hid (And.intro (HM.out.1.grown (World.grownBy_alloc _ (.cells #[.int .i64 0, .int .i64 0, .bool false, .slice none 0 0, .slice none 0 0] 26) none) (fun _ _ => by simp)) HM.out.2)
            try replace HN := Lib.hid (And.intro (HN.out.1.grown (World.grownBy_alloc _ (.cells #[.int .i64 0, .int .i64 0, .bool false, .slice none 0 0, .slice none 0 0] 26) none) (fun _ _ => by simp)) HN.out.2)
            have HS := Lib.hid HSN
            clear HSN
            refine hK.out _ _ (fun _ => hHn) (fun hH2 => ?_)
            clear hK Kz hHeld
            have hHeld := hH2 rfl
            clear hH2
            (try simp only [Act.put, List.setIfInBounds_toArray, List.set_cons_zero, List.set_cons_succ])
            refine anyU_ready (rs := [10]) (by kernel_rfl) (by simp) ?_
            refine EachU.cons (o := { dst := some 30, op := Op.call { callee := Callee.value (Operand.func 67), args := #[Operand.tmp 29], argTypes := #[24] }, type := 24, pos := "advert.go:105", after := #[{ on := 9, ground := Ground.data }, { on := 8, ground := Ground.chain }], guard := none }) rfl (fun Kz hK => ?_) EachU.nil
            go_simp
            go_at_call 67
            have hsz := World.lt_of_row' hHeld.out.rb
            refine (HCLO.out _ hHeld).mono ?_
            rintro e w5 ⟨v6, rfl, hO, hg⟩
            obtain ⟨p6, c6, rfl, h6a, h6b⟩ := own_shape hO
            have hHn := Lib.hid (hHeld.out.keep hg)
            have HN := Lib.hid (And.intro ((rdf_of_own hO).mono (q' := fun b => w.heap.size + 1 < b) (fun b hb => by omega)) (And.intro h6a h6b))
            try replace HM := Lib.hid (And.intro (HM.out.1.grown hg (fun _ _ => by simp)) HM.out.2)
            try replace HS := Lib.hid (show ∀ b, b = _ → _ from fun b hb => (HS.out b hb).keep hg)
            clear hg hO hsz h6a h6b
            refine hK.out _ _ (fun _ => hHn) (fun hH2 => ?_)
            clear hK Kz hHeld
            have hHeld := hH2 rfl
            clear hH2
            (try simp only [Act.put, List.setIfInBounds_toArray, List.set_cons_zero, List.set_cons_succ])
            refine anyU_take (i := 11) (oi := { dst := some 31, op := Op.build 26 #[(0, Operand.tmp 20), (1, Operand.tmp 21), (2, Operand.tmp 24), (3, Operand.tmp 28), (4, Operand.tmp 30)], type := 26, pos := "advert.go:100", after := #[{ on := 0, ground := Ground.data }, { on := 1, ground := Ground.data }, { on := 4, ground := Ground.data }, { on := 8, ground := Ground.data }, { on := 10, ground := Ground.data }], guard := none }) (v := ?_) rfl (by kernel_rfl) (by kernel_rfl) (by kernel_rfl) (by kernel_rfl) (by kernel_rfl) (fun _ _ _ h => h) (Or.inl ⟨by rfl, ?_⟩) hHeld ?_
            rotate_left 1
            · intro u hSu
              obtain ⟨s0, s1⟩ := hSu.out.facts
              go_simp
              first | done | with_reducible rfl
            (try simp only [Act.put, List.setIfInBounds_toArray, List.set_cons_zero, List.set_cons_succ])
            refine anyU_ready (rs := [13]) (by kernel_rfl) (by simp) ?_
            refine EachU.cons (o := { dst := none, op := Op.store 26 (Operand.tmp 10) (Operand.tmp 31), type := 0, pos := "advert.go:100", after := #[{ on := 12, ground := Ground.data }, { on := 11, ground := Ground.data }, { on := 10, ground := Ground.chain }, { on := 0, ground := Ground.phase }, { on := 1, ground := Ground.phase }, { on := 2, ground := Ground.phase }, { on := 3, ground := Ground.phase }, { on := 4, ground := Ground.phase }, { on := 5, ground := Ground.phase }, { on := 6, ground := Ground.phase }, { on := 7, ground := Ground.phase }, { on := 8, ground := Ground.phase }, { on := 9, ground := Ground.phase }, { on := 10, ground := Ground.phase }, { on := 11, ground := Ground.phase }, { on := 12, ground := Ground.phase }], guard := none }) rfl (fun Kz hK => ?_) EachU.nil
            have hna := HS.out _ (by first | rfl | simp)
            obtain ⟨k0, k1, k2, k3, k4⟩ := row5 hna.ab
            have f0 := frozen_of_row _ _ 0 _ _ hna.ab
            have f1 := frozen_of_row _ _ 1 _ _ hna.ab
            have f2 := frozen_of_row _ _ 2 _ _ hna.ab
            have f3 := frozen_of_row _ _ 3 _ _ hna.ab
            have f4 := frozen_of_row _ _ 4 _ _ hna.ab
            try (have hna2 : NB w w2.heap.size _ := hna; obtain ⟨j0, j1, j2, j3, j4⟩ := row5 hna2.ab; have g0 := frozen_of_row _ _ 0 _ _ hna2.ab; have g1 := frozen_of_row _ _ 1 _ _ hna2.ab; have g2 := frozen_of_row _ _ 2 _ _ hna2.ab; have g3 := frozen_of_row _ _ 3 _ _ hna2.ab; have g4 := frozen_of_row _ _ 4 _ _ hna2.ab)
            have HE := Lib.hid (og_put (X := ⟨x, s, cp, M, C, p5, c5, p6, c6⟩) hHeld.out hna HM.out.1 HN.out.1 HM.out.2 HN.out.2 x s cp rfl)
            go_simp
            refine hK.out _ _ (fun h => by cases h) (fun _ => ?_)
            clear hK Kz
            (try simp only [Act.put, List.setIfInBounds_toArray, List.set_cons_zero, List.set_cons_succ])
            refine anyU_done (by kernel_rfl) ?_ _
            clear HD HS HM HN
            go_wp2_with fail
            go_meet
            first | exact ⟨_, ⟨x, s, cp, M, C, p5, c5, p6, c6⟩, rfl, Lib.hid ⟨HE.out, rfl, rfl, rfl, rfl, rfl⟩⟩ | exact ⟨_, ⟨x, s, cp, M, C, p5, c5, p6, c6⟩, rfl, Lib.hid ⟨HE2.out, rfl, rfl, rfl, rfl, rfl⟩⟩
        · go_simp
          try have HE2 := Lib.hid (og_new (X := ⟨x, s, cp, M, C, p5, c5, p6, c6⟩) hHeld.out HM.out.1 HN.out.1 HM.out.2 HN.out.2 x s cp rfl)
          have HSN := hHeld.out.nb
          have hHn := Lib.hid (hHeld.out.keep (World.grownBy_alloc _ (.cells #[.int .i64 0, .int .i64 0, .bool false, .slice none 0 0, .slice none 0 0] 26) none))
          try replace HM := Lib.hid (And.intro (HM.out.1.grown (World.grownBy_alloc _ (.cells #[.int .i64 0, .int .i64 0, .bool false, .slice none 0 0, .slice none 0 0] 26) none) (fun _ _ => by simp)) HM.out.2)
          try replace HN := Lib.hid (And.intro (HN.out.1.grown (World.grownBy_alloc _ (.cells #[.int .i64 0, .int .i64 0, .bool false, .slice none 0 0, .slice none 0 0] 26) none) (fun _ _ => by simp)) HN.out.2)
          have HS := Lib.hid HSN
          clear HSN
          refine hK.out _ _ (fun _ => hHn) (fun hH2 => ?_)
          clear hK Kz hHeld
          have hHeld := hH2 rfl
          clear hH2
          (try simp only [Act.put, List.setIfInBounds_toArray, List.set_cons_zero, List.set_cons_succ])
          refine anyU_ready (rs := [8]) (by kernel_rfl) (by simp) ?_
          refine EachU.cons (o := { dst := some 28, op := Op.call { callee := Callee.value (Operand.func 66), args := #[Operand.tmp 26, Operand.tmp 27], argTypes := #[59, 3] }, type := 23, pos := "advert.go:104", after := #[{ on := 6, ground := Ground.data }, { on := 7, ground := Ground.data }, { on := 4, ground := Ground.chain }], guard := none }) rfl (fun Kz hK => ?_) EachU.nil
          go_simp
          go_at_call 66
          have hsz := World.lt_of_row' hHeld.out.rb
          refine (HREA.out _ hHeld).mono ?_
          rintro e w5 ⟨p5, c5, rfl, hM, hMl, -, hg⟩
          have hHn := Lib.hid (hHeld.out.keep hg)
          have HM := Lib.hid (And.intro (hM.mono (q' := fun b => w.heap.size + 1 < b) (fun b hb => by omega)) hMl)
          try replace HN := Lib.hid (And.intro (HN.out.1.grown hg (fun _ _ => by simp)) HN.out.2)
          try replace HS := Lib.hid (show ∀ b, b = _ → _ from fun b hb => (HS.out b hb).keep hg)
          clear hg hM hMl hsz
          refine hK.out _ _ (fun _ => hHn) (fun hH2 => ?_)
          clear hK Kz hHeld
          have hHeld := hH2 rfl
          clear hH2
          (try simp only [Act.put, List.setIfInBounds_toArray, List.set_cons_zero, List.set_cons_succ])
          refine anyU_ready (rs := [10]) (by kernel_rfl) (by simp) ?_
          refine EachU.cons (o := { dst := some 30, op := Op.call { callee := Callee.value (Operand.func 67), args := #[Operand.tmp 29], argTypes := #[24] }, type := 24, pos := "advert.go:105", after := #[{ on := 9, ground := Ground.data }, { on := 8, ground := Ground.chain }], guard := none }) rfl (fun Kz hK => ?_) EachU.nil
          go_simp
          go_at_call 67
          have hsz := World.lt_of_row' hHeld.out.rb
          refine (HCLO.out _ hHeld).mono ?_
          rintro e w5 ⟨v6, rfl, hO, hg⟩
          obtain ⟨p6, c6, rfl, h6a, h6b⟩ := own_shape hO
          have hHn := Lib.hid (hHeld.out.keep hg)
          have HN := Lib.hid (And.intro ((rdf_of_own hO).mono (q' := fun b => w.heap.size + 1 < b) (fun b hb => by omega)) (And.intro h6a h6b))
          try replace HM := Lib.hid (And.intro (HM.out.1.grown hg (fun _ _ => by simp)) HM.out.2)
          try replace HS := Lib.hid (show ∀ b, b = _ → _ from fun b hb => (HS.out b hb).keep hg)
          clear hg hO hsz h6a h6b
          refine hK.out _ _ (fun _ => hHn) (fun hH2 => ?_)
          clear hK Kz hHeld
          have hHeld := hH2 rfl
          clear hH2
          (try simp only [Act.put, List.setIfInBounds_toArray, List.set_cons_zero, List.set_cons_succ])
          refine anyU_take (i := 11) (oi := { dst := some 31, op := Op.build 26 #[(0, Operand.tmp 20), (1, Operand.tmp 21), (2, Operand.tmp 24), (3, Operand.tmp 28), (4, Operand.tmp 30)], type := 26, pos := "advert.go:100", after := #[{ on := 0, ground := Ground.data }, { on := 1, ground := Ground.data }, { on := 4, ground := Ground.data }, { on := 8, ground := Ground.data }, { on := 10, ground := Ground.data }], guard := none }) (v := ?_) rfl (by kernel_rfl) (by kernel_rfl) (by kernel_rfl) (by kernel_rfl) (by kernel_rfl) (fun _ _ _ h => h) (Or.inl ⟨by rfl, ?_⟩) hHeld ?_
          rotate_left 1
          · intro u hSu
            obtain ⟨s0, s1⟩ := hSu.out.facts
            go_simp
            first | done | with_reducible rfl
          (try simp only [Act.put, List.setIfInBounds_toArray, List.set_cons_zero, List.set_cons_succ])
          refine anyU_ready (rs := [13]) (by kernel_rfl) (by simp) ?_
          refine EachU.cons (o := { dst := none, op := Op.store 26 (Operand.tmp 10) (Operand.tmp 31), type := 0, pos := "advert.go:100", after := #[{ on := 12, ground := Ground.data }, { on := 11, ground := Ground.data }, { on := 10, ground := Ground.chain }, { on := 0, ground := Ground.phase }, { on := 1, ground := Ground.phase }, { on := 2, ground := Ground.phase }, { on := 3, ground := Ground.phase }, { on := 4, ground := Ground.phase }, { on := 5, ground := Ground.phase }, { on := 6, ground := Ground.phase }, { on := 7, ground := Ground.phase }, { on := 8, ground := Ground.phase }, { on := 9, ground := Ground.phase }, { on := 10, ground := Ground.phase }, { on := 11, ground := Ground.phase }, { on := 12, ground := Ground.phase }], guard := none }) rfl (fun Kz hK => ?_) EachU.nil
          have hna := HS.out _ (by first | rfl | simp)
          obtain ⟨k0, k1, k2, k3, k4⟩ := row5 hna.ab
          have f0 := frozen_of_row _ _ 0 _ _ hna.ab
          have f1 := frozen_of_row _ _ 1 _ _ hna.ab
          have f2 := frozen_of_row _ _ 2 _ _ hna.ab
          have f3 := frozen_of_row _ _ 3 _ _ hna.ab
          have f4 := frozen_of_row _ _ 4 _ _ hna.ab
          try (have hna2 : NB w w2.heap.size _ := hna; obtain ⟨j0, j1, j2, j3, j4⟩ := row5 hna2.ab; have g0 := frozen_of_row _ _ 0 _ _ hna2.ab; have g1 := frozen_of_row _ _ 1 _ _ hna2.ab; have g2 := frozen_of_row _ _ 2 _ _ hna2.ab; have g3 := frozen_of_row _ _ 3 _ _ hna2.ab; have g4 := frozen_of_row _ _ 4 _ _ hna2.ab)
          have HE := Lib.hid (og_put (X := ⟨x, s, cp, M, C, p5, c5, p6, c6⟩) hHeld.out hna HM.out.1 HN.out.1 HM.out.2 HN.out.2 x s cp rfl)
          go_simp
          refine hK.out _ _ (fun h => by cases h) (fun _ => ?_)
          clear hK Kz
          (try simp only [Act.put, List.setIfInBounds_toArray, List.set_cons_zero, List.set_cons_succ])
          refine anyU_done (by kernel_rfl) ?_ _
          clear HD HS HM HN
          go_wp2_with fail
          go_meet
          first | exact ⟨_, ⟨x, s, cp, M, C, p5, c5, p6, c6⟩, rfl, Lib.hid ⟨HE.out, rfl, rfl, rfl, rfl, rfl⟩⟩ | exact ⟨_, ⟨x, s, cp, M, C, p5, c5, p6, c6⟩, rfl, Lib.hid ⟨HE2.out, rfl, rfl, rfl, rfl, rfl⟩⟩
      · go_simp
        try have HE2 := Lib.hid (og_new (X := ⟨x, s, cp, M, C, p5, c5, p6, c6⟩) hHeld.out HM.out.1 HN.out.1 HM.out.2 HN.out.2 x s cp rfl)
        have HSN := hHeld.out.nb
        have hHn := Lib.hid (hHeld.out.keep (World.grownBy_alloc _ (.cells #[.int .i64 0, .int .i64 0, .bool false, .slice none 0 0, .slice none 0 0] 26) none))
        try replace HM := Lib.hid (And.intro (HM.out.1.grown (World.grownBy_alloc _ (.cells #[.int .i64 0, .int .i64 0, .bool false, .slice none 0 0, .slice none 0 0] 26) none) (fun _ _ => by simp)) HM.out.2)
        try replace HN := Lib.hid (And.intro (HN.out.1.grown (World.grownBy_alloc _ (.cells #[.int .i64 0, .int .i64 0, .bool false, .slice none 0 0, .slice none 0 0] 26) none) (fun _ _ => by simp)) HN.out.2)
        have HS := Lib.hid HSN
        clear HSN
        refine hK.out _ _ (fun _ => hHn) (fun hH2 => ?_)
        clear hK Kz hHeld
        have hHeld := hH2 rfl
        clear hH2
        (try simp only [Act.put, List.setIfInBounds_toArray, List.set_cons_zero, List.set_cons_succ])
        refine anyU_ready (rs := [4]) (by kernel_rfl) (by simp) ?_
        refine EachU.cons (o := { dst := some 24, op := Op.call { callee := Callee.value (Operand.func 65), args := #[Operand.tmp 22, Operand.tmp 23], argTypes := #[61, 3] }, type := 4, pos := "advert.go:103", after := #[{ on := 2, ground := Ground.data }, { on := 3, ground := Ground.data }], guard := none }) rfl (fun Kz hK => ?_) EachU.nil
        go_simp
        go_at_call 65
        refine (HCAP.out _ hHeld).mono ?_
        rintro e w5 ⟨rfl, hg⟩
        have hHn := Lib.hid (hHeld.out.keep hg)
        try replace HM := Lib.hid (And.intro (HM.out.1.grown hg (fun _ _ => by simp)) HM.out.2)
        try replace HN := Lib.hid (And.intro (HN.out.1.grown hg (fun _ _ => by simp)) HN.out.2)
        try replace HS := Lib.hid (show ∀ b, b = _ → _ from fun b hb => (HS.out b hb).keep hg)
        clear hg
        refine hK.out _ _ (fun _ => hHn) (fun hH2 => ?_)
        clear hK Kz hHeld
        have hHeld := hH2 rfl
        clear hH2
        (try simp only [Act.put, List.setIfInBounds_toArray, List.set_cons_zero, List.set_cons_succ])
        refine anyU_ready (rs := [8]) (by kernel_rfl) (by simp) ?_
        refine EachU.cons (o := { dst := some 28, op := Op.call { callee := Callee.value (Operand.func 66), args := #[Operand.tmp 26, Operand.tmp 27], argTypes := #[59, 3] }, type := 23, pos := "advert.go:104", after := #[{ on := 6, ground := Ground.data }, { on := 7, ground := Ground.data }, { on := 4, ground := Ground.chain }], guard := none }) rfl (fun Kz hK => ?_) EachU.nil
        go_simp
        go_at_call 66
        have hsz := World.lt_of_row' hHeld.out.rb
        refine (HREA.out _ hHeld).mono ?_
        rintro e w5 ⟨p5, c5, rfl, hM, hMl, -, hg⟩
        have hHn := Lib.hid (hHeld.out.keep hg)
        have HM := Lib.hid (And.intro (hM.mono (q' := fun b => w.heap.size + 1 < b) (fun b hb => by omega)) hMl)
        try replace HN := Lib.hid (And.intro (HN.out.1.grown hg (fun _ _ => by simp)) HN.out.2)
        try replace HS := Lib.hid (show ∀ b, b = _ → _ from fun b hb => (HS.out b hb).keep hg)
        clear hg hM hMl hsz
        refine hK.out _ _ (fun _ => hHn) (fun hH2 => ?_)
        clear hK Kz hHeld
        have hHeld := hH2 rfl
        clear hH2
        (try simp only [Act.put, List.setIfInBounds_toArray, List.set_cons_zero, List.set_cons_succ])
        refine anyU_ready (rs := [10]) (by kernel_rfl) (by simp) ?_
        refine EachU.cons (o := { dst := some 30, op := Op.call { callee := Callee.value (Operand.func 67), args := #[Operand.tmp 29], argTypes := #[24] }, type := 24, pos := "advert.go:105", after := #[{ on := 9, ground := Ground.data }, { on := 8, ground := Ground.chain }], guard := none }) rfl (fun Kz hK => ?_) EachU.nil
        go_simp
        go_at_call 67
        have hsz := World.lt_of_row' hHeld.out.rb
        refine (HCLO.out _ hHeld).mono ?_
        rintro e w5 ⟨v6, rfl, hO, hg⟩
        obtain ⟨p6, c6, rfl, h6a, h6b⟩ := own_shape hO
        have hHn := Lib.hid (hHeld.out.keep hg)
        have HN := Lib.hid (And.intro ((rdf_of_own hO).mono (q' := fun b => w.heap.size + 1 < b) (fun b hb => by omega)) (And.intro h6a h6b))
        try replace HM := Lib.hid (And.intro (HM.out.1.grown hg (fun _ _ => by simp)) HM.out.2)
        try replace HS := Lib.hid (show ∀ b, b = _ → _ from fun b hb => (HS.out b hb).keep hg)
        clear hg hO hsz h6a h6b
        refine hK.out _ _ (fun _ => hHn) (fun hH2 => ?_)
        clear hK Kz hHeld
        have hHeld := hH2 rfl
        clear hH2
        (try simp only [Act.put, List.setIfInBounds_toArray, List.set_cons_zero, List.set_cons_succ])
        refine anyU_take (i := 11) (oi := { dst := some 31, op := Op.build 26 #[(0, Operand.tmp 20), (1, Operand.tmp 21), (2, Operand.tmp 24), (3, Operand.tmp 28), (4, Operand.tmp 30)], type := 26, pos := "advert.go:100", after := #[{ on := 0, ground := Ground.data }, { on := 1, ground := Ground.data }, { on := 4, ground := Ground.data }, { on := 8, ground := Ground.data }, { on := 10, ground := Ground.data }], guard := none }) (v := ?_) rfl (by kernel_rfl) (by kernel_rfl) (by kernel_rfl) (by kernel_rfl) (by kernel_rfl) (fun _ _ _ h => h) (Or.inl ⟨by rfl, ?_⟩) hHeld ?_
        rotate_left 1
        · intro u hSu
          obtain ⟨s0, s1⟩ := hSu.out.facts
          go_simp
          first | done | with_reducible rfl
        (try simp only [Act.put, List.setIfInBounds_toArray, List.set_cons_zero, List.set_cons_succ])
        refine anyU_ready (rs := [13]) (by kernel_rfl) (by simp) ?_
        refine EachU.cons (o := { dst := none, op := Op.store 26 (Operand.tmp 10) (Operand.tmp 31), type := 0, pos := "advert.go:100", after := #[{ on := 12, ground := Ground.data }, { on := 11, ground := Ground.data }, { on := 10, ground := Ground.chain }, { on := 0, ground := Ground.phase }, { on := 1, ground := Ground.phase }, { on := 2, ground := Ground.phase }, { on := 3, ground := Ground.phase }, { on := 4, ground := Ground.phase }, { on := 5, ground := Ground.phase }, { on := 6, ground := Ground.phase }, { on := 7, ground := Ground.phase }, { on := 8, ground := Ground.phase }, { on := 9, ground := Ground.phase }, { on := 10, ground := Ground.phase }, { on := 11, ground := Ground.phase }, { on := 12, ground := Ground.phase }], guard := none }) rfl (fun Kz hK => ?_) EachU.nil
        have hna := HS.out _ (by first | rfl | simp)
        obtain ⟨k0, k1, k2, k3, k4⟩ := row5 hna.ab
        have f0 := frozen_of_row _ _ 0 _ _ hna.ab
        have f1 := frozen_of_row _ _ 1 _ _ hna.ab
        have f2 := frozen_of_row _ _ 2 _ _ hna.ab
        have f3 := frozen_of_row _ _ 3 _ _ hna.ab
        have f4 := frozen_of_row _ _ 4 _ _ hna.ab
        try (have hna2 : NB w w2.heap.size _ := hna; obtain ⟨j0, j1, j2, j3, j4⟩ := row5 hna2.ab; have g0 := frozen_of_row _ _ 0 _ _ hna2.ab; have g1 := frozen_of_row _ _ 1 _ _ hna2.ab; have g2 := frozen_of_row _ _ 2 _ _ hna2.ab; have g3 := frozen_of_row _ _ 3 _ _ hna2.ab; have g4 := frozen_of_row _ _ 4 _ _ hna2.ab)
        have HE := Lib.hid (og_put (X := ⟨x, s, cp, M, C, p5, c5, p6, c6⟩) hHeld.out hna HM.out.1 HN.out.1 HM.out.2 HN.out.2 x s cp rfl)
        go_simp
        refine hK.out _ _ (fun h => by cases h) (fun _ => ?_)
        clear hK Kz
        (try simp only [Act.put, List.setIfInBounds_toArray, List.set_cons_zero, List.set_cons_succ])
        refine anyU_done (by kernel_rfl) ?_ _
        clear HD HS HM HN
        go_wp2_with fail
        go_meet
        first | exact ⟨_, ⟨x, s, cp, M, C, p5, c5, p6, c6⟩, rfl, Lib.hid ⟨HE.out, rfl, rfl, rfl, rfl, rfl⟩⟩ | exact ⟨_, ⟨x, s, cp, M, C, p5, c5, p6, c6⟩, rfl, Lib.hid ⟨HE2.out, rfl, rfl, rfl, rfl, rfl⟩⟩
    case rest =>
    obtain ⟨B, ⟨xr, xq, xc, xL, xC, xpL, xcL, xpC, xcC⟩, rfl, HG⟩ := hcut
    clear H2 HCAP HREA HCLO
    rw [← HXX.out] at HG
    obtain ⟨s0, s1, s2, s3, s4⟩ := row5 HG.out.1.ab
    go_wp2_with fail
    have hVa := avalid_any ⟨xr, xq, xc, xL, xC, xpL, xcL, xpC, xcC⟩ _ _ HG.out.1.ok
    rw [vAd_sm2 HG.out.2] at hVa
    obtain ⟨v, hv⟩ : ∃ v, vAd (ofA R L x s C) = v := ⟨_, rfl⟩
    rw [hv] at hVa
    refine hVa.mono ?_
    rintro e w4 ⟨rfl, hg⟩
    have H4 := Lib.hid (And.intro (HG.out.1.keep hg) HG.out.2)
    clear HG hVa hg s0 s1 s2 s3 s4
    cases v with
    | false =>
      have HE : Hid (ofE R L x s C = 2) := Lib.hid (by rw [HE0.out, if_pos hv])
      clear hv HE0
      obtain ⟨d0, d1, d2, d3, d4⟩ := row5 H4.out.1.o.rb
      have f0 := frozen_of_row _ _ 0 _ _ H4.out.1.o.rb
      have f1 := frozen_of_row _ _ 1 _ _ H4.out.1.o.rb
      have f2 := frozen_of_row _ _ 2 _ _ H4.out.1.o.rb
      have f3 := frozen_of_row _ _ 3 _ _ H4.out.1.o.rb
      have f4 := frozen_of_row _ _ 4 _ _ H4.out.1.o.rb
      obtain ⟨t1, t2⟩ := store5 (.int .i64 0) (.int .i64 0) (.bool false) (.slice none 0 0) (.slice none 0 0) H4.out.1.o.rb
      have HT := Lib.hid (And.intro t1 (grown_new H4.out.1.o.gr t2 (by omega)))
      clear t1 t2
      go_wp2_with fail
      refine bodyPost_ret (res_adv_err rfl _ _ (w.heap.size + 1) _ _ _ _ _ rfl HT.out.1) rfl ?_
      exact ⟨zAo, by rw [HE.out]; rfl, ⟨fun _ => True, zAo_ok _ _⟩, HT.out.2, fun h => absurd h (by rw [HE.out]; decide), fun _ => rfl⟩
    | true =>
      have HE : Hid (ofE R L x s C = 0) := Lib.hid (by rw [HE0.out, if_neg (by rw [hv]; decide)])
      clear hv HE0
      obtain ⟨s0, s1, s2, s3, s4⟩ := row5 H4.out.1.ab
      obtain ⟨d0, d1, d2, d3, d4⟩ := row5 H4.out.1.o.rb
      have f0 := frozen_of_row _ _ 0 _ _ H4.out.1.o.rb
      have f1 := frozen_of_row _ _ 1 _ _ H4.out.1.o.rb
      have f2 := frozen_of_row _ _ 2 _ _ H4.out.1.o.rb
      have f3 := frozen_of_row _ _ 3 _ _ H4.out.1.o.rb
      have f4 := frozen_of_row _ _ 4 _ _ H4.out.1.o.rb
      obtain ⟨t1, t2⟩ := store5 (.int .i64 xr) (.int .i64 xq) (.bool xc) (.slice xpL xL.length xcL) (.slice xpC xC.length xcC) H4.out.1.o.rb
      have HT := Lib.hid (And.intro t1 (And.intro (H4.out.1.ok.grown t2 (fun b hb e => hb (Option.some.inj e))) (grown_new H4.out.1.o.gr t2 (by omega))))
      have HSM := Lib.hid H4.out.2
      clear t1 t2 H4
      go_wp2_with fail
      refine bodyPost_ret (res_adv_err rfl _ _ (w.heap.size + 1) _ _ _ _ _ rfl HT.out.1) rfl ?_
      exact ⟨⟨xr, xq, xc, xL, xC, xpL, xcL, xpC, xcC⟩, by rw [HE.out]; rfl, ⟨_, HT.out.2.1⟩, HT.out.2.2, fun _ => HSM.out, fun h => absurd HE.out h⟩
end Go.Proofs.YtpoocenooomghaaDoor

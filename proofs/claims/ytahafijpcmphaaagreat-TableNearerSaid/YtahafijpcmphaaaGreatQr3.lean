/- Parts of the proof, packed: ToCheckR. -/
import Derived.Test.YtahafijpcmphaaaGreatQr2
/- The reference's has, cost, Check of a topology. -/
namespace Go.Proofs.YtahafijpcmphaaaGreat
open Go.RowKit Bs
set_option maxRecDepth 100000 in
theorem ck_pr {w wr : World} {T : Tg} (h : CK w T wr) (hn : 0 < T.R.length) : ∃ b off, T.pR = some ⟨b, off, none⟩ := by
  obtain ⟨-, b, off, e, -, -⟩ := rdr_cells h.ok.r hn
  exact ⟨b, off, e⟩
set_option maxRecDepth 100000 in
theorem ck_pl {w wr : World} {T : Tg} (h : CK w T wr) (hn : 0 < T.L.length) : ∃ b off, T.pL = some ⟨b, off, none⟩ := by
  obtain ⟨-, b, off, e, -, -⟩ := rdl_cells h.ok.l hn
  exact ⟨b, off, e⟩
set_option maxRecDepth 100000 in
theorem ck_rt {w wr : World} {R : List Rt} {L : List Lk} {b off cR cL : Nat} {pL : Option Addr} (h : CK w ⟨R, L, some ⟨b, off, none⟩, cR, pL, cL⟩ wr) {i : Nat} {x : Rt} (hx : R[i]? = some x) :
    wr.cell? ⟨b, off + i * 2, none⟩ = some (.int .i64 x.id) ∧ wr.cell? ⟨b, off + i * 2 + 1, none⟩ = some (.bool x.cap) := by
  have hl := (List.getElem?_eq_some_iff.1 hx).1
  obtain ⟨-, b', off', e, -, hc⟩ := rdr_cells (R := R) h.ok.r (by omega)
  injection e with e
  injection e with e1 e2
  subst e1
  subst e2
  exact hc i x hx
set_option maxRecDepth 100000 in
theorem ck_lk {w wr : World} {R : List Rt} {L : List Lk} {b off cR cL : Nat} {pR : Option Addr} (h : CK w ⟨R, L, pR, cR, some ⟨b, off, none⟩, cL⟩ wr) {i : Nat} {x : Lk} (hx : L[i]? = some x) :
    wr.cell? ⟨b, off + i * 5, none⟩ = some (.int .i64 x.a) ∧ wr.cell? ⟨b, off + i * 5 + 1, none⟩ = some (.int .i64 x.b) ∧ wr.cell? ⟨b, off + i * 5 + 2, none⟩ = some (.int .i64 x.ca) ∧ wr.cell? ⟨b, off + i * 5 + 3, none⟩ = some (.int .i64 x.cb) ∧ wr.cell? ⟨b, off + i * 5 + 4, none⟩ = some (.int .i64 x.cp) := by
  have hl := (List.getElem?_eq_some_iff.1 hx).1
  obtain ⟨-, b', off', e, -, hc⟩ := rdl_cells (L := L) h.ok.l (by omega)
  injection e with e
  injection e with e1 e2
  subst e1
  subst e2
  exact hc i x hx
set_option maxRecDepth 100000 in
theorem CK.drew {w wr : World} {T : Tg} (h : CK w T wr) : CK w T wr.drew := h.keep (grown_drew (grown_refl _ _))
def coK (n : Int) : Bool := decide (1 ≤ n ∧ n ≤ 1000)
set_option maxRecDepth 100000 in
theorem rcost_any (n : Int) (w : World) :
    Calls Tryz.prog 115 #[.int .i64 n] w fun e w' => e = .returned (.bool (coK n)) ∧ w' = w := by
  unfold coK
  go_enter Tryz.func115, Tryz.ntmps115
  by_cases h1 : 1 ≤ n
  · by_cases h2 : n ≤ 1000
    · go_wp2_with fail
      go_ret
      exact ⟨by simp; omega, rfl⟩
    · go_wp2_with fail
      go_ret
      exact ⟨by simp; omega, rfl⟩
  · go_wp2_with fail
    go_ret
    exact ⟨by simp; omega, rfl⟩
set_option maxRecDepth 100000 in
theorem wrNum_coK (l : Lk) : wrNum l = (!coK l.ca || (!coK l.cb || !decide (0 ≤ l.cp ∧ l.cp ≤ 1000))) := by
  unfold wrNum coK
  simp only [Bool.decide_and, Bool.not_and, Bool.or_assoc]
set_option maxRecDepth 100000 in
set_option maxHeartbeats 1600000 in
theorem rhas_any (T : Tg) (x : Int) (q : Nat → Prop) (w : World) (hT : TgOk w q T) :
    Calls Tryz.prog 108 #[.agg #[.slice T.pR T.R.length T.cR, .slice T.pL T.L.length T.cL], .int .i64 x] w fun e w' => e = .returned (.bool (hasR T.R x)) ∧ w.grownBy w' none := by
  have C0 := Lib.hid (CK.start hT)
  have hmR := Nat.le_trans hT.cr.1 hT.cr.2
  clear hT
  obtain ⟨R, L, pR, cR, pL, cL⟩ := T
  simp only at hmR C0 ⊢
  go_enter Tryz.func108, Tryz.ntmps108
  go_upto_region 1 with fail
  generalize w.alloc _ = wa at *
  go_wp2_with fail
  go_loopw [5] (fun a wr => ∃ k : Nat, k ≤ R.length ∧ a = .int .i64 (k : Int) ∧ Hid (CK w ⟨R, L, pR, cR, pL, cL⟩ wr) ∧ Hid ((R.take k).any (fun r => decide (r.id = x)) = false)) (fun a _ => R.length - (RowKit.intOf a).toNat)
  case atStart => exact ⟨0, Nat.zero_le _, rfl, C0, Lib.hid rfl⟩
  case round =>
    obtain ⟨k, hk, rfl, C, HN⟩ := hrel
    clear C0
    obtain ⟨c0, c1⟩ := row_cells C.out.box
    by_cases hlt : k < R.length
    · obtain ⟨b, off, hp⟩ := ck_pr C.out (show 0 < R.length by omega)
      change pR = _ at hp
      subst hp
      obtain ⟨y, hy⟩ : ∃ y, R[k]? = some y := ⟨_, List.getElem?_eq_getElem hlt⟩
      obtain ⟨a0, a1⟩ := ck_rt C.out hy
      have HY := Lib.hid hy
      clear hy
      by_cases e : y.id = x
      · have e' : (y.id == x) = true := by simpa using e
        have HE := Lib.hid e
        clear e
        go_wp2_with fail
        go_ret
        refine ⟨?_, C.out.gr⟩
        have : hasR R x = true := any_at HY.out (decide_eq_true HE.out)
        rw [this]; rfl
      · have e' : (y.id == x) = false := by simpa using e
        have HE := Lib.hid e
        clear e
        go_wp2_with fail
        exact ⟨⟨k + 1, by omega, congrArg _ (by omega), C, Lib.hid (any_take HN.out HY.out (decide_eq_false HE.out))⟩, by simp only [RowKit.intOf]; omega⟩
    · obtain rfl : k = R.length := by omega
      go_wp2_with fail
      go_ret
      have : hasR R x = false := any_end HN.out (Nat.le_refl _)
      rw [this]
      exact ⟨rfl, C.out.gr⟩
set_option maxRecDepth 1000000 in
set_option maxHeartbeats 6400000 in
theorem rcheck_any (T : Tg) (q : Nat → Prop) (w : World) (hT : TgOk w q T) :
    Calls Tryz.prog 86 #[.agg #[.slice T.pR T.R.length T.cR, .slice T.pL T.L.length T.cL]] w fun e w' => e = .returned (.int .i64 (chk T.R T.L)) ∧ w.grownBy w' none := by
  have C0 := Lib.hid (CK.start hT)
  have hmR := Nat.le_trans hT.cr.1 hT.cr.2
  have hmL := Nat.le_trans hT.cl.1 hT.cl.2
  clear hT
  obtain ⟨R, L, pR, cR, pL, cL⟩ := T
  simp only at hmR hmL C0 ⊢
  go_enter Tryz.func86, Tryz.ntmps86
  go_upto_region 1 with fail
  generalize w.alloc _ = wa at *
  obtain ⟨c0, c1⟩ := row_cells C0.out.box
  by_cases h1 : R.length ≤ 24
  case neg =>
    have h1' : (24 : Int) < (R.length : Int) := by omega
    go_wp2_with fail
    go_ret
    exact ⟨by unfold chk; rw [if_pos (by omega)]; rfl, C0.out.gr⟩
  by_cases h2 : L.length ≤ 60
  case neg =>
    have h1' : ¬ (24 : Int) < (R.length : Int) := by omega
    have h2' : (60 : Int) < (L.length : Int) := by omega
    go_wp2_with fail
    go_ret
    exact ⟨by unfold chk; rw [if_pos (by omega)]; rfl, C0.out.gr⟩
  have hc0 : Hid (¬ (24 < R.length ∨ 60 < L.length)) := Lib.hid (by omega)
  go_wp2_with fail
  go_loopw [3] (fun a wr => ∃ k : Nat, k ≤ R.length ∧ a = .int .i64 (k : Int) ∧ Hid (CK w ⟨R, L, pR, cR, pL, cL⟩ wr) ∧ Hid ((R.take k).any wrId = false)) (fun a _ => R.length - (RowKit.intOf a).toNat)
  case atStart => exact ⟨0, Nat.zero_le _, rfl, C0, Lib.hid rfl⟩
  case round =>
  obtain ⟨k, hk, rfl, C, HN⟩ := hrel
  clear C0 c0 c1
  obtain ⟨c0, c1⟩ := row_cells C.out.box
  by_cases hlt : k < R.length
  case pos =>
    obtain ⟨b, off, hp⟩ := ck_pr C.out (show 0 < R.length by omega)
    change pR = _ at hp
    subst hp
    obtain ⟨y, hy⟩ : ∃ y, R[k]? = some y := ⟨_, List.getElem?_eq_getElem hlt⟩
    obtain ⟨a0, a1⟩ := ck_rt C.out hy
    have HY := Lib.hid hy
    clear hy
    by_cases g1 : 1 ≤ y.id
    · by_cases g2 : y.id ≤ 99
      · have g1' : ¬ y.id < 1 := by omega
        have g2' : ¬ 99 < y.id := by omega
        have HE : Hid (wrId y = false) := Lib.hid (by unfold wrId; simp; omega)
        go_wp2_with fail
        exact ⟨⟨k + 1, by omega, congrArg _ (by omega), C, Lib.hid (any_take HN.out HY.out HE.out)⟩, by simp only [RowKit.intOf]; omega⟩
      · have g1' : ¬ y.id < 1 := by omega
        have g2' : 99 < y.id := by omega
        have HE : Hid (wrId y = true) := Lib.hid (by unfold wrId; simp; omega)
        go_wp2_with fail
        go_ret
        exact ⟨by unfold chk; rw [if_neg hc0.out, any_at HY.out HE.out]; rfl, C.out.gr⟩
    · have g1' : y.id < 1 := by omega
      have HE : Hid (wrId y = true) := Lib.hid (by unfold wrId; simp; omega)
      go_wp2_with fail
      go_ret
      exact ⟨by unfold chk; rw [if_neg hc0.out, any_at HY.out HE.out]; rfl, C.out.gr⟩
  obtain rfl : k = R.length := by omega
  have F1 := Lib.hid (any_end HN.out (Nat.le_refl _))
  clear HN
  obtain ⟨w1, rfl⟩ : ∃ w1 : World, w1 = wr := ⟨_, rfl⟩
  go_wp2_with fail
  go_loopw [4] (fun a wr => ∃ k : Nat, 1 ≤ k ∧ (k ≤ R.length ∨ k = 1) ∧ a = .int .i64 (k : Int) ∧ Hid (CK w ⟨R, L, pR, cR, pL, cL⟩ wr) ∧ Hid (∀ i x y, i + 1 < k → R[i]? = some x → R[i + 1]? = some y → ltR x y = true)) (fun a _ => R.length - (RowKit.intOf a).toNat)
  case atStart => exact ⟨1, by omega, Or.inr rfl, rfl, C, Lib.hid (fun i x y h => by omega)⟩
  case round =>
  clear C c0 c1
  obtain ⟨k, hk1, hk, rfl, C, HN⟩ := hrel
  obtain ⟨c0, c1⟩ := row_cells C.out.box
  by_cases hlt : k < R.length
  case pos =>
    obtain ⟨j, rfl⟩ : ∃ j, k = j + 1 := ⟨k - 1, by omega⟩
    obtain ⟨b, off, hp⟩ := ck_pr C.out (show 0 < R.length by omega)
    change pR = _ at hp
    subst hp
    obtain ⟨x, hx⟩ : ∃ x, R[j]? = some x := ⟨_, List.getElem?_eq_getElem (by omega)⟩
    obtain ⟨y, hy⟩ : ∃ y, R[j + 1]? = some y := ⟨_, List.getElem?_eq_getElem hlt⟩
    obtain ⟨a0, a1⟩ := ck_rt C.out hx
    obtain ⟨b0, b1⟩ := ck_rt C.out hy
    have HXY := Lib.hid (And.intro hx hy)
    have ew1 : ((j : Int) + 1 - 1) = (j : Int) := by omega
    have ew2 : IntKind.i64.wrap ((j : Int) + 1 - 1) = (j : Int) := by rw [ew1, IntWalk.i64_in _ (by omega)]
    have ew3 : IntKind.i64.wrap (j : Int) = (j : Int) := IntWalk.i64_in _ (by omega)
    have j0 : (0 : Int) ≤ (j : Int) := by omega
    have j1 : (0 : Int) ≤ (j : Int) + 1 := by omega
    have j2 : (j : Int) < (R.length : Int) := by omega
    have j3 : (j : Int) + 1 < (R.length : Int) := by omega
    have j4 : ((j : Int) + 1).toNat = j + 1 := by omega
    clear hx hy
    have hcast : ((j + 1 : Nat) : Int) = (j : Int) + 1 := by omega
    rw [hcast]
    by_cases hge : y.id ≤ x.id
    · have HE : Hid (ltR x y = false) := Lib.hid (by unfold ltR; simp; omega)
      go_wp2_with fail
      go_region
      go_wp2_with fail
      go_ret
      exact ⟨by unfold chk; rw [if_neg hc0.out, F1.out, ascR_hit HXY.out.1 HXY.out.2 HE.out]; rfl, C.out.drew.gr⟩
    · have HE : Hid (ltR x y = true) := Lib.hid (by unfold ltR; simp; omega)
      go_wp2_with fail
      go_region
      have HC := Lib.hid C.out.drew
      go_wp2_with fail
      refine ⟨⟨j + 1 + 1, by omega, Or.inl (by omega), congrArg _ (by omega), HC, Lib.hid fun i x2 y2 hi hx2 hy2 => ?_⟩, by simp only [RowKit.intOf]; omega⟩
      by_cases hij : i = j
      · subst hij
        have e1 := HXY.out.1.symm.trans hx2
        have e2 := HXY.out.2.symm.trans hy2
        injection e1 with e1
        injection e2 with e2
        subst e1
        subst e2
        exact HE.out
      · exact HN.out i x2 y2 (by omega) hx2 hy2
  have F2 : Hid (ascB ltR R = true) := Lib.hid (ascR_end fun i x y hi hx hy => HN.out i x y (by omega) hx hy)
  clear HN
  have hltz : ¬ (k : Int) < (R.length : Int) := by omega
  obtain ⟨w2, rfl⟩ : ∃ w2 : World, w2 = wr := ⟨_, rfl⟩
  go_wp2_with fail
  go_loopw [5] (fun a wr => ∃ k : Nat, k ≤ L.length ∧ a = .int .i64 (k : Int) ∧ Hid (CK w ⟨R, L, pR, cR, pL, cL⟩ wr) ∧ Hid ((L.take k).any wrNum = false)) (fun a _ => L.length - (RowKit.intOf a).toNat)
  case atStart => exact ⟨0, Nat.zero_le _, rfl, C, Lib.hid rfl⟩
  case round =>
  clear C c0 c1
  obtain ⟨k, hk, rfl, C, HN⟩ := hrel
  obtain ⟨c0, c1⟩ := row_cells C.out.box
  by_cases hlt : k < L.length
  case pos =>
    obtain ⟨b, off, hp⟩ := ck_pl C.out (show 0 < L.length by omega)
    change pL = _ at hp
    subst hp
    obtain ⟨y, hy⟩ : ∃ y, L[k]? = some y := ⟨_, List.getElem?_eq_getElem hlt⟩
    obtain ⟨a0, a1, a2, a3, a4⟩ := ck_lk C.out hy
    have HY := Lib.hid hy
    clear hy
    have gal := World.grownBy_alloc wr (.cells #[.int .i64 y.a, .int .i64 y.b, .int .i64 y.ca, .int .i64 y.cb, .int .i64 y.cp] 94) none
    obtain ⟨d0, d1, d2, d3, d4⟩ := lk_facts (heap_alloc_new wr (.cells #[.int .i64 y.a, .int .i64 y.b, .int .i64 y.ca, .int .i64 y.cb, .int .i64 y.cp] 94))
    have C2 := Lib.hid (C.out.keep gal)
    clear gal
    go_upto_region 17 with fail
    generalize wr.alloc _ = wy at *
    have HW := Lib.hid (wrNum_coK y)
    have yes : Hid (wrNum y = true) → Hid (chk R L = 2) := fun h => Lib.hid (by unfold chk; rw [if_neg hc0.out, F1.out, F2.out, any_at HY.out h.out]; rfl)
    cases f1 : coK y.ca
    · have HF := yes (Lib.hid (by rw [HW.out, f1]; rfl))
      clear yes HW
      go_wp2_with (go_at_call 115; refine (rcost_any _ _).mono ?_; rintro e w' ⟨rfl, rfl⟩; try rw [f1])
      go_ret
      exact ⟨by rw [HF.out]; rfl, C2.out.gr⟩
    · cases f2 : coK y.cb
      · have HF := yes (Lib.hid (by rw [HW.out, f1, f2]; rfl))
        clear yes HW
        go_wp2_with (go_at_call 115; refine (rcost_any _ _).mono ?_; rintro e w' ⟨rfl, rfl⟩; first | rw [f1] | rw [f2])
        go_ret
        exact ⟨by rw [HF.out]; rfl, C2.out.gr⟩
      · by_cases g1 : 0 ≤ y.cp
        · by_cases g2 : y.cp ≤ 1000
          · have g1' : ¬ y.cp < 0 := by omega
            have g2' : ¬ 1000 < y.cp := by omega
            have HF : Hid (wrNum y = false) := Lib.hid (by rw [HW.out, f1, f2, decide_eq_true ⟨g1, g2⟩]; rfl)
            clear yes HW
            go_wp2_with (go_at_call 115; refine (rcost_any _ _).mono ?_; rintro e w' ⟨rfl, rfl⟩; first | rw [f1] | rw [f2])
            exact ⟨⟨k + 1, by omega, congrArg _ (by omega), C2, Lib.hid (any_take HN.out HY.out HF.out)⟩, by simp only [RowKit.intOf]; omega⟩
          · have g1' : ¬ y.cp < 0 := by omega
            have g2' : 1000 < y.cp := by omega
            have HF := yes (Lib.hid (by rw [HW.out, f1, f2, decide_eq_false (by omega)]; rfl))
            clear yes HW
            go_wp2_with (go_at_call 115; refine (rcost_any _ _).mono ?_; rintro e w' ⟨rfl, rfl⟩; first | rw [f1] | rw [f2])
            go_ret
            exact ⟨by rw [HF.out]; rfl, C2.out.gr⟩
        · have g1' : y.cp < 0 := by omega
          have HF := yes (Lib.hid (by rw [HW.out, f1, f2, decide_eq_false (by omega)]; rfl))
          clear yes HW
          go_wp2_with (go_at_call 115; refine (rcost_any _ _).mono ?_; rintro e w' ⟨rfl, rfl⟩; first | rw [f1] | rw [f2])
          go_ret
          exact ⟨by rw [HF.out]; rfl, C2.out.gr⟩
  obtain rfl : k = L.length := by omega
  have F3 := Lib.hid (any_end HN.out (Nat.le_refl _))
  clear HN
  obtain ⟨w3, rfl⟩ : ∃ w3 : World, w3 = wr := ⟨_, rfl⟩
  go_wp2_with fail
  go_loopw [7] (fun a wr => ∃ k : Nat, k ≤ L.length ∧ a = .int .i64 (k : Int) ∧ Hid (CK w ⟨R, L, pR, cR, pL, cL⟩ wr) ∧ Hid ((L.take k).any (unk R) = false)) (fun a _ => L.length - (RowKit.intOf a).toNat)
  case atStart => exact ⟨0, Nat.zero_le _, rfl, C, Lib.hid rfl⟩
  case round =>
  clear C c0 c1
  obtain ⟨k, hk, rfl, C, HN⟩ := hrel
  obtain ⟨c0, c1⟩ := row_cells C.out.box
  by_cases hlt : k < L.length
  case pos =>
    obtain ⟨b, off, hp⟩ := ck_pl C.out (show 0 < L.length by omega)
    change pL = _ at hp
    subst hp
    obtain ⟨y, hy⟩ : ∃ y, L[k]? = some y := ⟨_, List.getElem?_eq_getElem hlt⟩
    obtain ⟨a0, a1, a2, a3, a4⟩ := ck_lk C.out hy
    have HY := Lib.hid hy
    clear hy
    have HF := Lib.hid (show _ ∧ _ from And.intro C.out HY.out)
    have GZ : Hid (wr.grownBy wr none) := Lib.hid (grown_refl _ _)
    go_upto_region 22 with fail
    clear c0 c1 a0 a1 a2 a3 a4
    cases f1 : hasR R y.a
    · refine wp_region_held_drew (S := fun w' => Hid (wr.grownBy w' none)) (by kernel_rfl) (hid_drew GZ) (fun hHeld => ?_)
      refine wpAnyH_take (i := 0) (oi := { dst := some 105, op := Op.load 45 (Operand.tmp 1), type := 45, pos := "ref.go:44", after := #[], guard := none }) (v := ?_) rfl (by kernel_rfl) (by kernel_rfl) (by kernel_rfl) (fun _ _ _ h => h) (Or.inl ⟨by rfl, ?_⟩) hHeld ?_
      rotate_left 1
      · intro u hSu
        obtain ⟨c0, c1⟩ := row_cells (HF.out.1.keep hSu.out).box
        obtain ⟨a0, a1, a2, a3, a4⟩ := ck_lk (HF.out.1.keep hSu.out) HF.out.2
        go_simp
        first | done | with_reducible rfl
      (try simp only [Act.put, List.setIfInBounds_toArray, List.set_cons_zero, List.set_cons_succ])
      refine wpAnyH_take (i := 1) (oi := { dst := some 106, op := Op.fieldAddr 45 (Operand.tmp 1) 1, type := 0, pos := "ref.go:44", after := #[], guard := none }) (v := ?_) rfl (by kernel_rfl) (by kernel_rfl) (by kernel_rfl) (fun _ _ _ h => h) (Or.inl ⟨by rfl, ?_⟩) hHeld ?_
      rotate_left 1
      · intro u hSu
        obtain ⟨c0, c1⟩ := row_cells (HF.out.1.keep hSu.out).box
        obtain ⟨a0, a1, a2, a3, a4⟩ := ck_lk (HF.out.1.keep hSu.out) HF.out.2
        go_simp
        first | done | with_reducible rfl
      (try simp only [Act.put, List.setIfInBounds_toArray, List.set_cons_zero, List.set_cons_succ])
      refine wpAnyH_take (i := 2) (oi := { dst := some 107, op := Op.load 43 (Operand.tmp 106), type := 43, pos := "ref.go:44", after := #[{ on := 1, ground := Ground.data }], guard := none }) (v := ?_) rfl (by kernel_rfl) (by kernel_rfl) (by kernel_rfl) (fun _ _ _ h => h) (Or.inl ⟨by rfl, ?_⟩) hHeld ?_
      rotate_left 1
      · intro u hSu
        obtain ⟨c0, c1⟩ := row_cells (HF.out.1.keep hSu.out).box
        obtain ⟨a0, a1, a2, a3, a4⟩ := ck_lk (HF.out.1.keep hSu.out) HF.out.2
        go_simp
        first | done | with_reducible rfl
      (try simp only [Act.put, List.setIfInBounds_toArray, List.set_cons_zero, List.set_cons_succ])
      refine wpAnyH_take (i := 3) (oi := { dst := some 108, op := Op.move (Operand.tmp 7), type := 3, pos := "ref.go:44", after := #[], guard := none }) (v := ?_) rfl (by kernel_rfl) (by kernel_rfl) (by kernel_rfl) (fun _ _ _ h => h) (Or.inl ⟨by rfl, ?_⟩) hHeld ?_
      rotate_left 1
      · intro u hSu
        obtain ⟨c0, c1⟩ := row_cells (HF.out.1.keep hSu.out).box
        obtain ⟨a0, a1, a2, a3, a4⟩ := ck_lk (HF.out.1.keep hSu.out) HF.out.2
        go_simp
        first | done | with_reducible rfl
      (try simp only [Act.put, List.setIfInBounds_toArray, List.set_cons_zero, List.set_cons_succ])
      refine wpAnyH_take (i := 4) (oi := { dst := some 109, op := Op.indexAddr 43 (Operand.tmp 107) (Operand.tmp 108), type := 0, pos := "ref.go:44", after := #[{ on := 2, ground := Ground.data }, { on := 3, ground := Ground.data }], guard := none }) (v := ?_) rfl (by kernel_rfl) (by kernel_rfl) (by kernel_rfl) (fun _ _ _ h => h) (Or.inl ⟨by rfl, ?_⟩) hHeld ?_
      rotate_left 1
      · intro u hSu
        obtain ⟨c0, c1⟩ := row_cells (HF.out.1.keep hSu.out).box
        obtain ⟨a0, a1, a2, a3, a4⟩ := ck_lk (HF.out.1.keep hSu.out) HF.out.2
        go_simp
        first | done | with_reducible rfl
      (try simp only [Act.put, List.setIfInBounds_toArray, List.set_cons_zero, List.set_cons_succ])
      refine wpAnyH_take (i := 5) (oi := { dst := some 110, op := Op.fieldAddr 94 (Operand.tmp 109) 0, type := 0, pos := "ref.go:44", after := #[{ on := 4, ground := Ground.data }], guard := none }) (v := ?_) rfl (by kernel_rfl) (by kernel_rfl) (by kernel_rfl) (fun _ _ _ h => h) (Or.inl ⟨by rfl, ?_⟩) hHeld ?_
      rotate_left 1
      · intro u hSu
        obtain ⟨c0, c1⟩ := row_cells (HF.out.1.keep hSu.out).box
        obtain ⟨a0, a1, a2, a3, a4⟩ := ck_lk (HF.out.1.keep hSu.out) HF.out.2
        go_simp
        first | done | with_reducible rfl
      (try simp only [Act.put, List.setIfInBounds_toArray, List.set_cons_zero, List.set_cons_succ])
      refine wpAnyH_take (i := 6) (oi := { dst := some 111, op := Op.load 3 (Operand.tmp 110), type := 3, pos := "ref.go:44", after := #[{ on := 5, ground := Ground.data }], guard := none }) (v := ?_) rfl (by kernel_rfl) (by kernel_rfl) (by kernel_rfl) (fun _ _ _ h => h) (Or.inl ⟨by rfl, ?_⟩) hHeld ?_
      rotate_left 1
      · intro u hSu
        obtain ⟨c0, c1⟩ := row_cells (HF.out.1.keep hSu.out).box
        obtain ⟨a0, a1, a2, a3, a4⟩ := ck_lk (HF.out.1.keep hSu.out) HF.out.2
        go_simp
        first | done | with_reducible rfl
      (try simp only [Act.put, List.setIfInBounds_toArray, List.set_cons_zero, List.set_cons_succ])
      refine wpAnyH_ready (rs := [7]) (by kernel_rfl) (by simp) ?_
      refine AllReadyH.cons (o := { dst := some 112, op := Op.call { callee := Callee.value (Operand.func 108), args := #[Operand.tmp 105, Operand.tmp 111], argTypes := #[45, 3] }, type := 4, pos := "ref.go:44", after := #[{ on := 0, ground := Ground.data }, { on := 6, ground := Ground.data }], guard := none }) rfl (fun K hK => ?_) AllReadyH.nil
      go_simp
      go_at_call 108
      refine (rhas_any ⟨R, L, pR, cR, some ⟨b, off, none⟩, cL⟩ y.a _ _ (HF.out.1.keep hHeld.out).ok).mono ?_
      rintro e w' ⟨rfl, hap⟩
      simp only
      rw [f1]
      refine hK.out _ _ (hid_more hHeld hap) (fun hH2 => ?_)
      clear hK K hHeld
      have hHeld := hH2
      clear hH2
      (try simp only [Act.put, List.setIfInBounds_toArray, List.set_cons_zero, List.set_cons_succ])
      refine wpAnyH_take (i := 8) (oi := { dst := some 113, op := Op.unOp UnOp.not 4 (Operand.tmp 112), type := 4, pos := "ref.go:44", after := #[{ on := 7, ground := Ground.data }], guard := none }) (v := ?_) rfl (by kernel_rfl) (by kernel_rfl) (by kernel_rfl) (fun _ _ _ h => h) (Or.inl ⟨by rfl, ?_⟩) hHeld ?_
      rotate_left 1
      · intro u hSu
        obtain ⟨c0, c1⟩ := row_cells (HF.out.1.keep hSu.out).box
        obtain ⟨a0, a1, a2, a3, a4⟩ := ck_lk (HF.out.1.keep hSu.out) HF.out.2
        go_simp
        first | done | with_reducible rfl
      (try simp only [Act.put, List.setIfInBounds_toArray, List.set_cons_zero, List.set_cons_succ])
      refine wpAnyH_take (i := 9) (oi := { dst := some 114, op := Op.move (Operand.tmp 113), type := 4, pos := "ref.go:44", after := #[{ on := 8, ground := Ground.data }, { on := 7, ground := Ground.chain }], guard := none }) (v := ?_) rfl (by kernel_rfl) (by kernel_rfl) (by kernel_rfl) (fun _ _ _ h => h) (Or.inl ⟨by rfl, ?_⟩) hHeld ?_
      rotate_left 1
      · intro u hSu
        obtain ⟨c0, c1⟩ := row_cells (HF.out.1.keep hSu.out).box
        obtain ⟨a0, a1, a2, a3, a4⟩ := ck_lk (HF.out.1.keep hSu.out) HF.out.2
        go_simp
        first | done | with_reducible rfl
      (try simp only [Act.put, List.setIfInBounds_toArray, List.set_cons_zero, List.set_cons_succ])
      refine wpAnyH_take (i := 10) (oi := { dst := some 115, op := Op.load 45 (Operand.tmp 1), type := 45, pos := "ref.go:44", after := #[{ on := 9, ground := Ground.guard }], guard := some (9, false) }) (v := undef) rfl (by kernel_rfl) (by kernel_rfl) (by kernel_rfl) (fun _ _ _ h => h) (Or.inr ⟨by rfl, rfl⟩) hHeld ?_
      (try simp only [Act.put, List.setIfInBounds_toArray, List.set_cons_zero, List.set_cons_succ])
      refine wpAnyH_take (i := 11) (oi := { dst := some 116, op := Op.fieldAddr 45 (Operand.tmp 1) 1, type := 0, pos := "ref.go:44", after := #[{ on := 9, ground := Ground.guard }], guard := some (9, false) }) (v := undef) rfl (by kernel_rfl) (by kernel_rfl) (by kernel_rfl) (fun _ _ _ h => h) (Or.inr ⟨by rfl, rfl⟩) hHeld ?_
      (try simp only [Act.put, List.setIfInBounds_toArray, List.set_cons_zero, List.set_cons_succ])
      refine wpAnyH_take (i := 12) (oi := { dst := some 117, op := Op.load 43 (Operand.tmp 116), type := 43, pos := "ref.go:44", after := #[{ on := 11, ground := Ground.data }, { on := 9, ground := Ground.guard }], guard := some (9, false) }) (v := undef) rfl (by kernel_rfl) (by kernel_rfl) (by kernel_rfl) (fun _ _ _ h => h) (Or.inr ⟨by rfl, rfl⟩) hHeld ?_
      (try simp only [Act.put, List.setIfInBounds_toArray, List.set_cons_zero, List.set_cons_succ])
      refine wpAnyH_take (i := 13) (oi := { dst := some 118, op := Op.move (Operand.tmp 7), type := 3, pos := "ref.go:44", after := #[{ on := 9, ground := Ground.guard }], guard := some (9, false) }) (v := undef) rfl (by kernel_rfl) (by kernel_rfl) (by kernel_rfl) (fun _ _ _ h => h) (Or.inr ⟨by rfl, rfl⟩) hHeld ?_
      (try simp only [Act.put, List.setIfInBounds_toArray, List.set_cons_zero, List.set_cons_succ])
      refine wpAnyH_take (i := 14) (oi := { dst := some 119, op := Op.indexAddr 43 (Operand.tmp 117) (Operand.tmp 118), type := 0, pos := "ref.go:44", after := #[{ on := 12, ground := Ground.data }, { on := 13, ground := Ground.data }, { on := 9, ground := Ground.guard }], guard := some (9, false) }) (v := undef) rfl (by kernel_rfl) (by kernel_rfl) (by kernel_rfl) (fun _ _ _ h => h) (Or.inr ⟨by rfl, rfl⟩) hHeld ?_
      (try simp only [Act.put, List.setIfInBounds_toArray, List.set_cons_zero, List.set_cons_succ])
      refine wpAnyH_take (i := 15) (oi := { dst := some 120, op := Op.fieldAddr 94 (Operand.tmp 119) 1, type := 0, pos := "ref.go:44", after := #[{ on := 14, ground := Ground.data }, { on := 9, ground := Ground.guard }], guard := some (9, false) }) (v := undef) rfl (by kernel_rfl) (by kernel_rfl) (by kernel_rfl) (fun _ _ _ h => h) (Or.inr ⟨by rfl, rfl⟩) hHeld ?_
      (try simp only [Act.put, List.setIfInBounds_toArray, List.set_cons_zero, List.set_cons_succ])
      refine wpAnyH_take (i := 16) (oi := { dst := some 121, op := Op.load 3 (Operand.tmp 120), type := 3, pos := "ref.go:44", after := #[{ on := 15, ground := Ground.data }, { on := 9, ground := Ground.guard }], guard := some (9, false) }) (v := undef) rfl (by kernel_rfl) (by kernel_rfl) (by kernel_rfl) (fun _ _ _ h => h) (Or.inr ⟨by rfl, rfl⟩) hHeld ?_
      (try simp only [Act.put, List.setIfInBounds_toArray, List.set_cons_zero, List.set_cons_succ])
      refine wpAnyH_take (i := 17) (oi := { dst := some 122, op := Op.call { callee := Callee.value (Operand.func 108), args := #[Operand.tmp 115, Operand.tmp 121], argTypes := #[45, 3] }, type := 4, pos := "ref.go:44", after := #[{ on := 10, ground := Ground.data }, { on := 16, ground := Ground.data }, { on := 9, ground := Ground.chain }, { on := 9, ground := Ground.guard }], guard := some (9, false) }) (v := undef) rfl (by kernel_rfl) (by kernel_rfl) (by kernel_rfl) (fun _ _ _ h => h) (Or.inr ⟨by rfl, rfl⟩) hHeld ?_
      (try simp only [Act.put, List.setIfInBounds_toArray, List.set_cons_zero, List.set_cons_succ])
      refine wpAnyH_take (i := 18) (oi := { dst := some 123, op := Op.unOp UnOp.not 4 (Operand.tmp 122), type := 4, pos := "ref.go:44", after := #[{ on := 17, ground := Ground.data }, { on := 9, ground := Ground.guard }], guard := some (9, false) }) (v := undef) rfl (by kernel_rfl) (by kernel_rfl) (by kernel_rfl) (fun _ _ _ h => h) (Or.inr ⟨by rfl, rfl⟩) hHeld ?_
      (try simp only [Act.put, List.setIfInBounds_toArray, List.set_cons_zero, List.set_cons_succ])
      refine wpAnyH_take (i := 19) (oi := { dst := some 124, op := Op.pick (Operand.tmp 114) (Operand.const (Value.bool true)) (Operand.tmp 123), type := 4, pos := "ref.go:44", after := #[{ on := 9, ground := Ground.data }, { on := 18, ground := Ground.data }], guard := none }) (v := ?_) rfl (by kernel_rfl) (by kernel_rfl) (by kernel_rfl) (fun _ _ _ h => h) (Or.inl ⟨by rfl, ?_⟩) hHeld ?_
      rotate_left 1
      · intro u hSu
        obtain ⟨c0, c1⟩ := row_cells (HF.out.1.keep hSu.out).box
        obtain ⟨a0, a1, a2, a3, a4⟩ := ck_lk (HF.out.1.keep hSu.out) HF.out.2
        go_simp
        first | done | with_reducible rfl
      (try simp only [Act.put, List.setIfInBounds_toArray, List.set_cons_zero, List.set_cons_succ])
      refine wpAnyH_done (by kernel_rfl) ?_ _
      have HC := Lib.hid (HF.out.1.keep hHeld.out)
      have HE : Hid (unk R y = true) := Lib.hid (by unfold unk; rw [f1]; rfl)
      clear f1 hHeld
      go_wp2_with fail
      go_ret
      exact ⟨by unfold chk; rw [if_neg hc0.out, F1.out, F2.out, F3.out, any_at HY.out HE.out]; rfl, HC.out.gr⟩
    · refine wp_region_held_drew (S := fun w' => Hid (wr.grownBy w' none)) (by kernel_rfl) (hid_drew GZ) (fun hHeld => ?_)
      refine wpAnyH_take (i := 0) (oi := { dst := some 105, op := Op.load 45 (Operand.tmp 1), type := 45, pos := "ref.go:44", after := #[], guard := none }) (v := ?_) rfl (by kernel_rfl) (by kernel_rfl) (by kernel_rfl) (fun _ _ _ h => h) (Or.inl ⟨by rfl, ?_⟩) hHeld ?_
      rotate_left 1
      · intro u hSu
        obtain ⟨c0, c1⟩ := row_cells (HF.out.1.keep hSu.out).box
        obtain ⟨a0, a1, a2, a3, a4⟩ := ck_lk (HF.out.1.keep hSu.out) HF.out.2
        go_simp
        first | done | with_reducible rfl
      (try simp only [Act.put, List.setIfInBounds_toArray, List.set_cons_zero, List.set_cons_succ])
      refine wpAnyH_take (i := 1) (oi := { dst := some 106, op := Op.fieldAddr 45 (Operand.tmp 1) 1, type := 0, pos := "ref.go:44", after := #[], guard := none }) (v := ?_) rfl (by kernel_rfl) (by kernel_rfl) (by kernel_rfl) (fun _ _ _ h => h) (Or.inl ⟨by rfl, ?_⟩) hHeld ?_
      rotate_left 1
      · intro u hSu
        obtain ⟨c0, c1⟩ := row_cells (HF.out.1.keep hSu.out).box
        obtain ⟨a0, a1, a2, a3, a4⟩ := ck_lk (HF.out.1.keep hSu.out) HF.out.2
        go_simp
        first | done | with_reducible rfl
      (try simp only [Act.put, List.setIfInBounds_toArray, List.set_cons_zero, List.set_cons_succ])
      refine wpAnyH_take (i := 2) (oi := { dst := some 107, op := Op.load 43 (Operand.tmp 106), type := 43, pos := "ref.go:44", after := #[{ on := 1, ground := Ground.data }], guard := none }) (v := ?_) rfl (by kernel_rfl) (by kernel_rfl) (by kernel_rfl) (fun _ _ _ h => h) (Or.inl ⟨by rfl, ?_⟩) hHeld ?_
      rotate_left 1
      · intro u hSu
        obtain ⟨c0, c1⟩ := row_cells (HF.out.1.keep hSu.out).box
        obtain ⟨a0, a1, a2, a3, a4⟩ := ck_lk (HF.out.1.keep hSu.out) HF.out.2
        go_simp
        first | done | with_reducible rfl
      (try simp only [Act.put, List.setIfInBounds_toArray, List.set_cons_zero, List.set_cons_succ])
      refine wpAnyH_take (i := 3) (oi := { dst := some 108, op := Op.move (Operand.tmp 7), type := 3, pos := "ref.go:44", after := #[], guard := none }) (v := ?_) rfl (by kernel_rfl) (by kernel_rfl) (by kernel_rfl) (fun _ _ _ h => h) (Or.inl ⟨by rfl, ?_⟩) hHeld ?_
      rotate_left 1
      · intro u hSu
        obtain ⟨c0, c1⟩ := row_cells (HF.out.1.keep hSu.out).box
        obtain ⟨a0, a1, a2, a3, a4⟩ := ck_lk (HF.out.1.keep hSu.out) HF.out.2
        go_simp
        first | done | with_reducible rfl
      (try simp only [Act.put, List.setIfInBounds_toArray, List.set_cons_zero, List.set_cons_succ])
      refine wpAnyH_take (i := 4) (oi := { dst := some 109, op := Op.indexAddr 43 (Operand.tmp 107) (Operand.tmp 108), type := 0, pos := "ref.go:44", after := #[{ on := 2, ground := Ground.data }, { on := 3, ground := Ground.data }], guard := none }) (v := ?_) rfl (by kernel_rfl) (by kernel_rfl) (by kernel_rfl) (fun _ _ _ h => h) (Or.inl ⟨by rfl, ?_⟩) hHeld ?_
      rotate_left 1
      · intro u hSu
        obtain ⟨c0, c1⟩ := row_cells (HF.out.1.keep hSu.out).box
        obtain ⟨a0, a1, a2, a3, a4⟩ := ck_lk (HF.out.1.keep hSu.out) HF.out.2
        go_simp
        first | done | with_reducible rfl
      (try simp only [Act.put, List.setIfInBounds_toArray, List.set_cons_zero, List.set_cons_succ])
      refine wpAnyH_take (i := 5) (oi := { dst := some 110, op := Op.fieldAddr 94 (Operand.tmp 109) 0, type := 0, pos := "ref.go:44", after := #[{ on := 4, ground := Ground.data }], guard := none }) (v := ?_) rfl (by kernel_rfl) (by kernel_rfl) (by kernel_rfl) (fun _ _ _ h => h) (Or.inl ⟨by rfl, ?_⟩) hHeld ?_
      rotate_left 1
      · intro u hSu
        obtain ⟨c0, c1⟩ := row_cells (HF.out.1.keep hSu.out).box
        obtain ⟨a0, a1, a2, a3, a4⟩ := ck_lk (HF.out.1.keep hSu.out) HF.out.2
        go_simp
        first | done | with_reducible rfl
      (try simp only [Act.put, List.setIfInBounds_toArray, List.set_cons_zero, List.set_cons_succ])
      refine wpAnyH_take (i := 6) (oi := { dst := some 111, op := Op.load 3 (Operand.tmp 110), type := 3, pos := "ref.go:44", after := #[{ on := 5, ground := Ground.data }], guard := none }) (v := ?_) rfl (by kernel_rfl) (by kernel_rfl) (by kernel_rfl) (fun _ _ _ h => h) (Or.inl ⟨by rfl, ?_⟩) hHeld ?_
      rotate_left 1
      · intro u hSu
        obtain ⟨c0, c1⟩ := row_cells (HF.out.1.keep hSu.out).box
        obtain ⟨a0, a1, a2, a3, a4⟩ := ck_lk (HF.out.1.keep hSu.out) HF.out.2
        go_simp
        first | done | with_reducible rfl
      (try simp only [Act.put, List.setIfInBounds_toArray, List.set_cons_zero, List.set_cons_succ])
      refine wpAnyH_ready (rs := [7]) (by kernel_rfl) (by simp) ?_
      refine AllReadyH.cons (o := { dst := some 112, op := Op.call { callee := Callee.value (Operand.func 108), args := #[Operand.tmp 105, Operand.tmp 111], argTypes := #[45, 3] }, type := 4, pos := "ref.go:44", after := #[{ on := 0, ground := Ground.data }, { on := 6, ground := Ground.data }], guard := none }) rfl (fun K hK => ?_) AllReadyH.nil
      go_simp
      go_at_call 108
      refine (rhas_any ⟨R, L, pR, cR, some ⟨b, off, none⟩, cL⟩ y.a _ _ (HF.out.1.keep hHeld.out).ok).mono ?_
      rintro e w' ⟨rfl, hap⟩
      simp only
      rw [f1]
      refine hK.out _ _ (hid_more hHeld hap) (fun hH2 => ?_)
      clear hK K hHeld
      have hHeld := hH2
      clear hH2
      (try simp only [Act.put, List.setIfInBounds_toArray, List.set_cons_zero, List.set_cons_succ])
      refine wpAnyH_take (i := 8) (oi := { dst := some 113, op := Op.unOp UnOp.not 4 (Operand.tmp 112), type := 4, pos := "ref.go:44", after := #[{ on := 7, ground := Ground.data }], guard := none }) (v := ?_) rfl (by kernel_rfl) (by kernel_rfl) (by kernel_rfl) (fun _ _ _ h => h) (Or.inl ⟨by rfl, ?_⟩) hHeld ?_
      rotate_left 1
      · intro u hSu
        obtain ⟨c0, c1⟩ := row_cells (HF.out.1.keep hSu.out).box
        obtain ⟨a0, a1, a2, a3, a4⟩ := ck_lk (HF.out.1.keep hSu.out) HF.out.2
        go_simp
        first | done | with_reducible rfl
      (try simp only [Act.put, List.setIfInBounds_toArray, List.set_cons_zero, List.set_cons_succ])
      refine wpAnyH_take (i := 9) (oi := { dst := some 114, op := Op.move (Operand.tmp 113), type := 4, pos := "ref.go:44", after := #[{ on := 8, ground := Ground.data }, { on := 7, ground := Ground.chain }], guard := none }) (v := ?_) rfl (by kernel_rfl) (by kernel_rfl) (by kernel_rfl) (fun _ _ _ h => h) (Or.inl ⟨by rfl, ?_⟩) hHeld ?_
      rotate_left 1
      · intro u hSu
        obtain ⟨c0, c1⟩ := row_cells (HF.out.1.keep hSu.out).box
        obtain ⟨a0, a1, a2, a3, a4⟩ := ck_lk (HF.out.1.keep hSu.out) HF.out.2
        go_simp
        first | done | with_reducible rfl
      (try simp only [Act.put, List.setIfInBounds_toArray, List.set_cons_zero, List.set_cons_succ])
      refine wpAnyH_take (i := 10) (oi := { dst := some 115, op := Op.load 45 (Operand.tmp 1), type := 45, pos := "ref.go:44", after := #[{ on := 9, ground := Ground.guard }], guard := some (9, false) }) (v := ?_) rfl (by kernel_rfl) (by kernel_rfl) (by kernel_rfl) (fun _ _ _ h => h) (Or.inl ⟨by rfl, ?_⟩) hHeld ?_
      rotate_left 1
      · intro u hSu
        obtain ⟨c0, c1⟩ := row_cells (HF.out.1.keep hSu.out).box
        obtain ⟨a0, a1, a2, a3, a4⟩ := ck_lk (HF.out.1.keep hSu.out) HF.out.2
        go_simp
        first | done | with_reducible rfl
      (try simp only [Act.put, List.setIfInBounds_toArray, List.set_cons_zero, List.set_cons_succ])
      refine wpAnyH_take (i := 11) (oi := { dst := some 116, op := Op.fieldAddr 45 (Operand.tmp 1) 1, type := 0, pos := "ref.go:44", after := #[{ on := 9, ground := Ground.guard }], guard := some (9, false) }) (v := ?_) rfl (by kernel_rfl) (by kernel_rfl) (by kernel_rfl) (fun _ _ _ h => h) (Or.inl ⟨by rfl, ?_⟩) hHeld ?_
      rotate_left 1
      · intro u hSu
        obtain ⟨c0, c1⟩ := row_cells (HF.out.1.keep hSu.out).box
        obtain ⟨a0, a1, a2, a3, a4⟩ := ck_lk (HF.out.1.keep hSu.out) HF.out.2
        go_simp
        first | done | with_reducible rfl
      (try simp only [Act.put, List.setIfInBounds_toArray, List.set_cons_zero, List.set_cons_succ])
      refine wpAnyH_take (i := 12) (oi := { dst := some 117, op := Op.load 43 (Operand.tmp 116), type := 43, pos := "ref.go:44", after := #[{ on := 11, ground := Ground.data }, { on := 9, ground := Ground.guard }], guard := some (9, false) }) (v := ?_) rfl (by kernel_rfl) (by kernel_rfl) (by kernel_rfl) (fun _ _ _ h => h) (Or.inl ⟨by rfl, ?_⟩) hHeld ?_
      rotate_left 1
      · intro u hSu
        obtain ⟨c0, c1⟩ := row_cells (HF.out.1.keep hSu.out).box
        obtain ⟨a0, a1, a2, a3, a4⟩ := ck_lk (HF.out.1.keep hSu.out) HF.out.2
        go_simp
        first | done | with_reducible rfl
      (try simp only [Act.put, List.setIfInBounds_toArray, List.set_cons_zero, List.set_cons_succ])
      refine wpAnyH_take (i := 13) (oi := { dst := some 118, op := Op.move (Operand.tmp 7), type := 3, pos := "ref.go:44", after := #[{ on := 9, ground := Ground.guard }], guard := some (9, false) }) (v := ?_) rfl (by kernel_rfl) (by kernel_rfl) (by kernel_rfl) (fun _ _ _ h => h) (Or.inl ⟨by rfl, ?_⟩) hHeld ?_
      rotate_left 1
      · intro u hSu
        obtain ⟨c0, c1⟩ := row_cells (HF.out.1.keep hSu.out).box
        obtain ⟨a0, a1, a2, a3, a4⟩ := ck_lk (HF.out.1.keep hSu.out) HF.out.2
        go_simp
        first | done | with_reducible rfl
      (try simp only [Act.put, List.setIfInBounds_toArray, List.set_cons_zero, List.set_cons_succ])
      refine wpAnyH_take (i := 14) (oi := { dst := some 119, op := Op.indexAddr 43 (Operand.tmp 117) (Operand.tmp 118), type := 0, pos := "ref.go:44", after := #[{ on := 12, ground := Ground.data }, { on := 13, ground := Ground.data }, { on := 9, ground := Ground.guard }], guard := some (9, false) }) (v := ?_) rfl (by kernel_rfl) (by kernel_rfl) (by kernel_rfl) (fun _ _ _ h => h) (Or.inl ⟨by rfl, ?_⟩) hHeld ?_
      rotate_left 1
      · intro u hSu
        obtain ⟨c0, c1⟩ := row_cells (HF.out.1.keep hSu.out).box
        obtain ⟨a0, a1, a2, a3, a4⟩ := ck_lk (HF.out.1.keep hSu.out) HF.out.2
        go_simp
        first | done | with_reducible rfl
      (try simp only [Act.put, List.setIfInBounds_toArray, List.set_cons_zero, List.set_cons_succ])
      refine wpAnyH_take (i := 15) (oi := { dst := some 120, op := Op.fieldAddr 94 (Operand.tmp 119) 1, type := 0, pos := "ref.go:44", after := #[{ on := 14, ground := Ground.data }, { on := 9, ground := Ground.guard }], guard := some (9, false) }) (v := ?_) rfl (by kernel_rfl) (by kernel_rfl) (by kernel_rfl) (fun _ _ _ h => h) (Or.inl ⟨by rfl, ?_⟩) hHeld ?_
      rotate_left 1
      · intro u hSu
        obtain ⟨c0, c1⟩ := row_cells (HF.out.1.keep hSu.out).box
        obtain ⟨a0, a1, a2, a3, a4⟩ := ck_lk (HF.out.1.keep hSu.out) HF.out.2
        go_simp
        first | done | with_reducible rfl
      (try simp only [Act.put, List.setIfInBounds_toArray, List.set_cons_zero, List.set_cons_succ])
      refine wpAnyH_take (i := 16) (oi := { dst := some 121, op := Op.load 3 (Operand.tmp 120), type := 3, pos := "ref.go:44", after := #[{ on := 15, ground := Ground.data }, { on := 9, ground := Ground.guard }], guard := some (9, false) }) (v := ?_) rfl (by kernel_rfl) (by kernel_rfl) (by kernel_rfl) (fun _ _ _ h => h) (Or.inl ⟨by rfl, ?_⟩) hHeld ?_
      rotate_left 1
      · intro u hSu
        obtain ⟨c0, c1⟩ := row_cells (HF.out.1.keep hSu.out).box
        obtain ⟨a0, a1, a2, a3, a4⟩ := ck_lk (HF.out.1.keep hSu.out) HF.out.2
        go_simp
        first | done | with_reducible rfl
      (try simp only [Act.put, List.setIfInBounds_toArray, List.set_cons_zero, List.set_cons_succ])
      refine wpAnyH_ready (rs := [17]) (by kernel_rfl) (by simp) ?_
      refine AllReadyH.cons (o := { dst := some 122, op := Op.call { callee := Callee.value (Operand.func 108), args := #[Operand.tmp 115, Operand.tmp 121], argTypes := #[45, 3] }, type := 4, pos := "ref.go:44", after := #[{ on := 10, ground := Ground.data }, { on := 16, ground := Ground.data }, { on := 9, ground := Ground.chain }, { on := 9, ground := Ground.guard }], guard := some (9, false) }) rfl (fun K hK => ?_) AllReadyH.nil
      go_simp
      go_at_call 108
      refine (rhas_any ⟨R, L, pR, cR, some ⟨b, off, none⟩, cL⟩ y.b _ _ (HF.out.1.keep hHeld.out).ok).mono ?_
      rintro e w' ⟨rfl, hap⟩
      simp only
      refine hK.out _ _ (hid_more hHeld hap) (fun hH2 => ?_)
      clear hK K hHeld
      have hHeld := hH2
      clear hH2
      (try simp only [Act.put, List.setIfInBounds_toArray, List.set_cons_zero, List.set_cons_succ])
      refine wpAnyH_take (i := 18) (oi := { dst := some 123, op := Op.unOp UnOp.not 4 (Operand.tmp 122), type := 4, pos := "ref.go:44", after := #[{ on := 17, ground := Ground.data }, { on := 9, ground := Ground.guard }], guard := some (9, false) }) (v := ?_) rfl (by kernel_rfl) (by kernel_rfl) (by kernel_rfl) (fun _ _ _ h => h) (Or.inl ⟨by rfl, ?_⟩) hHeld ?_
      rotate_left 1
      · intro u hSu
        obtain ⟨c0, c1⟩ := row_cells (HF.out.1.keep hSu.out).box
        obtain ⟨a0, a1, a2, a3, a4⟩ := ck_lk (HF.out.1.keep hSu.out) HF.out.2
        go_simp
        first | done | with_reducible rfl
      (try simp only [Act.put, List.setIfInBounds_toArray, List.set_cons_zero, List.set_cons_succ])
      refine wpAnyH_take (i := 19) (oi := { dst := some 124, op := Op.pick (Operand.tmp 114) (Operand.const (Value.bool true)) (Operand.tmp 123), type := 4, pos := "ref.go:44", after := #[{ on := 9, ground := Ground.data }, { on := 18, ground := Ground.data }], guard := none }) (v := ?_) rfl (by kernel_rfl) (by kernel_rfl) (by kernel_rfl) (fun _ _ _ h => h) (Or.inl ⟨by rfl, ?_⟩) hHeld ?_
      rotate_left 1
      · intro u hSu
        obtain ⟨c0, c1⟩ := row_cells (HF.out.1.keep hSu.out).box
        obtain ⟨a0, a1, a2, a3, a4⟩ := ck_lk (HF.out.1.keep hSu.out) HF.out.2
        go_simp
        first | done | with_reducible rfl
      (try simp only [Act.put, List.setIfInBounds_toArray, List.set_cons_zero, List.set_cons_succ])
      refine wpAnyH_done (by kernel_rfl) ?_ _
      have HC := Lib.hid (HF.out.1.keep hHeld.out)
      clear hHeld
      cases f2 : hasR R y.b
      · have HE : Hid (unk R y = true) := Lib.hid (by unfold unk; rw [f1, f2]; rfl)
        clear f1 f2
        go_wp2_with fail
        go_ret
        exact ⟨by unfold chk; rw [if_neg hc0.out, F1.out, F2.out, F3.out, any_at HY.out HE.out]; rfl, HC.out.gr⟩
      · have HE : Hid (unk R y = false) := Lib.hid (by unfold unk; rw [f1, f2]; rfl)
        clear f1 f2
        go_wp2_with fail
        exact ⟨⟨k + 1, by omega, congrArg _ (by omega), HC, Lib.hid (any_take HN.out HY.out HE.out)⟩, by simp only [RowKit.intOf]; omega⟩
  obtain rfl : k = L.length := by omega
  have F4 := Lib.hid (any_end HN.out (Nat.le_refl _))
  clear HN
  obtain ⟨w4, rfl⟩ : ∃ w4 : World, w4 = wr := ⟨_, rfl⟩
  go_wp2_with fail
  go_loopw [8] (fun a wr => ∃ k : Nat, k ≤ L.length ∧ a = .int .i64 (k : Int) ∧ Hid (CK w ⟨R, L, pR, cR, pL, cL⟩ wr) ∧ Hid ((L.take k).any wrEnd = false)) (fun a _ => L.length - (RowKit.intOf a).toNat)
  case atStart => exact ⟨0, Nat.zero_le _, rfl, C, Lib.hid rfl⟩
  case round =>
  clear C c0 c1
  obtain ⟨k, hk, rfl, C, HN⟩ := hrel
  obtain ⟨c0, c1⟩ := row_cells C.out.box
  by_cases hlt : k < L.length
  case pos =>
    obtain ⟨b, off, hp⟩ := ck_pl C.out (show 0 < L.length by omega)
    change pL = _ at hp
    subst hp
    obtain ⟨y, hy⟩ : ∃ y, L[k]? = some y := ⟨_, List.getElem?_eq_getElem hlt⟩
    obtain ⟨a0, a1, a2, a3, a4⟩ := ck_lk C.out hy
    have HY := Lib.hid hy
    clear hy
    by_cases hge : y.b ≤ y.a
    · have HE : Hid (wrEnd y = true) := Lib.hid (decide_eq_true hge)
      go_wp2_with fail
      go_region
      go_wp2_with fail
      go_ret
      exact ⟨by unfold chk; rw [if_neg hc0.out, F1.out, F2.out, F3.out, F4.out, any_at HY.out HE.out]; rfl, C.out.drew.gr⟩
    · have HE : Hid (wrEnd y = false) := Lib.hid (decide_eq_false hge)
      go_wp2_with fail
      go_region
      have HC := Lib.hid C.out.drew
      go_wp2_with fail
      exact ⟨⟨k + 1, by omega, congrArg _ (by omega), HC, Lib.hid (any_take HN.out HY.out HE.out)⟩, by simp only [RowKit.intOf]; omega⟩
  obtain rfl : k = L.length := by omega
  have F5 := Lib.hid (any_end HN.out (Nat.le_refl _))
  clear HN
  obtain ⟨w5, rfl⟩ : ∃ w5 : World, w5 = wr := ⟨_, rfl⟩
  go_wp2_with fail
  go_loopw [9] (fun a wr => ∃ k : Nat, 1 ≤ k ∧ (k ≤ L.length ∨ k = 1) ∧ a = .int .i64 (k : Int) ∧ Hid (CK w ⟨R, L, pR, cR, pL, cL⟩ wr) ∧ Hid (∀ i x y, i + 1 < k → L[i]? = some x → L[i + 1]? = some y → ltL x y = true)) (fun a _ => L.length - (RowKit.intOf a).toNat)
  case atStart => exact ⟨1, by omega, Or.inr rfl, rfl, C, Lib.hid (fun i x y h => by omega)⟩
  case round =>
  clear C c0 c1
  obtain ⟨k, hk1, hk, rfl, C, HN⟩ := hrel
  obtain ⟨c0, c1⟩ := row_cells C.out.box
  by_cases hlt : k < L.length
  case pos =>
    obtain ⟨j, rfl⟩ : ∃ j, k = j + 1 := ⟨k - 1, by omega⟩
    obtain ⟨b, off, hp⟩ := ck_pl C.out (show 0 < L.length by omega)
    change pL = _ at hp
    subst hp
    obtain ⟨x, hx⟩ : ∃ x, L[j]? = some x := ⟨_, List.getElem?_eq_getElem (by omega)⟩
    obtain ⟨y, hy⟩ : ∃ y, L[j + 1]? = some y := ⟨_, List.getElem?_eq_getElem hlt⟩
    obtain ⟨a0, a1, a2, a3, a4⟩ := ck_lk C.out hx
    obtain ⟨b0, b1, b2, b3, b4⟩ := ck_lk C.out hy
    have HXY := Lib.hid (And.intro hx hy)
    have ew1 : ((j : Int) + 1 - 1) = (j : Int) := by omega
    have ew2 : IntKind.i64.wrap ((j : Int) + 1 - 1) = (j : Int) := by rw [ew1, IntWalk.i64_in _ (by omega)]
    have ew3 : IntKind.i64.wrap (j : Int) = (j : Int) := IntWalk.i64_in _ (by omega)
    have j0 : (0 : Int) ≤ (j : Int) := by omega
    have j1 : (0 : Int) ≤ (j : Int) + 1 := by omega
    have j2 : (j : Int) < (L.length : Int) := by omega
    have j3 : (j : Int) + 1 < (L.length : Int) := by omega
    have j4 : ((j : Int) + 1).toNat = j + 1 := by omega
    clear hx hy
    have hcast : ((j + 1 : Nat) : Int) = (j : Int) + 1 := by omega
    rw [hcast]
    have z1 : b < wr.heap.size := World.block_lt_of_cell? wr ⟨b, off + j * 5, none⟩ a0
    have z2 : w.heap.size < wr.heap.size := World.block_lt_of_cell? wr ⟨w.heap.size, 0, none⟩ c0
    have z3 : b < wr.heap.size + 1 := by omega
    have z4 : w.heap.size < wr.heap.size + 1 := by omega
    have HF := Lib.hid (show _ ∧ _ from And.intro C.out HXY.out)
    have hcs : (Hid (ltL x y = true) ∧ x.a < y.a) ∨ (Hid (ltL x y = false) ∧ y.a < x.a) ∨ (Hid (ltL x y = true) ∧ x.a = y.a ∧ x.b < y.b) ∨ (Hid (ltL x y = false) ∧ x.a = y.a ∧ y.b ≤ x.b) := by
      have T1 : (x.a < y.a ∨ (x.a = y.a ∧ x.b < y.b)) → Hid (ltL x y = true) := fun h => Lib.hid (decide_eq_true h)
      have T2 : ¬ (x.a < y.a ∨ (x.a = y.a ∧ x.b < y.b)) → Hid (ltL x y = false) := fun h => Lib.hid (decide_eq_false h)
      rcases Int.lt_trichotomy x.a y.a with h | h | h
      · exact Or.inl ⟨T1 (Or.inl h), h⟩
      · rcases (show x.b < y.b ∨ y.b ≤ x.b by omega) with g | g
        · exact Or.inr (Or.inr (Or.inl ⟨T1 (Or.inr ⟨h, g⟩), h, g⟩))
        · exact Or.inr (Or.inr (Or.inr ⟨T2 (by omega), h, g⟩))
      · exact Or.inr (Or.inl ⟨T2 (by omega), h⟩)
    have ok32 : ∀ w9, Hid (CK w ⟨R, L, pR, cR, some ⟨b, off, none⟩, cL⟩ w9) → Hid (ltL x y = true) → (∃ k : Nat, 1 ≤ k ∧ (k ≤ L.length ∨ k = 1) ∧ Value.int .i64 ((j : Int) + 1 + 1) = .int .i64 (k : Int) ∧ Hid (CK w ⟨R, L, pR, cR, some ⟨b, off, none⟩, cL⟩ w9) ∧ Hid (∀ i x y, i + 1 < k → L[i]? = some x → L[i + 1]? = some y → ltL x y = true)) ∧ L.length - (RowKit.intOf (.int .i64 ((j : Int) + 1 + 1))).toNat < L.length - (RowKit.intOf (.int .i64 ((j : Int) + 1))).toNat := by
      intro w9 HC HE
      refine ⟨⟨j + 1 + 1, by omega, Or.inl (by omega), congrArg _ (by omega), HC, Lib.hid fun i x2 y2 hi hx2 hy2 => ?_⟩, by simp only [RowKit.intOf]; omega⟩
      by_cases hij : i = j
      · subst hij
        have e1 := HXY.out.1.symm.trans hx2
        have e2 := HXY.out.2.symm.trans hy2
        injection e1 with e1
        injection e2 with e2
        subst e1
        subst e2
        exact HE.out
      · exact HN.out i x2 y2 (by omega) hx2 hy2
    have OK32 := Lib.hid ok32
    have HCS := Lib.hid hcs
    clear ok32 hcs
    have GZ : Hid (wr.grownBy wr none) := Lib.hid (grown_refl _ _)
    go_upto_region 32 with fail
    clear c0 c1 a0 a1 a2 a3 a4 b0 b1 b2 b3 b4
    refine wp_region_held_drew (S := fun w' => Hid (wr.grownBy w' none)) (by kernel_rfl) (hid_drew GZ) (fun hHeld => ?_)
    refine wpAnyH_take (i := 0) (oi := { dst := some 152, op := Op.fieldAddr 45 (Operand.tmp 1) 1, type := 0, pos := "ref.go:54", after := #[], guard := none }) (v := ?_) rfl (by kernel_rfl) (by kernel_rfl) (by kernel_rfl) (fun _ _ _ h => h) (Or.inl ⟨by rfl, ?_⟩) hHeld ?_
    rotate_left 1
    · intro u hSu
      obtain ⟨c0, c1⟩ := row_cells (HF.out.1.keep hSu.out).box
      obtain ⟨a0, a1, a2, a3, a4⟩ := ck_lk (HF.out.1.keep hSu.out) HF.out.2.1
      obtain ⟨b0, b1, b2, b3, b4⟩ := ck_lk (HF.out.1.keep hSu.out) HF.out.2.2
      go_simp
      first | done | with_reducible rfl
    (try simp only [Act.put, List.setIfInBounds_toArray, List.set_cons_zero, List.set_cons_succ])
    refine wpAnyH_take (i := 1) (oi := { dst := some 153, op := Op.load 43 (Operand.tmp 152), type := 43, pos := "ref.go:54", after := #[{ on := 0, ground := Ground.data }], guard := none }) (v := ?_) rfl (by kernel_rfl) (by kernel_rfl) (by kernel_rfl) (fun _ _ _ h => h) (Or.inl ⟨by rfl, ?_⟩) hHeld ?_
    rotate_left 1
    · intro u hSu
      obtain ⟨c0, c1⟩ := row_cells (HF.out.1.keep hSu.out).box
      obtain ⟨a0, a1, a2, a3, a4⟩ := ck_lk (HF.out.1.keep hSu.out) HF.out.2.1
      obtain ⟨b0, b1, b2, b3, b4⟩ := ck_lk (HF.out.1.keep hSu.out) HF.out.2.2
      go_simp
      first | done | with_reducible rfl
    (try simp only [Act.put, List.setIfInBounds_toArray, List.set_cons_zero, List.set_cons_succ])
    refine wpAnyH_take (i := 2) (oi := { dst := some 154, op := Op.move (Operand.tmp 9), type := 3, pos := "ref.go:54", after := #[], guard := none }) (v := ?_) rfl (by kernel_rfl) (by kernel_rfl) (by kernel_rfl) (fun _ _ _ h => h) (Or.inl ⟨by rfl, ?_⟩) hHeld ?_
    rotate_left 1
    · intro u hSu
      obtain ⟨c0, c1⟩ := row_cells (HF.out.1.keep hSu.out).box
      obtain ⟨a0, a1, a2, a3, a4⟩ := ck_lk (HF.out.1.keep hSu.out) HF.out.2.1
      obtain ⟨b0, b1, b2, b3, b4⟩ := ck_lk (HF.out.1.keep hSu.out) HF.out.2.2
      go_simp
      first | done | with_reducible rfl
    (try simp only [Act.put, List.setIfInBounds_toArray, List.set_cons_zero, List.set_cons_succ])
    refine wpAnyH_take (i := 3) (oi := { dst := some 155, op := Op.binOp BinOp.sub 3 (Operand.tmp 154) (Operand.const (Value.int IntKind.i64 1)) 3, type := 3, pos := "ref.go:54", after := #[{ on := 2, ground := Ground.data }], guard := none }) (v := ?_) rfl (by kernel_rfl) (by kernel_rfl) (by kernel_rfl) (fun _ _ _ h => h) (Or.inl ⟨by rfl, ?_⟩) hHeld ?_
    rotate_left 1
    · intro u hSu
      obtain ⟨c0, c1⟩ := row_cells (HF.out.1.keep hSu.out).box
      obtain ⟨a0, a1, a2, a3, a4⟩ := ck_lk (HF.out.1.keep hSu.out) HF.out.2.1
      obtain ⟨b0, b1, b2, b3, b4⟩ := ck_lk (HF.out.1.keep hSu.out) HF.out.2.2
      go_simp
      first | done | with_reducible rfl
    (try simp only [Act.put, List.setIfInBounds_toArray, List.set_cons_zero, List.set_cons_succ])
    refine wpAnyH_take (i := 4) (oi := { dst := some 156, op := Op.indexAddr 43 (Operand.tmp 153) (Operand.tmp 155), type := 0, pos := "ref.go:54", after := #[{ on := 1, ground := Ground.data }, { on := 3, ground := Ground.data }], guard := none }) (v := ?_) rfl (by kernel_rfl) (by kernel_rfl) (by kernel_rfl) (fun _ _ _ h => h) (Or.inl ⟨by rfl, ?_⟩) hHeld ?_
    rotate_left 1
    · intro u hSu
      obtain ⟨c0, c1⟩ := row_cells (HF.out.1.keep hSu.out).box
      obtain ⟨a0, a1, a2, a3, a4⟩ := ck_lk (HF.out.1.keep hSu.out) HF.out.2.1
      obtain ⟨b0, b1, b2, b3, b4⟩ := ck_lk (HF.out.1.keep hSu.out) HF.out.2.2
      go_simp
      first | done | with_reducible rfl
    (try simp only [Act.put, List.setIfInBounds_toArray, List.set_cons_zero, List.set_cons_succ])
    refine wpAnyH_take (i := 5) (oi := { dst := some 157, op := Op.load 94 (Operand.tmp 156), type := 94, pos := "ref.go:54", after := #[{ on := 4, ground := Ground.data }], guard := none }) (v := ?_) rfl (by kernel_rfl) (by kernel_rfl) (by kernel_rfl) (fun _ _ _ h => h) (Or.inl ⟨by rfl, ?_⟩) hHeld ?_
    rotate_left 1
    · intro u hSu
      obtain ⟨c0, c1⟩ := row_cells (HF.out.1.keep hSu.out).box
      obtain ⟨a0, a1, a2, a3, a4⟩ := ck_lk (HF.out.1.keep hSu.out) HF.out.2.1
      obtain ⟨b0, b1, b2, b3, b4⟩ := ck_lk (HF.out.1.keep hSu.out) HF.out.2.2
      go_simp
      first | done | with_reducible rfl
    (try simp only [Act.put, List.setIfInBounds_toArray, List.set_cons_zero, List.set_cons_succ])
    refine wpAnyH_take (i := 6) (oi := { dst := some 158, op := Op.fieldAddr 45 (Operand.tmp 1) 1, type := 0, pos := "ref.go:54", after := #[{ on := 13, ground := Ground.gcOnly Departure.lateStores }], guard := none }) (v := ?_) rfl (by kernel_rfl) (by kernel_rfl) (by kernel_rfl) (fun _ _ _ h => h) (Or.inl ⟨by rfl, ?_⟩) hHeld ?_
    rotate_left 1
    · intro u hSu
      obtain ⟨c0, c1⟩ := row_cells (HF.out.1.keep hSu.out).box
      obtain ⟨a0, a1, a2, a3, a4⟩ := ck_lk (HF.out.1.keep hSu.out) HF.out.2.1
      obtain ⟨b0, b1, b2, b3, b4⟩ := ck_lk (HF.out.1.keep hSu.out) HF.out.2.2
      go_simp
      first | done | with_reducible rfl
    (try simp only [Act.put, List.setIfInBounds_toArray, List.set_cons_zero, List.set_cons_succ])
    refine wpAnyH_take (i := 7) (oi := { dst := some 159, op := Op.load 43 (Operand.tmp 158), type := 43, pos := "ref.go:54", after := #[{ on := 6, ground := Ground.data }, { on := 13, ground := Ground.gcOnly Departure.lateStores }], guard := none }) (v := ?_) rfl (by kernel_rfl) (by kernel_rfl) (by kernel_rfl) (fun _ _ _ h => h) (Or.inl ⟨by rfl, ?_⟩) hHeld ?_
    rotate_left 1
    · intro u hSu
      obtain ⟨c0, c1⟩ := row_cells (HF.out.1.keep hSu.out).box
      obtain ⟨a0, a1, a2, a3, a4⟩ := ck_lk (HF.out.1.keep hSu.out) HF.out.2.1
      obtain ⟨b0, b1, b2, b3, b4⟩ := ck_lk (HF.out.1.keep hSu.out) HF.out.2.2
      go_simp
      first | done | with_reducible rfl
    (try simp only [Act.put, List.setIfInBounds_toArray, List.set_cons_zero, List.set_cons_succ])
    refine wpAnyH_take (i := 8) (oi := { dst := some 160, op := Op.move (Operand.tmp 9), type := 3, pos := "ref.go:54", after := #[{ on := 13, ground := Ground.gcOnly Departure.lateStores }], guard := none }) (v := ?_) rfl (by kernel_rfl) (by kernel_rfl) (by kernel_rfl) (fun _ _ _ h => h) (Or.inl ⟨by rfl, ?_⟩) hHeld ?_
    rotate_left 1
    · intro u hSu
      obtain ⟨c0, c1⟩ := row_cells (HF.out.1.keep hSu.out).box
      obtain ⟨a0, a1, a2, a3, a4⟩ := ck_lk (HF.out.1.keep hSu.out) HF.out.2.1
      obtain ⟨b0, b1, b2, b3, b4⟩ := ck_lk (HF.out.1.keep hSu.out) HF.out.2.2
      go_simp
      first | done | with_reducible rfl
    (try simp only [Act.put, List.setIfInBounds_toArray, List.set_cons_zero, List.set_cons_succ])
    refine wpAnyH_take (i := 9) (oi := { dst := some 161, op := Op.indexAddr 43 (Operand.tmp 159) (Operand.tmp 160), type := 0, pos := "ref.go:54", after := #[{ on := 7, ground := Ground.data }, { on := 8, ground := Ground.data }, { on := 13, ground := Ground.gcOnly Departure.lateStores }], guard := none }) (v := ?_) rfl (by kernel_rfl) (by kernel_rfl) (by kernel_rfl) (fun _ _ _ h => h) (Or.inl ⟨by rfl, ?_⟩) hHeld ?_
    rotate_left 1
    · intro u hSu
      obtain ⟨c0, c1⟩ := row_cells (HF.out.1.keep hSu.out).box
      obtain ⟨a0, a1, a2, a3, a4⟩ := ck_lk (HF.out.1.keep hSu.out) HF.out.2.1
      obtain ⟨b0, b1, b2, b3, b4⟩ := ck_lk (HF.out.1.keep hSu.out) HF.out.2.2
      go_simp
      first | done | with_reducible rfl
    (try simp only [Act.put, List.setIfInBounds_toArray, List.set_cons_zero, List.set_cons_succ])
    refine wpAnyH_take (i := 10) (oi := { dst := some 162, op := Op.load 94 (Operand.tmp 161), type := 94, pos := "ref.go:54", after := #[{ on := 9, ground := Ground.data }, { on := 13, ground := Ground.gcOnly Departure.lateStores }], guard := none }) (v := ?_) rfl (by kernel_rfl) (by kernel_rfl) (by kernel_rfl) (fun _ _ _ h => h) (Or.inl ⟨by rfl, ?_⟩) hHeld ?_
    rotate_left 1
    · intro u hSu
      obtain ⟨c0, c1⟩ := row_cells (HF.out.1.keep hSu.out).box
      obtain ⟨a0, a1, a2, a3, a4⟩ := ck_lk (HF.out.1.keep hSu.out) HF.out.2.1
      obtain ⟨b0, b1, b2, b3, b4⟩ := ck_lk (HF.out.1.keep hSu.out) HF.out.2.2
      go_simp
      first | done | with_reducible rfl
    (try simp only [Act.put, List.setIfInBounds_toArray, List.set_cons_zero, List.set_cons_succ])
    refine wpAnyH_ready (rs := [11, 12]) (by kernel_rfl) (by simp) ?_
    refine AllReadyH.cons (o := { dst := some 10, op := Op.alloc 94, type := 0, pos := "ref.go:54", after := #[], guard := none }) rfl (fun K hK => ?_) (AllReadyH.cons (o := { dst := some 11, op := Op.alloc 94, type := 0, pos := "ref.go:54", after := #[], guard := none }) rfl (fun K hK => ?_) AllReadyH.nil)
    · go_simp
      refine hK.out _ _ (hid_more hHeld (World.grownBy_alloc _ _ _)) (fun hH2 => ?_)
      clear hK K hHeld
      have hHeld := hH2
      clear hH2
      (try simp only [Act.put, List.setIfInBounds_toArray, List.set_cons_zero, List.set_cons_succ])
      refine wpAnyH_ready (rs := [12]) (by kernel_rfl) (by simp) ?_
      refine AllReadyH.cons (o := { dst := some 11, op := Op.alloc 94, type := 0, pos := "ref.go:54", after := #[], guard := none }) rfl (fun K hK => ?_) AllReadyH.nil
      go_simp
      refine hK.out _ _ (hid_more hHeld (World.grownBy_alloc _ _ _)) (fun hH2 => ?_)
      clear hK K hHeld
      have hHeld := hH2
      clear hH2
      (try simp only [Act.put, List.setIfInBounds_toArray, List.set_cons_zero, List.set_cons_succ])
      refine wpAnyH_ready (rs := [13]) (by kernel_rfl) (by simp) ?_
      refine AllReadyH.cons (o := { dst := none, op := Op.store 94 (Operand.tmp 10) (Operand.tmp 157), type := 0, pos := "ref.go:54", after := #[{ on := 11, ground := Ground.data }, { on := 5, ground := Ground.data }, { on := 0, ground := Ground.phase }, { on := 1, ground := Ground.phase }, { on := 2, ground := Ground.phase }, { on := 3, ground := Ground.phase }, { on := 4, ground := Ground.phase }, { on := 5, ground := Ground.phase }, { on := 6, ground := Ground.textOnly Departure.lateStores }, { on := 7, ground := Ground.textOnly Departure.lateStores }, { on := 8, ground := Ground.textOnly Departure.lateStores }, { on := 9, ground := Ground.textOnly Departure.lateStores }, { on := 10, ground := Ground.textOnly Departure.lateStores }, { on := 11, ground := Ground.phase }, { on := 12, ground := Ground.phase }], guard := none }) rfl (fun K hK => ?_) AllReadyH.nil
      go_simp
      refine hK.out _ _ (hid_drew (hid_more (hid_more GZ (World.grownBy_alloc _ _ _)) (World.grownBy_alloc _ _ _))) (fun hH2 => ?_)
      clear hK K hHeld
      have hHeld := hH2
      clear hH2
      (try simp only [Act.put, List.setIfInBounds_toArray, List.set_cons_zero, List.set_cons_succ])
      refine wpAnyH_ready (rs := [14]) (by kernel_rfl) (by simp) ?_
      refine AllReadyH.cons (o := { dst := none, op := Op.store 94 (Operand.tmp 11) (Operand.tmp 162), type := 0, pos := "ref.go:54", after := #[{ on := 12, ground := Ground.data }, { on := 10, ground := Ground.data }, { on := 13, ground := Ground.chain }, { on := 0, ground := Ground.phase }, { on := 1, ground := Ground.phase }, { on := 2, ground := Ground.phase }, { on := 3, ground := Ground.phase }, { on := 4, ground := Ground.phase }, { on := 5, ground := Ground.phase }, { on := 6, ground := Ground.phase }, { on := 7, ground := Ground.phase }, { on := 8, ground := Ground.phase }, { on := 9, ground := Ground.phase }, { on := 10, ground := Ground.phase }, { on := 11, ground := Ground.phase }, { on := 12, ground := Ground.phase }, { on := 13, ground := Ground.phase }], guard := none }) rfl (fun K hK => ?_) AllReadyH.nil
      go_simp
      refine hK.out _ _ (hid_drew (hid_more (hid_more GZ (World.grownBy_alloc _ _ _)) (World.grownBy_alloc _ _ _))) (fun hH2 => ?_)
      clear hK K hHeld
      have hHeld := hH2
      clear hH2
      (try simp only [Act.put, List.setIfInBounds_toArray, List.set_cons_zero, List.set_cons_succ])
      refine wpAnyH_done (by kernel_rfl) ?_ _
      obtain ⟨k1, k2, k3, _⟩ := two_boxes wr #[.int .i64 x.a, .int .i64 x.b, .int .i64 x.ca, .int .i64 x.cb, .int .i64 x.cp] #[.int .i64 y.a, .int .i64 y.b, .int .i64 y.ca, .int .i64 y.cb, .int .i64 y.cp] 94 94
      have k4 : (((wr.alloc (.cells #[.int .i64 x.a, .int .i64 x.b, .int .i64 x.ca, .int .i64 x.cb, .int .i64 x.cp] 94)).alloc (.cells #[.int .i64 y.a, .int .i64 y.b, .int .i64 y.ca, .int .i64 y.cb, .int .i64 y.cp] 94)).drew).heap[wr.heap.size]? = some (.cells #[.int .i64 x.a, .int .i64 x.b, .int .i64 x.ca, .int .i64 x.cb, .int .i64 x.cp] 94 (0, 0)) := k1
      have k5 : (((wr.alloc (.cells #[.int .i64 x.a, .int .i64 x.b, .int .i64 x.ca, .int .i64 x.cb, .int .i64 x.cp] 94)).alloc (.cells #[.int .i64 y.a, .int .i64 y.b, .int .i64 y.ca, .int .i64 y.cb, .int .i64 y.cp] 94)).drew).heap[wr.heap.size + 1]? = some (.cells #[.int .i64 y.a, .int .i64 y.b, .int .i64 y.ca, .int .i64 y.cb, .int .i64 y.cp] 94 (0, 0)) := k2
      have HC : Hid (CK w ⟨R, L, pR, cR, some ⟨b, off, none⟩, cL⟩ (((wr.alloc (.cells #[.int .i64 x.a, .int .i64 x.b, .int .i64 x.ca, .int .i64 x.cb, .int .i64 x.cp] 94)).alloc (.cells #[.int .i64 y.a, .int .i64 y.b, .int .i64 y.ca, .int .i64 y.cb, .int .i64 y.cp] 94)).drew)) := Lib.hid (HF.out.1.keep (grown_drew k3))
      obtain ⟨d0, d1, d2, d3, d4⟩ := lk_facts k4
      obtain ⟨e0, e1, e2, e3, e4⟩ := lk_facts k5
      clear k1 k2 k3 k4 k5 hHeld
      generalize ((wr.alloc (.cells #[.int .i64 x.a, .int .i64 x.b, .int .i64 x.ca, .int .i64 x.cb, .int .i64 x.cp] 94)).alloc (.cells #[.int .i64 y.a, .int .i64 y.b, .int .i64 y.ca, .int .i64 y.cb, .int .i64 y.cp] 94)).drew = w9 at *
      rcases HCS.out with ⟨HE, h6⟩ | ⟨HE, h6⟩ | ⟨HE, h6, h7⟩ | ⟨HE, h6, h7⟩
      · have h8 : ¬ y.a < x.a := by omega
        have h9 : (x.a == y.a) = false := by simpa using (show ¬ x.a = y.a by omega)
        go_wp2_with fail
        exact OK32.out _ HC HE
      · go_wp2_with fail
        go_ret
        exact ⟨by unfold chk; rw [if_neg hc0.out, F1.out, F2.out, F3.out, F4.out, F5.out, ascL_hit HXY.out.1 HXY.out.2 HE.out]; rfl, HC.out.gr⟩
      · have h8 : ¬ y.a < x.a := by omega
        have h9 : (x.a == y.a) = true := by simpa using h6
        have h10 : ¬ y.b ≤ x.b := by omega
        clear h6
        go_wp2_with fail
        exact OK32.out _ HC HE
      · have h8 : ¬ y.a < x.a := by omega
        have h9 : (x.a == y.a) = true := by simpa using h6
        clear h6
        go_wp2_with fail
        go_ret
        exact ⟨by unfold chk; rw [if_neg hc0.out, F1.out, F2.out, F3.out, F4.out, F5.out, ascL_hit HXY.out.1 HXY.out.2 HE.out]; rfl, HC.out.gr⟩
    · go_simp
      refine hK.out _ _ (hid_more hHeld (World.grownBy_alloc _ _ _)) (fun hH2 => ?_)
      clear hK K hHeld
      have hHeld := hH2
      clear hH2
      (try simp only [Act.put, List.setIfInBounds_toArray, List.set_cons_zero, List.set_cons_succ])
      refine wpAnyH_ready (rs := [11]) (by kernel_rfl) (by simp) ?_
      refine AllReadyH.cons (o := { dst := some 10, op := Op.alloc 94, type := 0, pos := "ref.go:54", after := #[], guard := none }) rfl (fun K hK => ?_) AllReadyH.nil
      go_simp
      refine hK.out _ _ (hid_more hHeld (World.grownBy_alloc _ _ _)) (fun hH2 => ?_)
      clear hK K hHeld
      have hHeld := hH2
      clear hH2
      (try simp only [Act.put, List.setIfInBounds_toArray, List.set_cons_zero, List.set_cons_succ])
      refine wpAnyH_ready (rs := [13]) (by kernel_rfl) (by simp) ?_
      refine AllReadyH.cons (o := { dst := none, op := Op.store 94 (Operand.tmp 10) (Operand.tmp 157), type := 0, pos := "ref.go:54", after := #[{ on := 11, ground := Ground.data }, { on := 5, ground := Ground.data }, { on := 0, ground := Ground.phase }, { on := 1, ground := Ground.phase }, { on := 2, ground := Ground.phase }, { on := 3, ground := Ground.phase }, { on := 4, ground := Ground.phase }, { on := 5, ground := Ground.phase }, { on := 6, ground := Ground.textOnly Departure.lateStores }, { on := 7, ground := Ground.textOnly Departure.lateStores }, { on := 8, ground := Ground.textOnly Departure.lateStores }, { on := 9, ground := Ground.textOnly Departure.lateStores }, { on := 10, ground := Ground.textOnly Departure.lateStores }, { on := 11, ground := Ground.phase }, { on := 12, ground := Ground.phase }], guard := none }) rfl (fun K hK => ?_) AllReadyH.nil
      go_simp
      refine hK.out _ _ (hid_drew (hid_more (hid_more GZ (World.grownBy_alloc _ _ _)) (World.grownBy_alloc _ _ _))) (fun hH2 => ?_)
      clear hK K hHeld
      have hHeld := hH2
      clear hH2
      (try simp only [Act.put, List.setIfInBounds_toArray, List.set_cons_zero, List.set_cons_succ])
      refine wpAnyH_ready (rs := [14]) (by kernel_rfl) (by simp) ?_
      refine AllReadyH.cons (o := { dst := none, op := Op.store 94 (Operand.tmp 11) (Operand.tmp 162), type := 0, pos := "ref.go:54", after := #[{ on := 12, ground := Ground.data }, { on := 10, ground := Ground.data }, { on := 13, ground := Ground.chain }, { on := 0, ground := Ground.phase }, { on := 1, ground := Ground.phase }, { on := 2, ground := Ground.phase }, { on := 3, ground := Ground.phase }, { on := 4, ground := Ground.phase }, { on := 5, ground := Ground.phase }, { on := 6, ground := Ground.phase }, { on := 7, ground := Ground.phase }, { on := 8, ground := Ground.phase }, { on := 9, ground := Ground.phase }, { on := 10, ground := Ground.phase }, { on := 11, ground := Ground.phase }, { on := 12, ground := Ground.phase }, { on := 13, ground := Ground.phase }], guard := none }) rfl (fun K hK => ?_) AllReadyH.nil
      go_simp
      refine hK.out _ _ (hid_drew (hid_more (hid_more GZ (World.grownBy_alloc _ _ _)) (World.grownBy_alloc _ _ _))) (fun hH2 => ?_)
      clear hK K hHeld
      have hHeld := hH2
      clear hH2
      (try simp only [Act.put, List.setIfInBounds_toArray, List.set_cons_zero, List.set_cons_succ])
      refine wpAnyH_done (by kernel_rfl) ?_ _
      obtain ⟨k1, k2, k3, _⟩ := two_boxes wr #[.int .i64 y.a, .int .i64 y.b, .int .i64 y.ca, .int .i64 y.cb, .int .i64 y.cp] #[.int .i64 x.a, .int .i64 x.b, .int .i64 x.ca, .int .i64 x.cb, .int .i64 x.cp] 94 94
      have k4 : (((wr.alloc (.cells #[.int .i64 y.a, .int .i64 y.b, .int .i64 y.ca, .int .i64 y.cb, .int .i64 y.cp] 94)).alloc (.cells #[.int .i64 x.a, .int .i64 x.b, .int .i64 x.ca, .int .i64 x.cb, .int .i64 x.cp] 94)).drew).heap[wr.heap.size]? = some (.cells #[.int .i64 y.a, .int .i64 y.b, .int .i64 y.ca, .int .i64 y.cb, .int .i64 y.cp] 94 (0, 0)) := k1
      have k5 : (((wr.alloc (.cells #[.int .i64 y.a, .int .i64 y.b, .int .i64 y.ca, .int .i64 y.cb, .int .i64 y.cp] 94)).alloc (.cells #[.int .i64 x.a, .int .i64 x.b, .int .i64 x.ca, .int .i64 x.cb, .int .i64 x.cp] 94)).drew).heap[wr.heap.size + 1]? = some (.cells #[.int .i64 x.a, .int .i64 x.b, .int .i64 x.ca, .int .i64 x.cb, .int .i64 x.cp] 94 (0, 0)) := k2
      have HC : Hid (CK w ⟨R, L, pR, cR, some ⟨b, off, none⟩, cL⟩ (((wr.alloc (.cells #[.int .i64 y.a, .int .i64 y.b, .int .i64 y.ca, .int .i64 y.cb, .int .i64 y.cp] 94)).alloc (.cells #[.int .i64 x.a, .int .i64 x.b, .int .i64 x.ca, .int .i64 x.cb, .int .i64 x.cp] 94)).drew)) := Lib.hid (HF.out.1.keep (grown_drew k3))
      obtain ⟨d0, d1, d2, d3, d4⟩ := lk_facts k4
      obtain ⟨e0, e1, e2, e3, e4⟩ := lk_facts k5
      clear k1 k2 k3 k4 k5 hHeld
      generalize ((wr.alloc (.cells #[.int .i64 y.a, .int .i64 y.b, .int .i64 y.ca, .int .i64 y.cb, .int .i64 y.cp] 94)).alloc (.cells #[.int .i64 x.a, .int .i64 x.b, .int .i64 x.ca, .int .i64 x.cb, .int .i64 x.cp] 94)).drew = w9 at *
      rcases HCS.out with ⟨HE, h6⟩ | ⟨HE, h6⟩ | ⟨HE, h6, h7⟩ | ⟨HE, h6, h7⟩
      · have h8 : ¬ y.a < x.a := by omega
        have h9 : (x.a == y.a) = false := by simpa using (show ¬ x.a = y.a by omega)
        go_wp2_with fail
        exact OK32.out _ HC HE
      · go_wp2_with fail
        go_ret
        exact ⟨by unfold chk; rw [if_neg hc0.out, F1.out, F2.out, F3.out, F4.out, F5.out, ascL_hit HXY.out.1 HXY.out.2 HE.out]; rfl, HC.out.gr⟩
      · have h8 : ¬ y.a < x.a := by omega
        have h9 : (x.a == y.a) = true := by simpa using h6
        have h10 : ¬ y.b ≤ x.b := by omega
        clear h6
        go_wp2_with fail
        exact OK32.out _ HC HE
      · have h8 : ¬ y.a < x.a := by omega
        have h9 : (x.a == y.a) = true := by simpa using h6
        clear h6
        go_wp2_with fail
        go_ret
        exact ⟨by unfold chk; rw [if_neg hc0.out, F1.out, F2.out, F3.out, F4.out, F5.out, ascL_hit HXY.out.1 HXY.out.2 HE.out]; rfl, HC.out.gr⟩
  have F6 : Hid (ascB ltL L = true) := Lib.hid (ascL_end fun i x y hi hx hy => HN.out i x y (by omega) hx hy)
  clear HN
  have hltz : ¬ (k : Int) < (L.length : Int) := by omega
  go_wp2_with fail
  go_ret
  exact ⟨by unfold chk; rw [if_neg hc0.out, F1.out, F2.out, F3.out, F4.out, F5.out, F6.out]; rfl, C.out.gr⟩
end Go.Proofs.YtahafijpcmphaaaGreat

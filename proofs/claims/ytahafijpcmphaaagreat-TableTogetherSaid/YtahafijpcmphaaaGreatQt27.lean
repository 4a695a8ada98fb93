/- Parts of the proof, packed: TaToLaw. -/
import Derived.Test.YtahafijpcmphaaaGreatQt26
import Derived.Test.YtahafijpcmphaaaGreatQt22
/- tables: the law of CheckAll and Find. -/
namespace Go.Proofs.YtahafijpcmphaaaGreat
set_option maxRecDepth 100000
open Go.RowKit Bs
theorem smT_rows {r s n : Int} {M L : List Rw} (h : M.map rw0 = L.map rw0) : smT r s n M r s n L = true := by
 unfold smT
 rw [decide_eq_true_eq]
 exact ⟨rfl, rfl, rfl, h⟩
set_option maxHeartbeats 12800000 in
theorem togl_walk (v : Value) (raw : List Tb) (rp : Option Addr) (rc : Nat) (r : Int) (w : World) (hv : IntsIn w v) (hR : RdF w (· < w.heap.size) (.slice rp raw.length rc) raw.length (raw.flatMap tbC)) (hT : ∀ x ∈ raw, TbIn w x) (hm : raw.length ≤ 9223372036854775807) :
  Calls Tryz.prog 4 #[v, .slice rp raw.length rc, .int .i64 r] w fun e w' => e = .returned (.bool true) ∧ w.grownBy w' none := by
 have HV := Lib.hid hv
 have HRAW : Hid (RdT w (· < w.heap.size) rp rc raw ∧ ∀ x ∈ raw, TbIn w x) := Lib.hid ⟨⟨hR, fun x hx => ⟨(hT x hx).rd, (hT x hx).hl⟩⟩, hT⟩
 obtain ⟨ii, hii, hi0, hi1, hi2⟩ := info_parts info_tabT
 clear hv hR hT
 go_enter Tryz.func4, Tryz.ntmps4
 go_wp2_with fail
 refine (new_any v w HV.out).mono ?_
 rintro e w1 ⟨rfl, hg1, hT1⟩
 have H1 := Lib.hid (And.intro hg1 hT1)
 clear hg1 hT1 HV
 obtain ⟨a, ha⟩ : ∃ a, w.heap.size = a := ⟨_, rfl⟩
 have HA := Lib.hid ha
 rw [ha] at H1 ⊢
 clear ha
 go_wp2_with fail
 refine (tdom_any a 5 (by omega) (by omega) w1 H1.out.2).mono ?_
 rintro e w2 ⟨T, s, n, E, pE, cE, A0, p0, c0, rfl, hD, hTg, hE, hown, htab, hs⟩
 obtain ⟨R, L0, pR, cR, pL, cL⟩ := T
 have HTN0 : Hid ((∀ x ∈ A0, TN x) ∧ A0.length ≤ 5) := Lib.hid ⟨fun x hx => by
  have hok : okT R L0 = true := by unfold okT; rw [hD.ck]; rfl
  obtain ⟨b1, b2, b3, -, b5⟩ := all_valid hD.all hok hD.vp hx
  have hck := tab_valid b5 hok (s := x.s) (n := x.n) (by rw [b1, b2]; exact hD.vp) b3
  exact ⟨by have := (ck_ok hck).2.2.1; omega, fun y hy => ⟨(htab x hx).hy y hy, by have := (row_asc hck hy).2.1; omega⟩⟩, Nat.le_trans hD.all.len hD.len.2⟩
 have H3 : Hid (TD w a w1.heap.size (.slice p0 A0.length c0) A0 ((w2.alloc (.cells #[.slice pR R.length cR, .slice pL L0.length cL] 45)).alloc (.cells #[.int .i64 s, .int .i64 n, .slice pE E.length cE] 48))) := Lib.hid ((show TD w a w1.heap.size (.slice p0 A0.length c0) A0 w2 from ⟨hown, htab, hs.2, grown_new H1.out.1 hs.1 (by rw [HA.out]; exact Nat.le_refl _), by rw [HA.out]; exact Nat.le_refl _, H1.out.2.lt, hs.1.size⟩).keep (two_boxes w2 #[.slice pR R.length cR, .slice pL L0.length cL] #[.int .i64 s, .int .i64 n, .slice pE E.length cE] 45 48).2.2.1)
 clear hD hTg hE hown htab hs H1
 go_upto_region 3 with fail
 generalize (w2.alloc _).alloc _ = w3 at *
 generalize w1.heap.size = LO at *
 go_wp2_with fail
 refine (one_any a 2 (by unfold I64; omega) w3 H3.out.tp).mono ?_
 rintro e w4 ⟨z, rfl, hs⟩
 have H4 := Lib.hid (H3.out.tape hs)
 clear hs H3
 go_upto_if 29 with fail
 go_cut [10] from 30 to 34 (fun v wx => ∃ (A : List Tb) (p : Option Addr) (c : Nat), v = .slice p A.length c ∧ A.length ≤ 100 ∧ Hid (∀ x ∈ A, TN x) ∧ Hid (TD w a LO (.slice p A.length c) A wx))
 case first =>
  cases z
  case false =>
   go_wp2_with fail
   go_meet
   exact ⟨A0, p0, c0, rfl, by have := HTN0.out.2; omega, Lib.hid HTN0.out.1, H4⟩
  go_wp2_with fail
  refine (ttab1_any a 2 (by omega) (by unfold I64; omega) w4 H4.out.tp).mono ?_
  rintro e w5 ⟨r1, s1, n1, L1, p1, c1, rfl, hRd, hn, hc, hy, -, hl, hnx, hs⟩
  have H5 := Lib.hid (H4.out.tape hs)
  have hvl := fun b => (H4.out.own.lt b)
  have hl4 := H4.out.lo
  have HX : Hid (TbX LO w5 (.slice p0 A0.length c0) ⟨r1, s1, n1, L1, p1, c1⟩ ∧ TN ⟨r1, s1, n1, L1, p1, c1⟩) := Lib.hid ⟨⟨hRd.mono (fun b hb => ⟨by have := hb.1; omega, hb.2, fun e => by have := (hvl b e.symm).2; have := hb.1; omega⟩), hn, hc, hy⟩, ⟨by show L1.length ≤ 1000; omega, fun y hy2 => ⟨hy y hy2, Nat.le_trans (hnx y hy2) (by decide)⟩⟩⟩
  clear hRd hn hc hy hl hnx hs hvl hl4 H4
  have hA5 := HTN0.out.2
  go_wp2_with (at_builtin; refine hold_on ?_)
  refine Lib.hid ?_
  refine wpList_append_lies _ rfl _ _ 29 rfl LO 25 ii (.agg #[.int .i64 0, .int .i64 0, .int .i64 0, .slice none 0 0]) 4 48 Tryz.underlying29 hii hi0 hi1 hi2 rfl (by decide) (.slice p0 A0.length c0) A0.length (A0.flatMap tbC) rfl (H5.out.own.alloc _) ⟨w5.heap.size, 0, none⟩ 1 1 (tbC ⟨r1, s1, n1, L1, p1, c1⟩) rfl rfl (tb_row w5 ⟨r1, s1, n1, L1, p1, c1⟩ _) (tb_one ⟨r1, s1, n1, L1, p1, c1⟩) (by decide) (by unfold maxLen; omega) (by omega) (by have := H5.out.lo; simp; omega) _ rfl ?_
  intro g cap w6 hown6 hgrow hat hlt6
  have ga := World.grownBy_alloc w5 (.cells #[.int .i64 r1, .int .i64 s1, .int .i64 n1, .slice p1 L1.length c1] 25) none
  have hv : (Value.slice (some ⟨g, 0, none⟩) (A0.length + 1) cap).ownBlock = (Value.slice p0 A0.length c0).ownBlock ∨ ∀ b, some b = (Value.slice (some ⟨g, 0, none⟩) (A0.length + 1) cap).ownBlock → (w5.alloc (.cells #[.int .i64 r1, .int .i64 s1, .int .i64 n1, .slice p1 L1.length c1] 25)).heap.size ≤ b := by
   rcases hat with h | h
   ·exact Or.inl h.symm
   ·refine Or.inr fun b e => ?_
    have e2 : some b = some g := e
    have := Option.some.inj e2
    rw [this, h]
    exact Nat.le_refl _
  have K6 := Lib.hid ((H5.out.keep ga).push (x := ⟨r1, s1, n1, L1, p1, c1⟩) (v' := .slice (some ⟨g, 0, none⟩) (A0.length + 1) cap) (HX.out.1.keep ga) (by rw [List.length_append, List.flatMap_append]; simpa [tbC] using hown6) hgrow hv)
  have HLL : Hid ((A0 ++ [(⟨r1, s1, n1, L1, p1, c1⟩ : Tb)]).length = A0.length + 1) := Lib.hid (by rw [List.length_append]; rfl)
  clear hown6 hgrow hat hlt6 ga hv H5
  go_wp2_with fail
  go_meet
  exact ⟨A0 ++ [⟨r1, s1, n1, L1, p1, c1⟩], some ⟨g, 0, none⟩, cap, by rw [HLL.out], by rw [HLL.out]; omega, Lib.hid (fun x hx => by
   rcases List.mem_append.1 hx with hm | hm
   ·exact HTN0.out.1 x hm
   ·rw [List.mem_singleton.1 hm]; exact HX.out.2), by rw [HLL.out]; exact K6⟩
 case rest =>
 clear H4 HTN0
 obtain ⟨A, p, c, rfl, hA100, HTN, H5⟩ := hcut
 obtain ⟨w5, hw5⟩ : ∃ w5, w5 = wc := ⟨_, rfl⟩
 rw [← hw5] at H5 ⊢
 clear hw5
 go_upto_region 5 with fail
 go_cut [41] from 35 to 41 (fun v wx => ∃ z, v = .bool z ∧ (z = true → 1 < A.length) ∧ Hid (TD w a LO (.slice p A.length c) A wx))
 case first =>
  by_cases h1 : 1 < A.length
  ·have h1' : (1 : Int) < (A.length : Int) := by omega
   go_wp2_with fail
   refine (one_any a 4 (by unfold I64; omega) w5 H5.out.tp).mono ?_
   rintro e w6 ⟨z2, rfl, hs⟩
   have H6 := Lib.hid (H5.out.tape hs)
   clear hs H5
   go_wp2_with fail
   go_meet
   exact ⟨z2, rfl, fun _ => h1, H6⟩
  ·have h1' : ¬ (1 : Int) < (A.length : Int) := by omega
   go_wp2_with fail
   go_meet
   exact ⟨false, rfl, fun h => (by cases h), H5⟩
 case rest =>
 clear H5
 obtain ⟨z2, rfl, hz2, H5⟩ := hcut
 have HZ2 := Lib.hid hz2
 clear hz2
 obtain ⟨w6, hw6⟩ : ∃ w6, w6 = wc := ⟨_, rfl⟩
 rw [← hw6] at H5 ⊢
 clear hw6
 go_upto_if 41 with fail
 go_cut [] from 42 to 51 (fun wx => ∃ A2 : List Tb, A2.length = A.length ∧ Hid (∀ x ∈ A2, TN x) ∧ Hid (RdT wx (fun b => LO ≤ b ∧ b < wx.heap.size) p c A2 ∧ Tp wx a ∧ w.grownBy wx none ∧ (w.heap.size ≤ a ∧ a < LO ∧ LO ≤ wx.heap.size)))
 case first =>
  cases z2
  case false =>
   go_wp2_with fail
   go_meet
   exact ⟨A, rfl, HTN, Lib.hid ⟨H5.out.rdt rfl, H5.out.tp, H5.out.gr, H5.out.lo⟩⟩
  have h1 := HZ2.out rfl
  obtain ⟨x0, x1, rest, rfl⟩ : ∃ x0 x1 rest, A = x0 :: x1 :: rest := by
   match A, h1 with
   | x0 :: x1 :: rest, _ => exact ⟨x0, x1, rest, rfl⟩
  clear h1
  have hlen : (x0 :: x1 :: rest).length = rest.length + 2 := rfl
  rcases own_formF H5.out.own with ⟨e, h0⟩ | ⟨g, cap, e, -, -⟩
  ·exact absurd h0 (by rw [hlen]; omega)
  ·injection e with e1 e2 e3
   subst e1
   subst e3
   have HCG := Lib.hid (cellsG_own H5.out.own)
   have HTN2 : Hid (∀ x ∈ x1 :: x0 :: rest, TN x) := Lib.hid (fun x hx => HTN.out x (by
    rcases List.mem_cons.1 hx with rfl | hx
    ·simp
    ·rcases List.mem_cons.1 hx with rfl | hx
     ·simp
     ·simp [hx]))
   have hn0 : (0 : Int) < (((x0 :: x1 :: rest).length : Nat) : Int) := by rw [hlen]; omega
   have hn1 : (1 : Int) < (((x0 :: x1 :: rest).length : Nat) : Int) := by rw [hlen]; omega
   obtain ⟨NL, hNL⟩ : ∃ NL, (x0 :: x1 :: rest).length = NL := ⟨_, rfl⟩
   have HNL := Lib.hid hNL
   rw [hNL] at hn0 hn1 ⊢
   have hm0 : 0 < NL := by omega
   have hm1 : 1 < NL := by omega
   clear hNL hlen
   go_upto_region 6 with fail
   refine region_until2 (S := fun w' => Hid (w6.grownBy w' none ∧ CellsG w' g ((x0 :: x1 :: rest).flatMap tbC))) (fun j => j == 9 || j == 11) (by kernel_rfl) (Lib.hid ⟨grown_drew (grown_refl _ none), HCG.out.drew⟩) (fun hHeld => ?_)
   refine zW (i := 0) (v := ?_) rfl ?_ hHeld ?_
   rotate_left 1
   ·intro u hSu
    go_simp
    first | done | with_reducible rfl
   try simp only [Act.put, zA, zB, zC]
   refine zW (i := 2) (v := ?_) rfl ?_ hHeld ?_
   rotate_left 1
   ·intro u hSu
    go_simp
    first | done | with_reducible rfl
   try simp only [Act.put, zA, zB, zC]
   refine zW (i := 3) (v := ?_) rfl ?_ hHeld ?_
   rotate_left 1
   ·intro u hSu
    go_simp
    first | done | with_reducible rfl
   try simp only [Act.put, zA, zB, zC]
   refine zW (i := 4) (v := ?_) rfl ?_ hHeld ?_
   rotate_left 1
   ·intro u hSu
    obtain ⟨c0, c1, c2, c3, c4, c5, c6, c7⟩ := (show u.cell? ⟨g, 0, none⟩ = some (.int .i64 x0.r) ∧ u.cell? ⟨g, 1, none⟩ = some (.int .i64 x0.s) ∧ u.cell? ⟨g, 2, none⟩ = some (.int .i64 x0.n) ∧ u.cell? ⟨g, 3, none⟩ = some (.slice x0.p x0.L.length x0.c) ∧ u.cell? ⟨g, 4, none⟩ = some (.int .i64 x1.r) ∧ u.cell? ⟨g, 5, none⟩ = some (.int .i64 x1.s) ∧ u.cell? ⟨g, 6, none⟩ = some (.int .i64 x1.n) ∧ u.cell? ⟨g, 7, none⟩ = some (.slice x1.p x1.L.length x1.c) from ⟨(hSu.out.2.cell (i := 0) rfl).1, (hSu.out.2.cell (i := 1) rfl).1, (hSu.out.2.cell (i := 2) rfl).1, (hSu.out.2.cell (i := 3) rfl).1, (hSu.out.2.cell (i := 4) rfl).1, (hSu.out.2.cell (i := 5) rfl).1, (hSu.out.2.cell (i := 6) rfl).1, (hSu.out.2.cell (i := 7) rfl).1⟩)
    go_simp
    first | done | with_reducible rfl
   try simp only [Act.put, zA, zB, zC]
   refine zW (i := 5) (v := ?_) rfl ?_ hHeld ?_
   rotate_left 1
   ·intro u hSu
    go_simp
    first | done | with_reducible rfl
   try simp only [Act.put, zA, zB, zC]
   refine zW (i := 6) (v := ?_) rfl ?_ hHeld ?_
   rotate_left 1
   ·intro u hSu
    go_simp
    first | done | with_reducible rfl
   try simp only [Act.put, zA, zB, zC]
   refine zW (i := 7) (v := ?_) rfl ?_ hHeld ?_
   rotate_left 1
   ·intro u hSu
    obtain ⟨c0, c1, c2, c3, c4, c5, c6, c7⟩ := (show u.cell? ⟨g, 0, none⟩ = some (.int .i64 x0.r) ∧ u.cell? ⟨g, 1, none⟩ = some (.int .i64 x0.s) ∧ u.cell? ⟨g, 2, none⟩ = some (.int .i64 x0.n) ∧ u.cell? ⟨g, 3, none⟩ = some (.slice x0.p x0.L.length x0.c) ∧ u.cell? ⟨g, 4, none⟩ = some (.int .i64 x1.r) ∧ u.cell? ⟨g, 5, none⟩ = some (.int .i64 x1.s) ∧ u.cell? ⟨g, 6, none⟩ = some (.int .i64 x1.n) ∧ u.cell? ⟨g, 7, none⟩ = some (.slice x1.p x1.L.length x1.c) from ⟨(hSu.out.2.cell (i := 0) rfl).1, (hSu.out.2.cell (i := 1) rfl).1, (hSu.out.2.cell (i := 2) rfl).1, (hSu.out.2.cell (i := 3) rfl).1, (hSu.out.2.cell (i := 4) rfl).1, (hSu.out.2.cell (i := 5) rfl).1, (hSu.out.2.cell (i := 6) rfl).1, (hSu.out.2.cell (i := 7) rfl).1⟩)
    go_simp
    first | done | with_reducible rfl
   try simp only [Act.put, zA, zB, zC]
   refine zW (i := 8) (v := ?_) rfl ?_ hHeld ?_
   rotate_left 1
   ·intro u hSu
    go_simp
    first | done | with_reducible rfl
   try simp only [Act.put, zA, zB, zC]
   refine anyV_ready (rs := [1, 9]) (by kernel_rfl) (by simp) ?_
   refine EachV.cons (o := ⟨_, _, _, _, _, _⟩) rfl (fun Kz hK => ?_) (EachV.cons (o := ⟨_, _, _, _, _, _⟩) rfl (fun Kz hK => ?_) EachV.nil)
   ·go_simp
    refine hK.out _ _ (fun _ h => h) (fun _ => ?_)
    clear hK Kz
    try simp only [Act.put, zA, zB, zC]
    refine anyV_ready (rs := [9]) (by kernel_rfl) (by simp) ?_
    refine EachV.cons (o := ⟨_, _, _, _, _, _⟩) rfl (fun Kz hK => ?_) EachV.nil
    obtain ⟨c0, c1, c2, c3, f0, f1, f2, f3⟩ := (show w6.cell? ⟨g, 0, none⟩ = some (.int .i64 x0.r) ∧ w6.cell? ⟨g, 1, none⟩ = some (.int .i64 x0.s) ∧ w6.cell? ⟨g, 2, none⟩ = some (.int .i64 x0.n) ∧ w6.cell? ⟨g, 3, none⟩ = some (.slice x0.p x0.L.length x0.c) ∧ w6.frozen? ⟨g, 0, none⟩ = false ∧ w6.frozen? ⟨g, 1, none⟩ = false ∧ w6.frozen? ⟨g, 2, none⟩ = false ∧ w6.frozen? ⟨g, 3, none⟩ = false from ⟨(HCG.out.cell (i := 0) rfl).1, (HCG.out.cell (i := 1) rfl).1, (HCG.out.cell (i := 2) rfl).1, (HCG.out.cell (i := 3) rfl).1, (HCG.out.cell (i := 0) (u := .int .i64 x0.r) rfl).2, (HCG.out.cell (i := 1) (u := .int .i64 x0.s) rfl).2, (HCG.out.cell (i := 2) (u := .int .i64 x0.n) rfl).2, (HCG.out.cell (i := 3) (u := .slice x0.p x0.L.length x0.c) rfl).2⟩)
    go_simp
    have H9 : Hid (CellsG (sw4 w6 g 0 x1).drew g ((x1 :: x1 :: rest).flatMap tbC) ∧ w6.grownBy (sw4 w6 g 0 x1).drew (some g)) := Lib.hid ⟨(sw_first HCG.out).drew, grown_drew (sw4_grown w6 g 0 x1)⟩
    change _ at hK
    clear c0 c1 c2 c3 f0 f1 f2 f3
    refine hK.out _ _ (fun h => by cases h) (fun _ => ?_)
    clear hK Kz
    try simp only [Act.put, zA, zB, zC]
    refine anyV_ready (rs := [10]) (by kernel_rfl) (by simp) ?_
    refine EachV.cons (o := ⟨_, _, _, _, _, _⟩) rfl (fun Kz hK => ?_) EachV.nil
    go_simp
    refine hK.out _ _ (fun _ h => h) (fun _ => ?_)
    clear hK Kz
    try simp only [Act.put, zA, zB, zC]
    refine anyV_ready (rs := [11]) (by kernel_rfl) (by simp) ?_
    refine EachV.cons (o := ⟨_, _, _, _, _, _⟩) rfl (fun Kz hK => ?_) EachV.nil
    have hw16 := H9.out
    clear hw16
    obtain ⟨w16, hw16⟩ : ∃ w16, w16 = (sw4 w6 g 0 x1).drew := ⟨_, rfl⟩
    unfold sw4 at hw16
    simp only [Nat.zero_add] at hw16
    rw [← hw16]
    have H9 : Hid (CellsG w16 g ((x1 :: x1 :: rest).flatMap tbC) ∧ w6.grownBy w16 (some g)) := Lib.hid (by rw [hw16]; exact H9.out)
    clear hw16
    obtain ⟨c4, c5, c6, c7, f4, f5, f6, f7⟩ := (show w16.cell? ⟨g, 4, none⟩ = some (.int .i64 x1.r) ∧ w16.cell? ⟨g, 5, none⟩ = some (.int .i64 x1.s) ∧ w16.cell? ⟨g, 6, none⟩ = some (.int .i64 x1.n) ∧ w16.cell? ⟨g, 7, none⟩ = some (.slice x1.p x1.L.length x1.c) ∧ w16.frozen? ⟨g, 4, none⟩ = false ∧ w16.frozen? ⟨g, 5, none⟩ = false ∧ w16.frozen? ⟨g, 6, none⟩ = false ∧ w16.frozen? ⟨g, 7, none⟩ = false from ⟨(H9.out.1.cell (i := 4) rfl).1, (H9.out.1.cell (i := 5) rfl).1, (H9.out.1.cell (i := 6) rfl).1, (H9.out.1.cell (i := 7) rfl).1, (H9.out.1.cell (i := 4) (u := .int .i64 x1.r) rfl).2, (H9.out.1.cell (i := 5) (u := .int .i64 x1.s) rfl).2, (H9.out.1.cell (i := 6) (u := .int .i64 x1.n) rfl).2, (H9.out.1.cell (i := 7) (u := .slice x1.p x1.L.length x1.c) rfl).2⟩)
    go_simp
    have H11 : Hid (CellsG (sw4 w16 g 4 x0) g ((x1 :: x0 :: rest).flatMap tbC) ∧ w6.grownBy (sw4 w16 g 4 x0) (some g)) := Lib.hid ⟨sw_second H9.out.1, grown_trans H9.out.2 (sw4_grown w16 g 4 x0)⟩
    refine hK.out _ _ (fun h => by cases h) (fun _ => ?_)
    clear hK Kz
    try simp only [Act.put, zA, zB, zC]
    refine anyV_done (by kernel_rfl) ?_ _
    clear c4 c5 c6 c7 f4 f5 f6 f7 hHeld
    go_wp2_with fail
    have hNL := HNL.out
    clear HNL
    subst hNL
    go_meet
    obtain ⟨s1, s2, s3⟩ := rdT_swap H5.out H11.out.1 H11.out.2
    exact ⟨x1 :: x0 :: rest, rfl, HTN2, Lib.hid ⟨s1, s2, s3, H5.out.lo.1, H5.out.lo.2.1, Nat.le_trans H5.out.lo.2.2 H11.out.2.size⟩⟩
   ·obtain ⟨c0, c1, c2, c3, f0, f1, f2, f3⟩ := (show w6.cell? ⟨g, 0, none⟩ = some (.int .i64 x0.r) ∧ w6.cell? ⟨g, 1, none⟩ = some (.int .i64 x0.s) ∧ w6.cell? ⟨g, 2, none⟩ = some (.int .i64 x0.n) ∧ w6.cell? ⟨g, 3, none⟩ = some (.slice x0.p x0.L.length x0.c) ∧ w6.frozen? ⟨g, 0, none⟩ = false ∧ w6.frozen? ⟨g, 1, none⟩ = false ∧ w6.frozen? ⟨g, 2, none⟩ = false ∧ w6.frozen? ⟨g, 3, none⟩ = false from ⟨(HCG.out.cell (i := 0) rfl).1, (HCG.out.cell (i := 1) rfl).1, (HCG.out.cell (i := 2) rfl).1, (HCG.out.cell (i := 3) rfl).1, (HCG.out.cell (i := 0) (u := .int .i64 x0.r) rfl).2, (HCG.out.cell (i := 1) (u := .int .i64 x0.s) rfl).2, (HCG.out.cell (i := 2) (u := .int .i64 x0.n) rfl).2, (HCG.out.cell (i := 3) (u := .slice x0.p x0.L.length x0.c) rfl).2⟩)
    go_simp
    have H9 : Hid (CellsG (sw4 w6 g 0 x1).drew g ((x1 :: x1 :: rest).flatMap tbC) ∧ w6.grownBy (sw4 w6 g 0 x1).drew (some g)) := Lib.hid ⟨(sw_first HCG.out).drew, grown_drew (sw4_grown w6 g 0 x1)⟩
    change _ at hK
    clear c0 c1 c2 c3 f0 f1 f2 f3
    refine hK.out _ _ (fun h => by cases h) (fun _ => ?_)
    clear hK Kz
    try simp only [Act.put, zA, zB, zC]
    refine anyV_ready (rs := [1]) (by kernel_rfl) (by simp) ?_
    refine EachV.cons (o := ⟨_, _, _, _, _, _⟩) rfl (fun Kz hK => ?_) EachV.nil
    go_simp
    refine hK.out _ _ (fun _ h => h) (fun _ => ?_)
    clear hK Kz
    try simp only [Act.put, zA, zB, zC]
    refine anyV_ready (rs := [10]) (by kernel_rfl) (by simp) ?_
    refine EachV.cons (o := ⟨_, _, _, _, _, _⟩) rfl (fun Kz hK => ?_) EachV.nil
    go_simp
    refine hK.out _ _ (fun _ h => h) (fun _ => ?_)
    clear hK Kz
    try simp only [Act.put, zA, zB, zC]
    refine anyV_ready (rs := [11]) (by kernel_rfl) (by simp) ?_
    refine EachV.cons (o := ⟨_, _, _, _, _, _⟩) rfl (fun Kz hK => ?_) EachV.nil
    have hw16 := H9.out
    clear hw16
    obtain ⟨w16, hw16⟩ : ∃ w16, w16 = (sw4 w6 g 0 x1).drew := ⟨_, rfl⟩
    unfold sw4 at hw16
    simp only [Nat.zero_add] at hw16
    rw [← hw16]
    have H9 : Hid (CellsG w16 g ((x1 :: x1 :: rest).flatMap tbC) ∧ w6.grownBy w16 (some g)) := Lib.hid (by rw [hw16]; exact H9.out)
    clear hw16
    obtain ⟨c4, c5, c6, c7, f4, f5, f6, f7⟩ := (show w16.cell? ⟨g, 4, none⟩ = some (.int .i64 x1.r) ∧ w16.cell? ⟨g, 5, none⟩ = some (.int .i64 x1.s) ∧ w16.cell? ⟨g, 6, none⟩ = some (.int .i64 x1.n) ∧ w16.cell? ⟨g, 7, none⟩ = some (.slice x1.p x1.L.length x1.c) ∧ w16.frozen? ⟨g, 4, none⟩ = false ∧ w16.frozen? ⟨g, 5, none⟩ = false ∧ w16.frozen? ⟨g, 6, none⟩ = false ∧ w16.frozen? ⟨g, 7, none⟩ = false from ⟨(H9.out.1.cell (i := 4) rfl).1, (H9.out.1.cell (i := 5) rfl).1, (H9.out.1.cell (i := 6) rfl).1, (H9.out.1.cell (i := 7) rfl).1, (H9.out.1.cell (i := 4) (u := .int .i64 x1.r) rfl).2, (H9.out.1.cell (i := 5) (u := .int .i64 x1.s) rfl).2, (H9.out.1.cell (i := 6) (u := .int .i64 x1.n) rfl).2, (H9.out.1.cell (i := 7) (u := .slice x1.p x1.L.length x1.c) rfl).2⟩)
    go_simp
    have H11 : Hid (CellsG (sw4 w16 g 4 x0) g ((x1 :: x0 :: rest).flatMap tbC) ∧ w6.grownBy (sw4 w16 g 4 x0) (some g)) := Lib.hid ⟨sw_second H9.out.1, grown_trans H9.out.2 (sw4_grown w16 g 4 x0)⟩
    refine hK.out _ _ (fun h => by cases h) (fun _ => ?_)
    clear hK Kz
    try simp only [Act.put, zA, zB, zC]
    refine anyV_done (by kernel_rfl) ?_ _
    clear c4 c5 c6 c7 f4 f5 f6 f7 hHeld
    go_wp2_with fail
    have hNL := HNL.out
    clear HNL
    subst hNL
    go_meet
    obtain ⟨s1, s2, s3⟩ := rdT_swap H5.out H11.out.1 H11.out.2
    exact ⟨x1 :: x0 :: rest, rfl, HTN2, Lib.hid ⟨s1, s2, s3, H5.out.lo.1, H5.out.lo.2.1, Nat.le_trans H5.out.lo.2.2 H11.out.2.size⟩⟩
 case rest =>
 clear H5 HTN
 obtain ⟨A2, hA2, HTN, H7⟩ := hcut
 obtain ⟨w7, hw7⟩ : ∃ w7, w7 = wc := ⟨_, rfl⟩
 rw [← hw7] at H7 ⊢
 clear hw7
 rw [← hA2] at hA100 ⊢
 clear hA2 HZ2
 have H8 : Hid (TG w a w7.heap.size (w7.heap.size + 1) p c A2 rp rc raw (w7.alloc (.cells #[.slice p A2.length c, .slice rp raw.length rc] 29))) := Lib.hid (by
  obtain ⟨k1, k2, k3⟩ := alloc_row (w := w7) #[.slice p A2.length c, .slice rp raw.length rc] 29 rfl
  obtain ⟨h1, h2, h3, h4⟩ := H7.out
  have hr := HRAW.out.1.keep (grown_trans h3 k2)
  exact ⟨k1, ⟨(h1.keep k2).rd.mono (fun b hb => ⟨by omega, by omega⟩), fun x hx => ⟨((h1.keep k2).ok x hx).1.mono (fun b hb => ⟨by omega, by omega⟩), ((h1.keep k2).ok x hx).2⟩⟩, ⟨hr.rd.mono (fun b hb => ⟨by omega, by omega⟩), fun x hx => ⟨(hr.ok x hx).1.mono (fun b hb => ⟨by omega, by omega⟩), (hr.ok x hx).2⟩⟩, h2.keep k2, grown_trans h3 k2, by omega, by omega, by omega, by omega⟩)
 clear H7
 go_upto_region 8 with fail
 generalize w7.alloc _ = w8 at *
 generalize w7.heap.size = D at *
 generalize D + 1 = Z at *
 go_wp2_with fail
 go_loopw [12] (fun v wr => ∃ i : Nat, i ≤ 2 ∧ v = .int .i64 (i : Int) ∧ Hid (TG w a D Z p c A2 rp rc raw wr)) (fun v _ => 2 - (RowKit.intOf v).toNat)
 case atStart => exact ⟨0, by omega, rfl, H8⟩
 case round =>
 clear H8
 obtain ⟨i, hi, rfl, K⟩ := hrel
 obtain ⟨w9, hw9⟩ : ∃ w9, w9 = wr := ⟨_, rfl⟩
 rw [← hw9] at K ⊢
 clear hw9
 by_cases hgo : i < 2 ∧ raw.length ≤ 60
 case neg =>
  by_cases hlt2 : i < 2
  ·have hX3 : ¬ raw.length ≤ 60 := fun h => hgo ⟨hlt2, h⟩
   have hX3' : ¬ (raw.length : Int) ≤ 60 := by omega
   have hi2' : (i : Int) < 2 := by omega
   clear hgo
   go_wp2_with fail
   refine (awk11_any w9).mono ?_
   rintro e w10 ⟨rfl, hg⟩
   have G := Lib.hid (grown_trans K.out.gr hg)
   clear hg K
   simp only
   go_wp2_with fail
   go_ret
   exact ⟨rfl, G.out⟩
  ·have hi2' : ¬ (i : Int) < 2 := by omega
   clear hgo
   go_wp2_with fail
   refine (awk11_any w9).mono ?_
   rintro e w10 ⟨rfl, hg⟩
   have G := Lib.hid (grown_trans K.out.gr hg)
   clear hg K
   simp only
   go_wp2_with fail
   go_ret
   exact ⟨rfl, G.out⟩
 have hi2 : (i : Int) < 2 := by omega
 have hi0' : (0 : Int) ≤ (i : Int) := by omega
 have hr60 : raw.length ≤ 60 := hgo.2
 have hr60' : (raw.length : Int) ≤ 60 := by omega
 have hi2n := hgo.1
 clear hgo
 go_upto_region 11 with fail
 go_wp2_with fail
 go_loopw [13] (fun v wr => ∃ k : Nat, k ≤ raw.length ∧ v = .int .i64 (k : Int) ∧ Hid (∀ (j : Nat) (x : Tb), j < k → raw[j]? = some x → bgT x.L = false) ∧ Hid (TG w a D Z p c A2 rp rc raw wr)) (fun v _ => raw.length - (RowKit.intOf v).toNat)
 case atStart => exact ⟨0, Nat.zero_le _, rfl, Lib.hid (fun j x h => absurd h (Nat.not_lt_zero _)), K⟩
 case round =>
 clear K
 obtain ⟨k, hk, rfl, HNBG, K⟩ := hrel
 obtain ⟨w10, hw10⟩ : ∃ w10, w10 = wr := ⟨_, rfl⟩
 rw [← hw10] at K ⊢
 clear hw10
 by_cases hltk : k < raw.length
 case pos =>
  have hltk' : (k : Int) < (raw.length : Int) := by omega
  have hk0 : (0 : Int) ≤ (k : Int) := by omega
  obtain ⟨x, hx⟩ : ∃ x, raw[k]? = some x := ⟨_, List.getElem?_eq_getElem hltk⟩
  obtain ⟨-, b, off, rfl, -, -⟩ := tb_cells K.out.r2.rd (by omega)
  obtain ⟨a0, a1, a2, a3⟩ := rdT_cells K.out.r2 hx
  have HXK := Lib.hid (K.out.r2.ok x (List.mem_of_getElem? hx))
  have HX := Lib.hid hx
  clear hx
  go_wp2_with fail
  refine (big11_any x.r x.s x.n x.p x.c x.L _ w10 HXK.out.1 HXK.out.2).mono ?_
  rintro e w11 ⟨rfl, hg⟩
  have K11 := Lib.hid (K.out.keep hg)
  clear hg K a0 a1 a2 a3 HXK
  simp only
  obtain ⟨bg, hbg⟩ : ∃ bg, bgT x.L = bg := ⟨_, rfl⟩
  have HBG := Lib.hid hbg
  rw [hbg]
  clear hbg
  cases bg
  case true =>
   go_wp2_with fail
   refine (awk11_any w11).mono ?_
   rintro e w12 ⟨rfl, hg⟩
   have G := Lib.hid (grown_trans K11.out.gr hg)
   clear hg K11
   simp only
   go_wp2_with fail
   go_ret
   exact ⟨rfl, G.out⟩
  have HNB2 : Hid (∀ (j : Nat) (x : Tb), j < k + 1 → raw[j]? = some x → bgT x.L = false) := Lib.hid (fun j y hj hy => by
   rcases Nat.lt_or_ge j k with h | h
   ·exact HNBG.out j y h hy
   ·obtain rfl : j = k := by omega
    rw [HX.out] at hy
    obtain rfl := Option.some.inj hy
    exact HBG.out)
  clear HNBG
  go_wp2_with fail
  exact ⟨⟨k + 1, by omega, congrArg _ (by omega), HNB2, K11⟩, by simp only [RowKit.intOf]; omega⟩
 obtain rfl : k = raw.length := by omega
 have hnl : ¬ (raw.length : Int) < (raw.length : Int) := by omega
 have HTNR : Hid (∀ x ∈ raw, TN x) := Lib.hid (fun x hx => by
  obtain ⟨j, hj⟩ := List.mem_iff_getElem?.1 hx
  have hb := bg_not (HNBG.out j x (List.getElem?_eq_some_iff.1 hj).1 hj)
  exact ⟨by have := hb.1; omega, fun y hy => ⟨(HRAW.out.2 x hx).hy y hy, by have := hb.2 y hy; omega⟩⟩)
 clear HNBG hk hltk
 obtain ⟨q, cc, Ls, HLS⟩ : ∃ (q : Option Addr) (cc : Nat) (Ls : List Tb), Hid ((∀ u, TG w a D Z p c A2 rp rc raw u → u.cell? ⟨D, i, none⟩ = some (.slice q Ls.length cc) ∧ RdT u (fun b => b ≠ a ∧ b < Z) q cc Ls) ∧ (∀ x ∈ Ls, TN x) ∧ Ls.length ≤ 100) := by
  rcases i with _ | _ | i
  ·exact ⟨p, c, A2, Lib.hid ⟨fun u h => ⟨(row_cells h.bD).1, h.r1⟩, HTN.out, hA100⟩⟩
  ·exact ⟨rp, rc, raw, Lib.hid ⟨fun u h => ⟨(row_cells h.bD).2, h.r2⟩, HTNR.out, by omega⟩⟩
  ·omega
 have hL100 := HLS.out.2.2
 go_upto_region 16 with fail
 clear hnl
 refine wp_region_held_drew (S := fun w' => Hid (TG w a D Z p c A2 rp rc raw w')) (by kernel_rfl) (Lib.hid (K.out.keep (grown_drew (grown_refl _ none)))) (fun hHeld => ?_)
 refine zT (i := 0) (v := ?_) rfl ?_ hHeld ?_
 rotate_left 1
 ·intro u hSu
  go_simp
  first | done | with_reducible rfl
 try simp only [Act.put, zA, zB, zC]
 refine zT (i := 1) (v := ?_) rfl ?_ hHeld ?_
 rotate_left 1
 ·intro u hSu
  go_simp
  first | done | with_reducible rfl
 try simp only [Act.put, zA, zB, zC]
 refine zT (i := 2) (v := ?_) rfl ?_ hHeld ?_
 rotate_left 1
 ·intro u hSu
  go_simp
  first | done | with_reducible rfl
 try simp only [Act.put, zA, zB, zC]
 refine zT (i := 3) (v := ?_) rfl ?_ hHeld ?_
 rotate_left 1
 ·intro u hSu
  have l0u := (HLS.out.1 u hSu.out).1
  go_simp
  first | done | with_reducible rfl
 try simp only [Act.put, zA, zB, zC]
 refine zT (i := 5) (v := ?_) rfl ?_ hHeld ?_
 rotate_left 1
 ·intro u hSu
  go_simp
  first | done | with_reducible rfl
 try simp only [Act.put, zA, zB, zC]
 refine zT (i := 6) (v := ?_) rfl ?_ hHeld ?_
 rotate_left 1
 ·intro u hSu
  go_simp
  first | done | with_reducible rfl
 try simp only [Act.put, zA, zB, zC]
 refine zT (i := 7) (v := ?_) rfl ?_ hHeld ?_
 rotate_left 1
 ·intro u hSu
  go_simp
  first | done | with_reducible rfl
 try simp only [Act.put, zA, zB, zC]
 refine zT (i := 8) (v := ?_) rfl ?_ hHeld ?_
 rotate_left 1
 ·intro u hSu
  have l0u := (HLS.out.1 u hSu.out).1
  go_simp
  first | done | with_reducible rfl
 try simp only [Act.put, zA, zB, zC]
 refine wpAnyH_ready (rs := [4]) (by kernel_rfl) (by simp) ?_
 refine AllReadyH.cons (o := ⟨_, _, _, _, _, _⟩) rfl (fun Kz hK => ?_) AllReadyH.nil
 go_simp
 go_at_call 24
 refine (tCheckAll_any q cc Ls _ _ (HLS.out.1 _ hHeld.out).2 (by omega)).mono ?_
 rintro e wx ⟨rfl, hg⟩
 have HN := Lib.hid (hHeld.out.keep hg)
 clear hg
 simp only
 refine hK.out _ _ (HN) (fun hH2 => ?_)
 clear hK Kz hHeld
 have hHeld := hH2
 clear hH2
 try simp only [Act.put, zA, zB, zC]
 refine wpAnyH_ready (rs := [9]) (by kernel_rfl) (by simp) ?_
 refine AllReadyH.cons (o := ⟨_, _, _, _, _, _⟩) rfl (fun Kz hK => ?_) AllReadyH.nil
 go_simp
 go_at_call 25
 have hrl := (HLS.out.1 _ hHeld.out).2
 have hlo9 := hHeld.out.lo
 refine (rCheckAll_any q cc Ls _ ⟨hrl.rd.mono (fun b hb => by have := hb.2; omega), fun x hx => ⟨(hrl.ok x hx).1.mono (fun b hb => by have := hb.2; omega), (hrl.ok x hx).2⟩⟩ (by omega)).mono ?_
 rintro e w20 ⟨rfl, hg⟩
 have HN := Lib.hid (hHeld.out.keep hg)
 clear hg hrl hlo9
 simp only
 refine hK.out _ _ (HN) (fun hH2 => ?_)
 clear hK Kz hHeld
 have hHeld := hH2
 clear hH2
 try simp only [Act.put, zA, zB, zC]
 refine zT (i := 10) (v := ?_) rfl ?_ hHeld ?_
 rotate_left 1
 ·intro u hSu
  go_simp
  first | done | with_reducible rfl
 try simp only [Act.put, zA, zB, zC]
 refine wpAnyH_done (by kernel_rfl) ?_ _
 have K20 := hHeld
 clear hHeld K
 generalize caT Ls = ct at *
 have hct : (ct != ct) = false := by simp
 go_wp2_with fail
 refine (range_any a 0 6 (by omega) (by omega) (by omega) (by omega) w20 K20.out.tp).mono ?_
 rintro e w21 ⟨i2, rfl, -, hs⟩
 have K21 := Lib.hid ((K20.out.tape hs).th r i2)
 clear hs K20 hct
 go_upto_region 19 with fail
 generalize w21.alloc _ = w22 at *
 generalize w21.heap.size = G at *
 generalize G + 1 = Z2 at *
 go_wp2_with fail
 go_loopw [15] (fun v wr => ∃ j : Nat, j ≤ 2 ∧ v = .int .i64 (j : Int) ∧ Hid (TH w a D Z p c A2 rp rc raw G Z2 r i2 wr)) (fun v _ => 2 - (RowKit.intOf v).toNat)
 case atStart => exact ⟨0, by omega, rfl, K21⟩
 case round =>
 clear K21
 obtain ⟨j, hj, rfl, K⟩ := hrel
 obtain ⟨w12, hw12⟩ : ∃ w12, w12 = wr := ⟨_, rfl⟩
 rw [← hw12] at K ⊢
 clear hw12
 by_cases hltj : j < 2
 case neg =>
  obtain rfl : j = 2 := by omega
  have K13 := Lib.hid K.out.tg
  clear K
  go_wp2_with fail
  exact ⟨⟨i + 1, by omega, congrArg _ (by omega), K13⟩, by simp only [RowKit.intOf]; omega⟩
 have hltj' : (j : Int) < 2 := by omega
 have hj0 : (0 : Int) ≤ (j : Int) := by omega
 obtain ⟨qr, hq⟩ : ∃ qr, (if j = 0 then r else i2) = qr := ⟨_, rfl⟩
 have HQ : Hid (∀ u, TH w a D Z p c A2 rp rc raw G Z2 r i2 u → u.cell? ⟨G, j, none⟩ = some (.int .i64 qr)) := Lib.hid (fun u h => by rw [h.cell j hltj, hq])
 clear hq
 obtain ⟨X, hX⟩ : ∃ X, (fdT Ls qr).getD zTb = X := ⟨_, rfl⟩
 obtain ⟨fb, hfb⟩ : ∃ fb, (fdT Ls qr).isSome = fb := ⟨_, rfl⟩
 have HXX := Lib.hid (And.intro hX hfb)
 clear hX hfb
 have HRQ : Hid (∀ u, TH w a D Z p c A2 rp rc raw G Z2 r i2 u → RdW u (· < Z2) X.p X.c X.L ∧ X.L.length ≤ 9223372036854775807) := Lib.hid (fun u h => by
  have h1 := fdT_ok (r := qr) (HLS.out.1 u h.tg).2
  have h2 := h.lo
  rw [← HXX.out.1]
  exact ⟨h1.1.mono (fun b hb => by have := hb.2; omega), h1.2⟩)
 go_upto_region 22 with fail
 go_cut [16, 17] from 95 to 106 (fun u v wx => ∃ (g Z3 : Nat) (M : List Rw) (p' : Option Addr) (c' : Nat), u = .pointer (some ⟨g, 0, none⟩) ∧ v = .bool fb ∧ Hid (M.map rw0 = X.L.map rw0) ∧ Hid (TH w a D Z p c A2 rp rc raw G Z2 r i2 wx ∧ BG g Z3 X.r X.s X.n p' c' M wx))
 case first =>
  refine region_until2 (S := fun w' => Hid (TH w a D Z p c A2 rp rc raw G Z2 r i2 w')) (fun j => j == 13 || j == 14) (by kernel_rfl) (Lib.hid (K.out.keep (grown_drew (grown_refl _ none)))) (fun hHeld => ?_)
  refine zW (i := 0) (v := ?_) rfl ?_ hHeld ?_
  rotate_left 1
  ·intro u hSu
   go_simp
   first | done | with_reducible rfl
  try simp only [Act.put, zA, zB, zC]
  refine zW (i := 1) (v := ?_) rfl ?_ hHeld ?_
  rotate_left 1
  ·intro u hSu
   go_simp
   first | done | with_reducible rfl
  try simp only [Act.put, zA, zB, zC]
  refine zW (i := 2) (v := ?_) rfl ?_ hHeld ?_
  rotate_left 1
  ·intro u hSu
   go_simp
   first | done | with_reducible rfl
  try simp only [Act.put, zA, zB, zC]
  refine zW (i := 3) (v := ?_) rfl ?_ hHeld ?_
  rotate_left 1
  ·intro u hSu
   have l0u := (HLS.out.1 u hSu.out.tg).1
   have q0u := HQ.out u hSu.out
   go_simp
   first | done | with_reducible rfl
  try simp only [Act.put, zA, zB, zC]
  refine zW (i := 4) (v := ?_) rfl ?_ hHeld ?_
  rotate_left 1
  ·intro u hSu
   go_simp
   first | done | with_reducible rfl
  try simp only [Act.put, zA, zB, zC]
  refine zW (i := 5) (v := ?_) rfl ?_ hHeld ?_
  rotate_left 1
  ·intro u hSu
   go_simp
   first | done | with_reducible rfl
  try simp only [Act.put, zA, zB, zC]
  refine zW (i := 6) (v := ?_) rfl ?_ hHeld ?_
  rotate_left 1
  ·intro u hSu
   go_simp
   first | done | with_reducible rfl
  try simp only [Act.put, zA, zB, zC]
  refine zW (i := 7) (v := ?_) rfl ?_ hHeld ?_
  rotate_left 1
  ·intro u hSu
   have l0u := (HLS.out.1 u hSu.out.tg).1
   have q0u := HQ.out u hSu.out
   go_simp
   first | done | with_reducible rfl
  try simp only [Act.put, zA, zB, zC]
  refine anyV_ready (rs := [8, 12]) (by kernel_rfl) (by simp) ?_
  refine EachV.cons (o := ⟨_, _, _, _, _, _⟩) rfl (fun Kz hK => ?_) (EachV.cons (o := ⟨_, _, _, _, _, _⟩) rfl (fun Kz hK => ?_) EachV.nil)
  ·go_simp
   go_at_call 26
   have hrl := (HLS.out.1 _ hHeld.out.tg).2
   have hlo9 := hHeld.out.tg.lo
   refine (tFind_any q cc Ls qr _ ⟨hrl.rd.mono (fun b hb => by have := hb.2; omega), fun x hx => ⟨(hrl.ok x hx).1.mono (fun b hb => by have := hb.2; omega), (hrl.ok x hx).2⟩⟩ (by omega) (fun x hx => ⟨(HLS.out.2.1 x hx).hl, (HLS.out.2.1 x hx).hy⟩)).mono ?_
   rintro e wb ⟨M, pm, cm, rfl, hmm, hown, hro, hg⟩
   have HRB := Lib.hid (rdw_fi hown hro)
   rw [HXX.out.1] at hmm
   rw [HXX.out.1, HXX.out.2]
   have HMM := Lib.hid hmm
   clear hmm hown hro hrl hlo9
   have HG6 := Lib.hid hg
   have HN := Lib.hid (hHeld.out.keep hg)
   clear hg
   simp only
   refine hK.out _ _ (fun _ _ => HN) (fun hH2 => ?_)
   have hHeld2 := hH2 rfl hHeld
   clear hK Kz hHeld hH2
   have hHeld := hHeld2
   clear hHeld2
   try simp only [Act.put, zA, zB, zC]
   refine zW (i := 9) (v := ?_) rfl ?_ hHeld ?_
   rotate_left 1
   ·intro u hSu
    go_simp
    first | done | with_reducible rfl
   try simp only [Act.put, zA, zB, zC]
   refine zW (i := 10) (v := ?_) rfl ?_ hHeld ?_
   rotate_left 1
   ·intro u hSu
    go_simp
    first | done | with_reducible rfl
   try simp only [Act.put, zA, zB, zC]
   refine anyV_ready (rs := [11, 12]) (by kernel_rfl) (by simp) ?_
   refine EachV.cons (o := ⟨_, _, _, _, _, _⟩) rfl (fun Kz hK => ?_) (EachV.cons (o := ⟨_, _, _, _, _, _⟩) rfl (fun Kz hK => ?_) EachV.nil)
   ·go_simp
    refine hK.out _ _ (fun _ h => h) (fun _ => ?_)
    clear hK Kz
    try simp only [Act.put, zA, zB, zC]
    refine anyV_ready (rs := [12]) (by kernel_rfl) (by simp) ?_
    refine EachV.cons (o := ⟨_, _, _, _, _, _⟩) rfl (fun Kz hK => ?_) EachV.nil
    go_simp
    have HLO := Lib.hid hHeld.out.lo0
    have HS0 := Lib.hid hHeld.out
    refine hK.out _ _ (fun _ _ => Lib.hid (hHeld.out.keep (World.grownBy_alloc _ _ none))) (fun hH2 => ?_)
    have hHeld2 := hH2 rfl hHeld
    clear hK Kz hHeld hH2
    have hHeld := hHeld2
    clear hHeld2
    try simp only [Act.put, zA, zB, zC]
    refine anyV_ready (rs := [13]) (by kernel_rfl) (by simp) ?_
    refine EachV.cons (o := ⟨_, _, _, _, _, _⟩) rfl (fun Kz hK => ?_) EachV.nil
    first | (have HNB := Lib.hid (nb_a (lo1 := Z2) (lo2 := 0) HRB.out.1 HRB.out.2 HLO.out)) | (have HNB := Lib.hid (nb_b (lo1 := Z2) (lo2 := 0) HG6.out HRB.out.1 HRB.out.2 HLO.out))
    obtain ⟨b0, b1, b2, b3⟩ := row4T HNB.out.bx
    have f0 := frozen_of_row _ _ 0 _ _ HNB.out.bx
    have f1 := frozen_of_row _ _ 1 _ _ HNB.out.bx
    have f2 := frozen_of_row _ _ 2 _ _ HNB.out.bx
    have f3 := frozen_of_row _ _ 3 _ _ HNB.out.bx
    go_simp
    have HT := Lib.hid (store4B (.int .i64 X.r) (.int .i64 X.s) (.int .i64 X.n) (.slice pm M.length cm) HNB.out.bx)
    have HZL := Lib.hid hHeld.out
    refine hK.out _ _ (fun h => by cases h) (fun _ => ?_)
    clear hK Kz
    try simp only [Act.put, zA, zB, zC]
    refine anyV_ready (rs := [14]) (by kernel_rfl) (by simp) ?_
    refine EachV.cons (o := ⟨_, _, _, _, _, _⟩) rfl (fun Kz hK => ?_) EachV.nil
    go_simp
    refine hK.out _ _ (fun h => by cases h) (fun _ => ?_)
    clear hK Kz
    try simp only [Act.put, zA, zB, zC]
    refine anyV_done (by kernel_rfl) ?_ _
    clear b0 b1 b2 b3 f0 f1 f2 f3 hHeld
    go_wp2_with fail
    go_meet
    first
    | exact ⟨_, _, M, pm, cm, rfl, rfl, HMM, Lib.hid (And.intro (HZL.out.put HT.out.2 HNB.out.lo.1) (HNB.out.bg HT.out.1 HT.out.2))⟩
    | exact ⟨_, _, M, pm, cm, rfl, rfl, HMM, Lib.hid (And.intro (HS0.out.keep (World.grownBy_alloc _ _ none)) (nbg_a X.r X.s X.n HRB.out.1 HRB.out.2))⟩
   ·go_simp
    have HLO := Lib.hid hHeld.out.lo0
    have HS0 := Lib.hid hHeld.out
    refine hK.out _ _ (fun _ _ => Lib.hid (hHeld.out.keep (World.grownBy_alloc _ _ none))) (fun hH2 => ?_)
    have hHeld2 := hH2 rfl hHeld
    clear hK Kz hHeld hH2
    have hHeld := hHeld2
    clear hHeld2
    try simp only [Act.put, zA, zB, zC]
    refine anyV_ready (rs := [11, 13]) (by kernel_rfl) (by simp) ?_
    refine EachV.cons (o := ⟨_, _, _, _, _, _⟩) rfl (fun Kz hK => ?_) (EachV.cons (o := ⟨_, _, _, _, _, _⟩) rfl (fun Kz hK => ?_) EachV.nil)
    ·go_simp
     refine hK.out _ _ (fun _ h => h) (fun _ => ?_)
     clear hK Kz
     try simp only [Act.put, zA, zB, zC]
     refine anyV_ready (rs := [13]) (by kernel_rfl) (by simp) ?_
     refine EachV.cons (o := ⟨_, _, _, _, _, _⟩) rfl (fun Kz hK => ?_) EachV.nil
     first | (have HNB := Lib.hid (nb_a (lo1 := Z2) (lo2 := 0) HRB.out.1 HRB.out.2 HLO.out)) | (have HNB := Lib.hid (nb_b (lo1 := Z2) (lo2 := 0) HG6.out HRB.out.1 HRB.out.2 HLO.out))
     obtain ⟨b0, b1, b2, b3⟩ := row4T HNB.out.bx
     have f0 := frozen_of_row _ _ 0 _ _ HNB.out.bx
     have f1 := frozen_of_row _ _ 1 _ _ HNB.out.bx
     have f2 := frozen_of_row _ _ 2 _ _ HNB.out.bx
     have f3 := frozen_of_row _ _ 3 _ _ HNB.out.bx
     go_simp
     have HT := Lib.hid (store4B (.int .i64 X.r) (.int .i64 X.s) (.int .i64 X.n) (.slice pm M.length cm) HNB.out.bx)
     have HZL := Lib.hid hHeld.out
     refine hK.out _ _ (fun h => by cases h) (fun _ => ?_)
     clear hK Kz
     try simp only [Act.put, zA, zB, zC]
     refine anyV_ready (rs := [14]) (by kernel_rfl) (by simp) ?_
     refine EachV.cons (o := ⟨_, _, _, _, _, _⟩) rfl (fun Kz hK => ?_) EachV.nil
     go_simp
     refine hK.out _ _ (fun h => by cases h) (fun _ => ?_)
     clear hK Kz
     try simp only [Act.put, zA, zB, zC]
     refine anyV_done (by kernel_rfl) ?_ _
     clear b0 b1 b2 b3 f0 f1 f2 f3 hHeld
     go_wp2_with fail
     go_meet
     first
     | exact ⟨_, _, M, pm, cm, rfl, rfl, HMM, Lib.hid (And.intro (HZL.out.put HT.out.2 HNB.out.lo.1) (HNB.out.bg HT.out.1 HT.out.2))⟩
     | exact ⟨_, _, M, pm, cm, rfl, rfl, HMM, Lib.hid (And.intro (HS0.out.keep (World.grownBy_alloc _ _ none)) (nbg_a X.r X.s X.n HRB.out.1 HRB.out.2))⟩
    ·first | (have HNB := Lib.hid (nb_a (lo1 := Z2) (lo2 := 0) HRB.out.1 HRB.out.2 HLO.out)) | (have HNB := Lib.hid (nb_b (lo1 := Z2) (lo2 := 0) HG6.out HRB.out.1 HRB.out.2 HLO.out))
     obtain ⟨b0, b1, b2, b3⟩ := row4T HNB.out.bx
     have f0 := frozen_of_row _ _ 0 _ _ HNB.out.bx
     have f1 := frozen_of_row _ _ 1 _ _ HNB.out.bx
     have f2 := frozen_of_row _ _ 2 _ _ HNB.out.bx
     have f3 := frozen_of_row _ _ 3 _ _ HNB.out.bx
     go_simp
     have HT := Lib.hid (store4B (.int .i64 X.r) (.int .i64 X.s) (.int .i64 X.n) (.slice pm M.length cm) HNB.out.bx)
     have HZL := Lib.hid hHeld.out
     refine hK.out _ _ (fun h => by cases h) (fun _ => ?_)
     clear hK Kz
     try simp only [Act.put, zA, zB, zC]
     refine anyV_ready (rs := [11]) (by kernel_rfl) (by simp) ?_
     refine EachV.cons (o := ⟨_, _, _, _, _, _⟩) rfl (fun Kz hK => ?_) EachV.nil
     go_simp
     refine hK.out _ _ (fun _ h => h) (fun _ => ?_)
     clear hK Kz
     try simp only [Act.put, zA, zB, zC]
     refine anyV_ready (rs := [14]) (by kernel_rfl) (by simp) ?_
     refine EachV.cons (o := ⟨_, _, _, _, _, _⟩) rfl (fun Kz hK => ?_) EachV.nil
     go_simp
     refine hK.out _ _ (fun h => by cases h) (fun _ => ?_)
     clear hK Kz
     try simp only [Act.put, zA, zB, zC]
     refine anyV_done (by kernel_rfl) ?_ _
     clear b0 b1 b2 b3 f0 f1 f2 f3 hHeld
     go_wp2_with fail
     go_meet
     first
     | exact ⟨_, _, M, pm, cm, rfl, rfl, HMM, Lib.hid (And.intro (HZL.out.put HT.out.2 HNB.out.lo.1) (HNB.out.bg HT.out.1 HT.out.2))⟩
     | exact ⟨_, _, M, pm, cm, rfl, rfl, HMM, Lib.hid (And.intro (HS0.out.keep (World.grownBy_alloc _ _ none)) (nbg_a X.r X.s X.n HRB.out.1 HRB.out.2))⟩
  ·go_simp
   have HLO := Lib.hid hHeld.out.lo0
   have HS0 := Lib.hid hHeld.out
   refine hK.out _ _ (fun _ _ => Lib.hid (hHeld.out.keep (World.grownBy_alloc _ _ none))) (fun hH2 => ?_)
   have hHeld2 := hH2 rfl hHeld
   clear hK Kz hHeld hH2
   have hHeld := hHeld2
   clear hHeld2
   try simp only [Act.put, zA, zB, zC]
   refine anyV_ready (rs := [8]) (by kernel_rfl) (by simp) ?_
   refine EachV.cons (o := ⟨_, _, _, _, _, _⟩) rfl (fun Kz hK => ?_) EachV.nil
   go_simp
   go_at_call 26
   have hrl := (HLS.out.1 _ hHeld.out.tg).2
   have hlo9 := hHeld.out.tg.lo
   refine (tFind_any q cc Ls qr _ ⟨hrl.rd.mono (fun b hb => by have := hb.2; omega), fun x hx => ⟨(hrl.ok x hx).1.mono (fun b hb => by have := hb.2; omega), (hrl.ok x hx).2⟩⟩ (by omega) (fun x hx => ⟨(HLS.out.2.1 x hx).hl, (HLS.out.2.1 x hx).hy⟩)).mono ?_
   rintro e wb ⟨M, pm, cm, rfl, hmm, hown, hro, hg⟩
   have HRB := Lib.hid (rdw_fi hown hro)
   rw [HXX.out.1] at hmm
   rw [HXX.out.1, HXX.out.2]
   have HMM := Lib.hid hmm
   clear hmm hown hro hrl hlo9
   have HG6 := Lib.hid hg
   have HN := Lib.hid (hHeld.out.keep hg)
   clear hg
   simp only
   refine hK.out _ _ (fun _ _ => HN) (fun hH2 => ?_)
   have hHeld2 := hH2 rfl hHeld
   clear hK Kz hHeld hH2
   have hHeld := hHeld2
   clear hHeld2
   try simp only [Act.put, zA, zB, zC]
   refine zW (i := 9) (v := ?_) rfl ?_ hHeld ?_
   rotate_left 1
   ·intro u hSu
    go_simp
    first | done | with_reducible rfl
   try simp only [Act.put, zA, zB, zC]
   refine zW (i := 10) (v := ?_) rfl ?_ hHeld ?_
   rotate_left 1
   ·intro u hSu
    go_simp
    first | done | with_reducible rfl
   try simp only [Act.put, zA, zB, zC]
   refine anyV_ready (rs := [11, 13]) (by kernel_rfl) (by simp) ?_
   refine EachV.cons (o := ⟨_, _, _, _, _, _⟩) rfl (fun Kz hK => ?_) (EachV.cons (o := ⟨_, _, _, _, _, _⟩) rfl (fun Kz hK => ?_) EachV.nil)
   ·go_simp
    refine hK.out _ _ (fun _ h => h) (fun _ => ?_)
    clear hK Kz
    try simp only [Act.put, zA, zB, zC]
    refine anyV_ready (rs := [13]) (by kernel_rfl) (by simp) ?_
    refine EachV.cons (o := ⟨_, _, _, _, _, _⟩) rfl (fun Kz hK => ?_) EachV.nil
    first | (have HNB := Lib.hid (nb_a (lo1 := Z2) (lo2 := 0) HRB.out.1 HRB.out.2 HLO.out)) | (have HNB := Lib.hid (nb_b (lo1 := Z2) (lo2 := 0) HG6.out HRB.out.1 HRB.out.2 HLO.out))
    obtain ⟨b0, b1, b2, b3⟩ := row4T HNB.out.bx
    have f0 := frozen_of_row _ _ 0 _ _ HNB.out.bx
    have f1 := frozen_of_row _ _ 1 _ _ HNB.out.bx
    have f2 := frozen_of_row _ _ 2 _ _ HNB.out.bx
    have f3 := frozen_of_row _ _ 3 _ _ HNB.out.bx
    go_simp
    have HT := Lib.hid (store4B (.int .i64 X.r) (.int .i64 X.s) (.int .i64 X.n) (.slice pm M.length cm) HNB.out.bx)
    have HZL := Lib.hid hHeld.out
    refine hK.out _ _ (fun h => by cases h) (fun _ => ?_)
    clear hK Kz
    try simp only [Act.put, zA, zB, zC]
    refine anyV_ready (rs := [14]) (by kernel_rfl) (by simp) ?_
    refine EachV.cons (o := ⟨_, _, _, _, _, _⟩) rfl (fun Kz hK => ?_) EachV.nil
    go_simp
    refine hK.out _ _ (fun h => by cases h) (fun _ => ?_)
    clear hK Kz
    try simp only [Act.put, zA, zB, zC]
    refine anyV_done (by kernel_rfl) ?_ _
    clear b0 b1 b2 b3 f0 f1 f2 f3 hHeld
    go_wp2_with fail
    go_meet
    first
    | exact ⟨_, _, M, pm, cm, rfl, rfl, HMM, Lib.hid (And.intro (HZL.out.put HT.out.2 HNB.out.lo.1) (HNB.out.bg HT.out.1 HT.out.2))⟩
    | exact ⟨_, _, M, pm, cm, rfl, rfl, HMM, Lib.hid (And.intro (HS0.out.keep (World.grownBy_alloc _ _ none)) (nbg_a X.r X.s X.n HRB.out.1 HRB.out.2))⟩
   ·first | (have HNB := Lib.hid (nb_a (lo1 := Z2) (lo2 := 0) HRB.out.1 HRB.out.2 HLO.out)) | (have HNB := Lib.hid (nb_b (lo1 := Z2) (lo2 := 0) HG6.out HRB.out.1 HRB.out.2 HLO.out))
    obtain ⟨b0, b1, b2, b3⟩ := row4T HNB.out.bx
    have f0 := frozen_of_row _ _ 0 _ _ HNB.out.bx
    have f1 := frozen_of_row _ _ 1 _ _ HNB.out.bx
    have f2 := frozen_of_row _ _ 2 _ _ HNB.out.bx
    have f3 := frozen_of_row _ _ 3 _ _ HNB.out.bx
    go_simp
    have HT := Lib.hid (store4B (.int .i64 X.r) (.int .i64 X.s) (.int .i64 X.n) (.slice pm M.length cm) HNB.out.bx)
    have HZL := Lib.hid hHeld.out
    refine hK.out _ _ (fun h => by cases h) (fun _ => ?_)
    clear hK Kz
    try simp only [Act.put, zA, zB, zC]
    refine anyV_ready (rs := [11]) (by kernel_rfl) (by simp) ?_
    refine EachV.cons (o := ⟨_, _, _, _, _, _⟩) rfl (fun Kz hK => ?_) EachV.nil
    go_simp
    refine hK.out _ _ (fun _ h => h) (fun _ => ?_)
    clear hK Kz
    try simp only [Act.put, zA, zB, zC]
    refine anyV_ready (rs := [14]) (by kernel_rfl) (by simp) ?_
    refine EachV.cons (o := ⟨_, _, _, _, _, _⟩) rfl (fun Kz hK => ?_) EachV.nil
    go_simp
    refine hK.out _ _ (fun h => by cases h) (fun _ => ?_)
    clear hK Kz
    try simp only [Act.put, zA, zB, zC]
    refine anyV_done (by kernel_rfl) ?_ _
    clear b0 b1 b2 b3 f0 f1 f2 f3 hHeld
    go_wp2_with fail
    go_meet
    first
    | exact ⟨_, _, M, pm, cm, rfl, rfl, HMM, Lib.hid (And.intro (HZL.out.put HT.out.2 HNB.out.lo.1) (HNB.out.bg HT.out.1 HT.out.2))⟩
    | exact ⟨_, _, M, pm, cm, rfl, rfl, HMM, Lib.hid (And.intro (HS0.out.keep (World.grownBy_alloc _ _ none)) (nbg_a X.r X.s X.n HRB.out.1 HRB.out.2))⟩
 case rest =>
 clear K
 obtain ⟨g1, Z3, M, pm, cm, rfl, rfl, HMM, K⟩ := hcut
 obtain ⟨w13, hw13⟩ : ∃ w13, w13 = wc := ⟨_, rfl⟩
 rw [← hw13] at K ⊢
 clear hw13
 go_upto_region 23 with fail
 go_cut [18, 19] from 107 to 118 (fun u v wx => ∃ (g Z4 : Nat), u = .pointer (some ⟨g, 0, none⟩) ∧ v = .bool fb ∧ Hid (TH w a D Z p c A2 rp rc raw G Z2 r i2 wx ∧ BG g1 Z3 X.r X.s X.n pm cm M wx ∧ BG g Z4 X.r X.s X.n X.p X.c X.L wx))
 case first =>
  refine region_until2 (S := fun w' => Hid (TH w a D Z p c A2 rp rc raw G Z2 r i2 w' ∧ BG g1 Z3 X.r X.s X.n pm cm M w')) (fun j => j == 13 || j == 14) (by kernel_rfl) (Lib.hid (And.intro (K.out.1.keep (grown_drew (grown_refl _ none))) (K.out.2.keep (grown_drew (grown_refl _ none))))) (fun hHeld => ?_)
  refine zW (i := 0) (v := ?_) rfl ?_ hHeld ?_
  rotate_left 1
  ·intro u hSu
   go_simp
   first | done | with_reducible rfl
  try simp only [Act.put, zA, zB, zC]
  refine zW (i := 1) (v := ?_) rfl ?_ hHeld ?_
  rotate_left 1
  ·intro u hSu
   go_simp
   first | done | with_reducible rfl
  try simp only [Act.put, zA, zB, zC]
  refine zW (i := 2) (v := ?_) rfl ?_ hHeld ?_
  rotate_left 1
  ·intro u hSu
   go_simp
   first | done | with_reducible rfl
  try simp only [Act.put, zA, zB, zC]
  refine zW (i := 3) (v := ?_) rfl ?_ hHeld ?_
  rotate_left 1
  ·intro u hSu
   have l0u := (HLS.out.1 u hSu.out.1.tg).1
   have q0u := HQ.out u hSu.out.1
   go_simp
   first | done | with_reducible rfl
  try simp only [Act.put, zA, zB, zC]
  refine zW (i := 4) (v := ?_) rfl ?_ hHeld ?_
  rotate_left 1
  ·intro u hSu
   go_simp
   first | done | with_reducible rfl
  try simp only [Act.put, zA, zB, zC]
  refine zW (i := 5) (v := ?_) rfl ?_ hHeld ?_
  rotate_left 1
  ·intro u hSu
   go_simp
   first | done | with_reducible rfl
  try simp only [Act.put, zA, zB, zC]
  refine zW (i := 6) (v := ?_) rfl ?_ hHeld ?_
  rotate_left 1
  ·intro u hSu
   go_simp
   first | done | with_reducible rfl
  try simp only [Act.put, zA, zB, zC]
  refine zW (i := 7) (v := ?_) rfl ?_ hHeld ?_
  rotate_left 1
  ·intro u hSu
   have l0u := (HLS.out.1 u hSu.out.1.tg).1
   have q0u := HQ.out u hSu.out.1
   go_simp
   first | done | with_reducible rfl
  try simp only [Act.put, zA, zB, zC]
  refine anyV_ready (rs := [8, 12]) (by kernel_rfl) (by simp) ?_
  refine EachV.cons (o := ⟨_, _, _, _, _, _⟩) rfl (fun Kz hK => ?_) (EachV.cons (o := ⟨_, _, _, _, _, _⟩) rfl (fun Kz hK => ?_) EachV.nil)
  ·go_simp
   go_at_call 27
   refine (rFind_any q cc Ls qr _ _ (HLS.out.1 _ hHeld.out.1.tg).2 (by omega)).mono ?_
   rintro e wb ⟨rfl, hg⟩
   rw [HXX.out.1, HXX.out.2]
   have HRB := Lib.hid (HRQ.out wb (hHeld.out.1.keep hg))
   have HG6 := Lib.hid hg
   have HN := Lib.hid (And.intro (hHeld.out.1.keep hg) (hHeld.out.2.keep hg))
   clear hg
   simp only
   refine hK.out _ _ (fun _ _ => HN) (fun hH2 => ?_)
   have hHeld2 := hH2 rfl hHeld
   clear hK Kz hHeld hH2
   have hHeld := hHeld2
   clear hHeld2
   try simp only [Act.put, zA, zB, zC]
   refine zW (i := 9) (v := ?_) rfl ?_ hHeld ?_
   rotate_left 1
   ·intro u hSu
    go_simp
    first | done | with_reducible rfl
   try simp only [Act.put, zA, zB, zC]
   refine zW (i := 10) (v := ?_) rfl ?_ hHeld ?_
   rotate_left 1
   ·intro u hSu
    go_simp
    first | done | with_reducible rfl
   try simp only [Act.put, zA, zB, zC]
   refine anyV_ready (rs := [11, 12]) (by kernel_rfl) (by simp) ?_
   refine EachV.cons (o := ⟨_, _, _, _, _, _⟩) rfl (fun Kz hK => ?_) (EachV.cons (o := ⟨_, _, _, _, _, _⟩) rfl (fun Kz hK => ?_) EachV.nil)
   ·go_simp
    refine hK.out _ _ (fun _ h => h) (fun _ => ?_)
    clear hK Kz
    try simp only [Act.put, zA, zB, zC]
    refine anyV_ready (rs := [12]) (by kernel_rfl) (by simp) ?_
    refine EachV.cons (o := ⟨_, _, _, _, _, _⟩) rfl (fun Kz hK => ?_) EachV.nil
    go_simp
    have HLO := Lib.hid (And.intro hHeld.out.1.lo.2.2 hHeld.out.2.lo.2)
    have HS0 := Lib.hid hHeld.out
    refine hK.out _ _ (fun _ _ => Lib.hid (And.intro (hHeld.out.1.keep (World.grownBy_alloc _ _ none)) (hHeld.out.2.keep (World.grownBy_alloc _ _ none)))) (fun hH2 => ?_)
    have hHeld2 := hH2 rfl hHeld
    clear hK Kz hHeld hH2
    have hHeld := hHeld2
    clear hHeld2
    try simp only [Act.put, zA, zB, zC]
    refine anyV_ready (rs := [13]) (by kernel_rfl) (by simp) ?_
    refine EachV.cons (o := ⟨_, _, _, _, _, _⟩) rfl (fun Kz hK => ?_) EachV.nil
    first | (have HNB := Lib.hid (nb_aZ (lo1 := Z2) (lo2 := Z3) HRB.out.1 HRB.out.2 HLO.out)) | (have HNB := Lib.hid (nb_bZ (lo1 := Z2) (lo2 := Z3) HG6.out HRB.out.1 HRB.out.2 HLO.out))
    obtain ⟨b0, b1, b2, b3⟩ := row4T HNB.out.bx
    have f0 := frozen_of_row _ _ 0 _ _ HNB.out.bx
    have f1 := frozen_of_row _ _ 1 _ _ HNB.out.bx
    have f2 := frozen_of_row _ _ 2 _ _ HNB.out.bx
    have f3 := frozen_of_row _ _ 3 _ _ HNB.out.bx
    go_simp
    have HT := Lib.hid (store4B (.int .i64 X.r) (.int .i64 X.s) (.int .i64 X.n) (.slice X.p X.L.length X.c) HNB.out.bx)
    have HZL := Lib.hid hHeld.out
    refine hK.out _ _ (fun h => by cases h) (fun _ => ?_)
    clear hK Kz
    try simp only [Act.put, zA, zB, zC]
    refine anyV_ready (rs := [14]) (by kernel_rfl) (by simp) ?_
    refine EachV.cons (o := ⟨_, _, _, _, _, _⟩) rfl (fun Kz hK => ?_) EachV.nil
    go_simp
    refine hK.out _ _ (fun h => by cases h) (fun _ => ?_)
    clear hK Kz
    try simp only [Act.put, zA, zB, zC]
    refine anyV_done (by kernel_rfl) ?_ _
    clear b0 b1 b2 b3 f0 f1 f2 f3 hHeld
    go_wp2_with fail
    go_meet
    first
    | exact ⟨_, _, rfl, rfl, Lib.hid (And.intro (HZL.out.1.put HT.out.2 HNB.out.lo.1) (And.intro (HZL.out.2.put HT.out.2 (fun b hb e => by have := Option.some.inj e; have := HNB.out.lo; omega)) (HNB.out.bg HT.out.1 HT.out.2)))⟩
    | exact ⟨_, _, rfl, rfl, Lib.hid (And.intro (HS0.out.1.keep (World.grownBy_alloc _ _ none)) (And.intro (HS0.out.2.keep (World.grownBy_alloc _ _ none)) (nbg_aZ X.r X.s X.n HRB.out.1 HRB.out.2 HLO.out.1)))⟩
   ·go_simp
    have HLO := Lib.hid (And.intro hHeld.out.1.lo.2.2 hHeld.out.2.lo.2)
    have HS0 := Lib.hid hHeld.out
    refine hK.out _ _ (fun _ _ => Lib.hid (And.intro (hHeld.out.1.keep (World.grownBy_alloc _ _ none)) (hHeld.out.2.keep (World.grownBy_alloc _ _ none)))) (fun hH2 => ?_)
    have hHeld2 := hH2 rfl hHeld
    clear hK Kz hHeld hH2
    have hHeld := hHeld2
    clear hHeld2
    try simp only [Act.put, zA, zB, zC]
    refine anyV_ready (rs := [11, 13]) (by kernel_rfl) (by simp) ?_
    refine EachV.cons (o := ⟨_, _, _, _, _, _⟩) rfl (fun Kz hK => ?_) (EachV.cons (o := ⟨_, _, _, _, _, _⟩) rfl (fun Kz hK => ?_) EachV.nil)
    ·go_simp
     refine hK.out _ _ (fun _ h => h) (fun _ => ?_)
     clear hK Kz
     try simp only [Act.put, zA, zB, zC]
     refine anyV_ready (rs := [13]) (by kernel_rfl) (by simp) ?_
     refine EachV.cons (o := ⟨_, _, _, _, _, _⟩) rfl (fun Kz hK => ?_) EachV.nil
     first | (have HNB := Lib.hid (nb_aZ (lo1 := Z2) (lo2 := Z3) HRB.out.1 HRB.out.2 HLO.out)) | (have HNB := Lib.hid (nb_bZ (lo1 := Z2) (lo2 := Z3) HG6.out HRB.out.1 HRB.out.2 HLO.out))
     obtain ⟨b0, b1, b2, b3⟩ := row4T HNB.out.bx
     have f0 := frozen_of_row _ _ 0 _ _ HNB.out.bx
     have f1 := frozen_of_row _ _ 1 _ _ HNB.out.bx
     have f2 := frozen_of_row _ _ 2 _ _ HNB.out.bx
     have f3 := frozen_of_row _ _ 3 _ _ HNB.out.bx
     go_simp
     have HT := Lib.hid (store4B (.int .i64 X.r) (.int .i64 X.s) (.int .i64 X.n) (.slice X.p X.L.length X.c) HNB.out.bx)
     have HZL := Lib.hid hHeld.out
     refine hK.out _ _ (fun h => by cases h) (fun _ => ?_)
     clear hK Kz
     try simp only [Act.put, zA, zB, zC]
     refine anyV_ready (rs := [14]) (by kernel_rfl) (by simp) ?_
     refine EachV.cons (o := ⟨_, _, _, _, _, _⟩) rfl (fun Kz hK => ?_) EachV.nil
     go_simp
     refine hK.out _ _ (fun h => by cases h) (fun _ => ?_)
     clear hK Kz
     try simp only [Act.put, zA, zB, zC]
     refine anyV_done (by kernel_rfl) ?_ _
     clear b0 b1 b2 b3 f0 f1 f2 f3 hHeld
     go_wp2_with fail
     go_meet
     first
     | exact ⟨_, _, rfl, rfl, Lib.hid (And.intro (HZL.out.1.put HT.out.2 HNB.out.lo.1) (And.intro (HZL.out.2.put HT.out.2 (fun b hb e => by have := Option.some.inj e; have := HNB.out.lo; omega)) (HNB.out.bg HT.out.1 HT.out.2)))⟩
     | exact ⟨_, _, rfl, rfl, Lib.hid (And.intro (HS0.out.1.keep (World.grownBy_alloc _ _ none)) (And.intro (HS0.out.2.keep (World.grownBy_alloc _ _ none)) (nbg_aZ X.r X.s X.n HRB.out.1 HRB.out.2 HLO.out.1)))⟩
    ·first | (have HNB := Lib.hid (nb_aZ (lo1 := Z2) (lo2 := Z3) HRB.out.1 HRB.out.2 HLO.out)) | (have HNB := Lib.hid (nb_bZ (lo1 := Z2) (lo2 := Z3) HG6.out HRB.out.1 HRB.out.2 HLO.out))
     obtain ⟨b0, b1, b2, b3⟩ := row4T HNB.out.bx
     have f0 := frozen_of_row _ _ 0 _ _ HNB.out.bx
     have f1 := frozen_of_row _ _ 1 _ _ HNB.out.bx
     have f2 := frozen_of_row _ _ 2 _ _ HNB.out.bx
     have f3 := frozen_of_row _ _ 3 _ _ HNB.out.bx
     go_simp
     have HT := Lib.hid (store4B (.int .i64 X.r) (.int .i64 X.s) (.int .i64 X.n) (.slice X.p X.L.length X.c) HNB.out.bx)
     have HZL := Lib.hid hHeld.out
     refine hK.out _ _ (fun h => by cases h) (fun _ => ?_)
     clear hK Kz
     try simp only [Act.put, zA, zB, zC]
     refine anyV_ready (rs := [11]) (by kernel_rfl) (by simp) ?_
     refine EachV.cons (o := ⟨_, _, _, _, _, _⟩) rfl (fun Kz hK => ?_) EachV.nil
     go_simp
     refine hK.out _ _ (fun _ h => h) (fun _ => ?_)
     clear hK Kz
     try simp only [Act.put, zA, zB, zC]
     refine anyV_ready (rs := [14]) (by kernel_rfl) (by simp) ?_
     refine EachV.cons (o := ⟨_, _, _, _, _, _⟩) rfl (fun Kz hK => ?_) EachV.nil
     go_simp
     refine hK.out _ _ (fun h => by cases h) (fun _ => ?_)
     clear hK Kz
     try simp only [Act.put, zA, zB, zC]
     refine anyV_done (by kernel_rfl) ?_ _
     clear b0 b1 b2 b3 f0 f1 f2 f3 hHeld
     go_wp2_with fail
     go_meet
     first
     | exact ⟨_, _, rfl, rfl, Lib.hid (And.intro (HZL.out.1.put HT.out.2 HNB.out.lo.1) (And.intro (HZL.out.2.put HT.out.2 (fun b hb e => by have := Option.some.inj e; have := HNB.out.lo; omega)) (HNB.out.bg HT.out.1 HT.out.2)))⟩
     | exact ⟨_, _, rfl, rfl, Lib.hid (And.intro (HS0.out.1.keep (World.grownBy_alloc _ _ none)) (And.intro (HS0.out.2.keep (World.grownBy_alloc _ _ none)) (nbg_aZ X.r X.s X.n HRB.out.1 HRB.out.2 HLO.out.1)))⟩
  ·go_simp
   have HLO := Lib.hid (And.intro hHeld.out.1.lo.2.2 hHeld.out.2.lo.2)
   have HS0 := Lib.hid hHeld.out
   refine hK.out _ _ (fun _ _ => Lib.hid (And.intro (hHeld.out.1.keep (World.grownBy_alloc _ _ none)) (hHeld.out.2.keep (World.grownBy_alloc _ _ none)))) (fun hH2 => ?_)
   have hHeld2 := hH2 rfl hHeld
   clear hK Kz hHeld hH2
   have hHeld := hHeld2
   clear hHeld2
   try simp only [Act.put, zA, zB, zC]
   refine anyV_ready (rs := [8]) (by kernel_rfl) (by simp) ?_
   refine EachV.cons (o := ⟨_, _, _, _, _, _⟩) rfl (fun Kz hK => ?_) EachV.nil
   go_simp
   go_at_call 27
   refine (rFind_any q cc Ls qr _ _ (HLS.out.1 _ hHeld.out.1.tg).2 (by omega)).mono ?_
   rintro e wb ⟨rfl, hg⟩
   rw [HXX.out.1, HXX.out.2]
   have HRB := Lib.hid (HRQ.out wb (hHeld.out.1.keep hg))
   have HG6 := Lib.hid hg
   have HN := Lib.hid (And.intro (hHeld.out.1.keep hg) (hHeld.out.2.keep hg))
   clear hg
   simp only
   refine hK.out _ _ (fun _ _ => HN) (fun hH2 => ?_)
   have hHeld2 := hH2 rfl hHeld
   clear hK Kz hHeld hH2
   have hHeld := hHeld2
   clear hHeld2
   try simp only [Act.put, zA, zB, zC]
   refine zW (i := 9) (v := ?_) rfl ?_ hHeld ?_
   rotate_left 1
   ·intro u hSu
    go_simp
    first | done | with_reducible rfl
   try simp only [Act.put, zA, zB, zC]
   refine zW (i := 10) (v := ?_) rfl ?_ hHeld ?_
   rotate_left 1
   ·intro u hSu
    go_simp
    first | done | with_reducible rfl
   try simp only [Act.put, zA, zB, zC]
   refine anyV_ready (rs := [11, 13]) (by kernel_rfl) (by simp) ?_
   refine EachV.cons (o := ⟨_, _, _, _, _, _⟩) rfl (fun Kz hK => ?_) (EachV.cons (o := ⟨_, _, _, _, _, _⟩) rfl (fun Kz hK => ?_) EachV.nil)
   ·go_simp
    refine hK.out _ _ (fun _ h => h) (fun _ => ?_)
    clear hK Kz
    try simp only [Act.put, zA, zB, zC]
    refine anyV_ready (rs := [13]) (by kernel_rfl) (by simp) ?_
    refine EachV.cons (o := ⟨_, _, _, _, _, _⟩) rfl (fun Kz hK => ?_) EachV.nil
    first | (have HNB := Lib.hid (nb_aZ (lo1 := Z2) (lo2 := Z3) HRB.out.1 HRB.out.2 HLO.out)) | (have HNB := Lib.hid (nb_bZ (lo1 := Z2) (lo2 := Z3) HG6.out HRB.out.1 HRB.out.2 HLO.out))
    obtain ⟨b0, b1, b2, b3⟩ := row4T HNB.out.bx
    have f0 := frozen_of_row _ _ 0 _ _ HNB.out.bx
    have f1 := frozen_of_row _ _ 1 _ _ HNB.out.bx
    have f2 := frozen_of_row _ _ 2 _ _ HNB.out.bx
    have f3 := frozen_of_row _ _ 3 _ _ HNB.out.bx
    go_simp
    have HT := Lib.hid (store4B (.int .i64 X.r) (.int .i64 X.s) (.int .i64 X.n) (.slice X.p X.L.length X.c) HNB.out.bx)
    have HZL := Lib.hid hHeld.out
    refine hK.out _ _ (fun h => by cases h) (fun _ => ?_)
    clear hK Kz
    try simp only [Act.put, zA, zB, zC]
    refine anyV_ready (rs := [14]) (by kernel_rfl) (by simp) ?_
    refine EachV.cons (o := ⟨_, _, _, _, _, _⟩) rfl (fun Kz hK => ?_) EachV.nil
    go_simp
    refine hK.out _ _ (fun h => by cases h) (fun _ => ?_)
    clear hK Kz
    try simp only [Act.put, zA, zB, zC]
    refine anyV_done (by kernel_rfl) ?_ _
    clear b0 b1 b2 b3 f0 f1 f2 f3 hHeld
    go_wp2_with fail
    go_meet
    first
    | exact ⟨_, _, rfl, rfl, Lib.hid (And.intro (HZL.out.1.put HT.out.2 HNB.out.lo.1) (And.intro (HZL.out.2.put HT.out.2 (fun b hb e => by have := Option.some.inj e; have := HNB.out.lo; omega)) (HNB.out.bg HT.out.1 HT.out.2)))⟩
    | exact ⟨_, _, rfl, rfl, Lib.hid (And.intro (HS0.out.1.keep (World.grownBy_alloc _ _ none)) (And.intro (HS0.out.2.keep (World.grownBy_alloc _ _ none)) (nbg_aZ X.r X.s X.n HRB.out.1 HRB.out.2 HLO.out.1)))⟩
   ·first | (have HNB := Lib.hid (nb_aZ (lo1 := Z2) (lo2 := Z3) HRB.out.1 HRB.out.2 HLO.out)) | (have HNB := Lib.hid (nb_bZ (lo1 := Z2) (lo2 := Z3) HG6.out HRB.out.1 HRB.out.2 HLO.out))
    obtain ⟨b0, b1, b2, b3⟩ := row4T HNB.out.bx
    have f0 := frozen_of_row _ _ 0 _ _ HNB.out.bx
    have f1 := frozen_of_row _ _ 1 _ _ HNB.out.bx
    have f2 := frozen_of_row _ _ 2 _ _ HNB.out.bx
    have f3 := frozen_of_row _ _ 3 _ _ HNB.out.bx
    go_simp
    have HT := Lib.hid (store4B (.int .i64 X.r) (.int .i64 X.s) (.int .i64 X.n) (.slice X.p X.L.length X.c) HNB.out.bx)
    have HZL := Lib.hid hHeld.out
    refine hK.out _ _ (fun h => by cases h) (fun _ => ?_)
    clear hK Kz
    try simp only [Act.put, zA, zB, zC]
    refine anyV_ready (rs := [11]) (by kernel_rfl) (by simp) ?_
    refine EachV.cons (o := ⟨_, _, _, _, _, _⟩) rfl (fun Kz hK => ?_) EachV.nil
    go_simp
    refine hK.out _ _ (fun _ h => h) (fun _ => ?_)
    clear hK Kz
    try simp only [Act.put, zA, zB, zC]
    refine anyV_ready (rs := [14]) (by kernel_rfl) (by simp) ?_
    refine EachV.cons (o := ⟨_, _, _, _, _, _⟩) rfl (fun Kz hK => ?_) EachV.nil
    go_simp
    refine hK.out _ _ (fun h => by cases h) (fun _ => ?_)
    clear hK Kz
    try simp only [Act.put, zA, zB, zC]
    refine anyV_done (by kernel_rfl) ?_ _
    clear b0 b1 b2 b3 f0 f1 f2 f3 hHeld
    go_wp2_with fail
    go_meet
    first
    | exact ⟨_, _, rfl, rfl, Lib.hid (And.intro (HZL.out.1.put HT.out.2 HNB.out.lo.1) (And.intro (HZL.out.2.put HT.out.2 (fun b hb e => by have := Option.some.inj e; have := HNB.out.lo; omega)) (HNB.out.bg HT.out.1 HT.out.2)))⟩
    | exact ⟨_, _, rfl, rfl, Lib.hid (And.intro (HS0.out.1.keep (World.grownBy_alloc _ _ none)) (And.intro (HS0.out.2.keep (World.grownBy_alloc _ _ none)) (nbg_aZ X.r X.s X.n HRB.out.1 HRB.out.2 HLO.out.1)))⟩
 case rest =>
 clear K
 obtain ⟨g2, Z4, rfl, rfl, K⟩ := hcut
 obtain ⟨w14, hw14⟩ : ∃ w14, w14 = wc := ⟨_, rfl⟩
 rw [← hw14] at K ⊢
 clear hw14
 obtain ⟨d0, d1, d2, d3⟩ := row4T K.out.2.1.bx
 obtain ⟨m0, m1, m2, m3⟩ := row4T K.out.2.2.bx
 have hfb : (fb != fb) = false := by simp
 go_wp2_with fail
 refine (rSame_any X.r X.s X.n pm cm M X.r X.s X.n X.p X.c X.L _ _ w14 K.out.2.1.rd K.out.2.2.rd K.out.2.1.hl K.out.2.2.hl).mono ?_
 rintro e w15 ⟨rfl, hg⟩
 rw [smT_rows HMM.out]
 have K15 := Lib.hid (K.out.1.keep hg)
 clear hg K d0 d1 d2 d3 m0 m1 m2 m3
 simp only
 cases fb
 all_goals
  go_wp2_with fail
  exact ⟨⟨j + 1, by omega, congrArg _ (by omega), K15⟩, by simp only [RowKit.intOf]; omega⟩
end Go.Proofs.YtahafijpcmphaaaGreat

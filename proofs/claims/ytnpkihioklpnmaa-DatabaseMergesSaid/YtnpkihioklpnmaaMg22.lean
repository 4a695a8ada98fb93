/- Parts of the proof, packed: AdRNw, DbRPu, DbMrg, DbRMg. -/
import Derived.Test.YtnpkihioklpnmaaMg20
import Derived.Test.YtnpkihioklpnmaaMg21
import Derived.Laws.Cover1
import Derived.Test.YtnpkihioklpnmaaMg19
import Derived.Test.YtnpkihioklpnmaaMg18
import Derived.Test.YtnpkihioklpnmaaMg12
/- The reference's Newer of adverts. -/
namespace Go.Proofs.Ytnpkihioklpnmaa
open Go.RowKit Bs
set_option maxRecDepth 100000 in
set_option maxHeartbeats 6400000 in
theorem rnewer_any (A B : Ad) (q q2 : Nat → Prop) (w : World) (hA : AdOk w q A) (hB : AdOk w q2 B) :
    Calls Try.prog 30 #[A.val, B.val] w fun e w' => e = .returned (.bool (nwA A B)) ∧ w.grownBy w' none := by
  have HZ := Lib.hid (two_ads w A B)
  have HOK : Hid (TwoA _ A B q q2) := Lib.hid ⟨hA.keep HZ.out.2, hB.keep HZ.out.2⟩
  have HB := Lib.hid HZ.out.1
  have K := Lib.hid HZ.out.2
  clear HZ hA hB
  obtain ⟨X, hX⟩ : ∃ X, nwA A B = X := ⟨_, rfl⟩
  rw [hX]
  have HX := Lib.hid hX
  clear hX
  unfold Ad.val
  go_enter Try.func30, Try.ntmps30
  go_upto_region 1 with fail
  unfold adC at HB K HOK
  generalize (w.alloc _).alloc _ = wa at *
  have HB : Hid (wa.heap[w.heap.size]? = some (.cells (adC A) 38 (0, 0)) ∧ wa.heap[w.heap.size + 1]? = some (.cells (adC B) 38 (0, 0))) := HB
  have GZ : Hid (wa.grownBy wa none) := Lib.hid (grown_refl _ _)
  obtain ⟨a0, a1, a2, a3, a4, b0, b1, b2, b3, b4, -⟩ := keepTA HB.out GZ
  go_wp2_with fail
  refine (rvalidA_any A q _ HOK.out.a).mono ?_
  rintro e w1 ⟨rfl, hg⟩
  have G1 := Lib.hid hg
  clear hg a0 a1 a2 a3 a4 b0 b1 b2 b3 b4
  obtain ⟨a0, a1, a2, a3, a4, b0, b1, b2, b3, b4, -⟩ := keepTA HB.out G1
  obtain ⟨v1, hv1⟩ : ∃ v, vAd A = v := ⟨_, rfl⟩
  have HV1 := Lib.hid hv1
  rw [hv1]
  clear hv1
  cases v1 with
  | false =>
    obtain rfl : X = false := by rw [← HX.out]; unfold nwA; rw [HV1.out]; rfl
    go_wp2_with fail
    go_ret
    exact ⟨rfl, grown_trans K.out G1.out⟩
  | true =>
    go_wp2_with fail
    refine (rvalidA_any B q2 _ (HOK.out.b.keep G1.out)).mono ?_
    rintro e w2 ⟨rfl, hg⟩
    have G2 := Lib.hid (grown_trans G1.out hg)
    clear hg a0 a1 a2 a3 a4 b0 b1 b2 b3 b4
    obtain ⟨a0, a1, a2, a3, a4, b0, b1, b2, b3, b4, -⟩ := keepTA HB.out G2
    obtain ⟨v2, hv2⟩ : ∃ v, vAd B = v := ⟨_, rfl⟩
    have HV2 := Lib.hid hv2
    rw [hv2]
    clear hv2
    cases v2 with
    | false =>
      obtain rfl : X = false := by rw [← HX.out]; unfold nwA; rw [HV1.out, HV2.out]; rfl
      go_wp2_with fail
      go_ret
      exact ⟨rfl, grown_trans K.out G2.out⟩
    | true =>
      by_cases h : A.r = B.r
      · have h' : (A.r == B.r) = true := by simpa using h
        have HXE := Lib.hid ((nwA_ref HV1.out HV2.out h).symm.trans HX.out)
        clear HX h
        go_wp2_with fail
        refine (raenc_any A q _ (HOK.out.a.keep G2.out)).mono ?_
        rintro e w3 (⟨-, p3, c3, rfl, hR3, hp3, hg⟩ | ⟨hv, -⟩)
        rotate_left
        · rw [HV1.out] at hv; cases hv
        have G3 := Lib.hid (grown_trans G2.out hg)
        have HR3 := Lib.hid (And.intro hR3 hp3)
        clear hg a0 a1 a2 a3 a4 b0 b1 b2 b3 b4 hR3 hp3
        obtain ⟨a0, a1, a2, a3, a4, b0, b1, b2, b3, b4, -⟩ := keepTA HB.out G3
        go_wp2_with fail
        refine (raenc_any B q2 _ (HOK.out.b.keep G3.out)).mono ?_
        rintro e w4 (⟨-, p4, c4, rfl, hR4, hp4, hg⟩ | ⟨hv, -⟩)
        rotate_left
        · rw [HV2.out] at hv; cases hv
        have G4 := Lib.hid (grown_trans G3.out hg)
        have E1 := conv_nv (l := encA A) (k := (encA A).length) (pk_by _) rfl (HR3.out.1.keep hg) HR3.out.2
        have E2 := conv_nv (l := encA B) (k := (encA B).length) (pk_by _) rfl hR4 hp4
        clear hg a0 a1 a2 a3 a4 b0 b1 b2 b3 b4 hR4 hp4 HR3
        obtain ⟨a0, a1, a2, a3, a4, b0, b1, b2, b3, b4, -⟩ := keepTA HB.out G4
        obtain ⟨l, hl⟩ : ∃ l, encA A = l := ⟨_, rfl⟩
        obtain ⟨m, hm⟩ : ∃ m, encA B = m := ⟨_, rfl⟩
        rw [hl, hm] at HXE
        rw [hl] at E1 ⊢
        rw [hm] at E2 ⊢
        clear hl hm
        by_cases h1 : B.q < A.q
        · obtain rfl : X = true := by rw [← HXE.out, decide_eq_true h1]; rfl
          have h2 : A.q > B.q := h1
          have hd : decide (B.q < A.q) = true := decide_eq_true h1
          go_wp2_with fail
          go_ret
          exact ⟨rfl, grown_trans K.out G4.out⟩
        · by_cases h2 : A.q = B.q
          · have h2' : (A.q == B.q) = true := by simpa using h2
            have hd : decide (B.q < A.q) = false := decide_eq_false h1
            obtain ⟨g, hg⟩ : ∃ g, gtS l m = g := ⟨_, rfl⟩
            obtain rfl : X = g := by rw [← HXE.out, decide_eq_false h1, decide_eq_true h2, hg]; simp
            unfold gtS at hg
            have HGG := Lib.hid hg
            clear hg
            go_wp2_with fail
            go_ret
            exact ⟨by rw [← HGG.out, Bool.not_or]; rfl, grown_trans K.out G4.out⟩
          · have h2' : (A.q == B.q) = false := by simpa using h2
            have hd : decide (B.q < A.q) = false := decide_eq_false h1
            obtain rfl : X = false := by rw [← HXE.out, decide_eq_false h1, decide_eq_false h2]; rfl
            go_wp2_with fail
            go_ret
            exact ⟨rfl, grown_trans K.out G4.out⟩
      · have h' : (A.r == B.r) = false := by simpa using h
        obtain rfl : X = false := by rw [← HX.out]; unfold nwA; rw [HV1.out, HV2.out, decide_eq_false h]; rfl
        clear h
        go_wp2_with fail
        go_ret
        exact ⟨rfl, grown_trans K.out G2.out⟩
end Go.Proofs.Ytnpkihioklpnmaa

/- The reference's Put. -/
namespace Go.Proofs.Ytnpkihioklpnmaa
open Go.RowKit Bs
/-- While the reference's Put works: the arguments' boxes, the result's. -/
structure RpW (W : World) (l : List Ad) (p : Option Addr) (c : Nat) (A : Ad) (q : Nat → Prop) (w : World) : Prop where
  d : w.heap[W.heap.size]? = some (.cells #[.slice p l.length c] 25 (0, 0))
  a : w.heap[W.heap.size + 1]? = some (.cells #[.int .i64 A.r, .int .i64 A.q, .bool A.cp, .slice A.pL A.L.length A.cL, .slice A.pC A.C.length A.cC] 38 (0, 0))
  z : w.heap[W.heap.size + 2]? = some (.cells #[.slice none 0 0] 25 (0, 0))
  db : RdA w q (.slice p l.length c) l
  ok : AdOk w q A
  lt : ∀ b, q b → b < W.heap.size
  gr : W.grownBy w none
section
variable {W w w1 : World} {l : List Ad} {p : Option Addr} {c : Nat} {A B : Ad} {q : Nat → Prop} {u v v' : Value}
set_option maxRecDepth 100000 in
theorem RpW.keep (h : RpW W l p c A q w) (g : w.grownBy w1 none) : RpW W l p c A q w1 := ⟨kept_row h.d g (by simp), kept_row h.a g (by simp), kept_row h.z g (by simp), h.db.keep g, h.ok.keep g, h.lt, grown_trans h.gr g⟩
set_option maxRecDepth 100000 in
theorem RpW.sz (h : RpW W l p c A q w) : W.heap.size + 3 ≤ w.heap.size := World.lt_of_row' h.z
set_option maxRecDepth 100000 in
/-- A database is laid into the result's box. -/
theorem RpW.fin {m : List Ad} {p' : Option Addr} {c' : Nat} {s : Nat → Prop} (h : RpW W l p c A q w) (hm : RdA w s (.slice p' m.length c') m) (hs : ∀ b, s b → b ≠ W.heap.size + 2) :
    (w.setCell ⟨W.heap.size + 2, 0, none⟩ (.slice p' m.length c')).heap[W.heap.size + 2]? = some (.cells #[.slice p' m.length c'] 25 (0, 0)) ∧ RdA (w.setCell ⟨W.heap.size + 2, 0, none⟩ (.slice p' m.length c')) s (.slice p' m.length c') m ∧ W.grownBy (w.setCell ⟨W.heap.size + 2, 0, none⟩ (.slice p' m.length c')) none ∧ w.cell? ⟨W.heap.size + 2, 0, none⟩ = some (.slice none 0 0) ∧ w.frozen? ⟨W.heap.size + 2, 0, none⟩ = false := by
  have gs := grown_setCell w ⟨W.heap.size + 2, 0, none⟩ (.slice p' m.length c')
  exact ⟨d1_set _ h.z, hm.grown gs (fun b hb e => hs b hb (Option.some.inj e)), grown_new h.gr gs (by show W.heap.size ≤ W.heap.size + 2; omega), cell_of_row _ _ _ _ _ _ h.z, frozen_of_row _ _ 0 _ _ h.z⟩
end
set_option maxRecDepth 100000 in
theorem rp_start {w : World} {l : List Ad} {p : Option Addr} {c : Nat} {A : Ad} {q : Nat → Prop} (hR : RdA w q (.slice p l.length c) l) (hA : AdOk w q A) (hq : ∀ b, q b → b < w.heap.size) : RpW w l p c A q (((w.alloc (.cells #[.slice p l.length c] 25)).alloc (.cells #[.int .i64 A.r, .int .i64 A.q, .bool A.cp, .slice A.pL A.L.length A.cL, .slice A.pC A.C.length A.cC] 38)).alloc (.cells #[.slice none 0 0] 25)) := by
  obtain ⟨k1, k2, k3, k4, k5⟩ := three_boxesD w #[.slice p l.length c] #[.int .i64 A.r, .int .i64 A.q, .bool A.cp, .slice A.pL A.L.length A.cL, .slice A.pC A.C.length A.cC] #[.slice none 0 0] 25 38 25
  exact ⟨k1, k2, k3, hR.keep k4, hA.keep k4, hq, k4⟩
set_option maxRecDepth 100000 in
theorem nwA_fz (A B : Ad) : nwA (fz A) (fz B) = nwA A B := rfl
set_option maxRecDepth 100000 in
theorem nw_fz {A X B : Ad} (h : fz X = fz B) : nwA A X = nwA A B := by
  rw [← nwA_fz A X, h, nwA_fz]
set_option maxRecDepth 100000 in
set_option maxHeartbeats 12800000 in
theorem rputD_any (l : List Ad) (A : Ad) (p : Option Addr) (c : Nat) (q : Nat → Prop) (w : World) (hR : RdA w q (.slice p l.length c) l) (hn : p = none → c = 0) (hc : l.length ≤ c ∧ c ≤ 9223372036854775807) (hm : l.length ≤ 900) (hA : AdOk w q A) (hnA : AdNl A) (hq : ∀ b, q b → b < w.heap.size) :
    Calls Try.prog 27 #[.agg #[.slice p l.length c], .agg #[.int .i64 A.r, .int .i64 A.q, .bool A.cp, .slice A.pL A.L.length A.cL, .slice A.pC A.C.length A.cC]] w fun e w' => PutRes l A (fun b => q b ∨ w.heap.size ≤ b) w e w' := by
  have H0 := Lib.hid (rp_start hR hA hq)
  have HQ := Lib.hid hq
  have HNC := Lib.hid (And.intro hn hc)
  clear hR hA hq hn hc
  -- the database as it is
  have HSAME : Hid (∀ w9 : World, Hid (RpW w l p c A q w9) → pD l A = false → (w9.setCell ⟨w.heap.size + 2, 0, none⟩ (.slice p l.length c)).heap[w.heap.size + 2]? = some (.cells #[.slice p l.length c] 25 (0, 0)) ∧ PutRes l A (fun b => q b ∨ w.heap.size ≤ b) w (.returned (.tuple #[.agg #[.slice p l.length c], .bool false])) (w9.setCell ⟨w.heap.size + 2, 0, none⟩ (.slice p l.length c))) := Lib.hid (fun w9 h9 hp => by
    obtain ⟨t1, t2, t3, -, -⟩ := h9.out.fin h9.out.db (fun b hb => by have := HQ.out b hb; omega)
    exact ⟨t1, l, p, c, by rw [hp], by unfold putV; rw [hp]; rfl, t2.mono (fun b hb => Or.inl hb), HNC.out.2, HNC.out.1, t3⟩)
  go_enter Try.func27, Try.ntmps27
  go_upto_region 1 with fail
  generalize ((w.alloc _).alloc _).alloc _ = wa at *
  have c0 : wa.cell? ⟨w.heap.size, 0, none⟩ = some (.slice p l.length c) := cell_of_row _ _ _ _ _ _ H0.out.d
  go_wp2_with fail
  refine (rcheck8_any l p c _ wa H0.out.db (by omega)).mono ?_
  rintro e w1 ⟨rfl, hg⟩
  have H1 := Lib.hid (H0.out.keep hg)
  clear hg H0 c0
  obtain ⟨X, hX⟩ : ∃ X, chkD l = X := ⟨_, rfl⟩
  have HX := Lib.hid hX
  rw [hX]
  clear hX
  by_cases hx0 : X = 0
  · subst hx0
    have HOK : Hid (okD l = true) := Lib.hid (by unfold okD; rw [HX.out]; rfl)
    obtain ⟨a0, a1, a2, a3, a4⟩ := row5 H1.out.a
    go_wp2_with fail
    have hcall := rvalidA_any A _ w1 H1.out.ok
    unfold Ad.val at hcall
    refine hcall.mono ?_
    rintro e w2 ⟨rfl, hg⟩
    have H2 := Lib.hid (H1.out.keep hg)
    clear hg H1 a0 a1 a2 a3 a4 hcall
    obtain ⟨Y, hY⟩ : ∃ Y, vAd A = Y := ⟨_, rfl⟩
    have HY := Lib.hid hY
    rw [hY]
    clear hY
    have c0 : w2.cell? ⟨w.heap.size, 0, none⟩ = some (.slice p l.length c) := cell_of_row _ _ _ _ _ _ H2.out.d
    cases Y with
    | false =>
      have hp : pD l A = false := by unfold pD; rw [HOK.out, HY.out]; rfl
      have HF := Lib.hid (HSAME.out w2 H2 hp)
      have z0 : w2.cell? ⟨w.heap.size + 2, 0, none⟩ = some (.slice none 0 0) := cell_of_row _ _ _ _ _ _ H2.out.z
      have z1 := frozen_of_row _ _ 0 _ _ H2.out.z
      clear hp H2
      go_wp2_with fail
      refine bodyPost_ret (res_db_b rfl _ _ (w.heap.size + 2) _ rfl HF.out.1) rfl ?_
      exact HF.out.2
    | true =>
      obtain ⟨a0, a1, a2, a3, a4⟩ := row5 H2.out.a
      go_wp2_with fail
      refine (rfind_any l A.r p c _ w2 H2.out.db (by omega)).mono ?_
      rintro e w3 ⟨B, rfl, hB, hok, hg⟩
      have H3 := Lib.hid (H2.out.keep hg)
      obtain ⟨n1, n2⟩ := tone_box w3 #[.int .i64 B.r, .int .i64 B.q, .bool B.cp, .slice B.pL B.L.length B.cL, .slice B.pC B.C.length B.cC] 38
      have H4 := Lib.hid (And.intro (H3.out.keep n2) (And.intro n1 (hok.keep n2)))
      have HB := Lib.hid hB
      clear hok hg n1 n2 H2 H3 hB a0 a1 a2 a3 a4 c0
      obtain ⟨F, hF⟩ : ∃ F, fndA l A.r = F := ⟨_, rfl⟩
      rw [hF] at HB ⊢
      have HFF := Lib.hid hF
      clear hF
      go_upto_region 4 with fail
      generalize hw5 : w3.alloc _ = w5 at *
      generalize w3.heap.size = bx at *
      clear hw5
      cases F with
      | none =>
        have hp : pD l A = true := by unfold pD; rw [HOK.out, HY.out, chg_none HFF.out]; rfl
        have HP := Lib.hid hp
        clear hp
        obtain ⟨a0, a1, a2, a3, a4⟩ := row5 H4.out.1.a
        have c0 : w5.cell? ⟨w.heap.size, 0, none⟩ = some (.slice p l.length c) := cell_of_row _ _ _ _ _ _ H4.out.1.d
        go_wp2_with fail
        refine (rwith_any l A p c q w5 H4.out.1.db hm H4.out.1.ok hnA (fun b hb => by have := HQ.out b hb; have := H4.out.1.sz; omega) ⟨0, (okD_OkD HOK.out).asc⟩).mono ?_
        rintro e w6 ⟨m, p6, c6, rfl, hmm, hrd, hc6, hn6, hg⟩
        have H6 := Lib.hid (H4.out.1.keep hg)
        obtain ⟨t1, t2, t3, t4, t5⟩ := H6.out.fin hrd (fun b hb => hb.elim (fun h => by have := HQ.out b h; omega) (fun h => by have := H4.out.1.sz; omega))
        have HF : Hid (PutRes l A (fun b => q b ∨ w.heap.size ≤ b) w (.returned (.tuple #[.agg #[.slice p6 m.length c6], .bool true])) _) := Lib.hid ⟨m, p6, c6, by rw [HP.out], by unfold putV; rw [HP.out, if_pos rfl, hmm], t2.mono (fun b hb => hb.elim (fun h => Or.inl h) (fun h => Or.inr (by have := H4.out.1.gr.size; omega))), hc6, hn6, t3⟩
        have HT := Lib.hid t1
        clear t1 t2 t3 hrd hg hmm H6 H4 HP a0 a1 a2 a3 a4 c0
        go_wp2_with fail
        refine bodyPost_ret (res_db_b rfl _ _ (w.heap.size + 2) _ rfl HT.out) rfl ?_
        exact HF.out
      | some D =>
        have hfz : fz B = fz D := fz_eq.2 HB.out
        have HNW : Hid (chg l A = nwA A B) := Lib.hid (by rw [chg_some HFF.out, nw_fz hfz])
        clear hfz
        obtain ⟨a0, a1, a2, a3, a4⟩ := row5 H4.out.1.a
        obtain ⟨b0, b1, b2, b3, b4⟩ := row5 H4.out.2.1
        go_wp2_with fail
        have hcall := rnewer_any A B _ _ w5 H4.out.1.ok H4.out.2.2
        unfold Ad.val at hcall
        refine hcall.mono ?_
        rintro e w6 ⟨rfl, hg⟩
        have H6 := Lib.hid (H4.out.1.keep hg)
        clear hg H4 a0 a1 a2 a3 a4 b0 b1 b2 b3 b4 hcall
        obtain ⟨Z, hZ⟩ : ∃ Z, nwA A B = Z := ⟨_, rfl⟩
        rw [hZ] at HNW ⊢
        clear hZ
        have hp : pD l A = Z := by unfold pD; rw [HOK.out, HY.out, HNW.out]; rfl
        have HP := Lib.hid hp
        clear hp
        have c0 : w6.cell? ⟨w.heap.size, 0, none⟩ = some (.slice p l.length c) := cell_of_row _ _ _ _ _ _ H6.out.d
        cases Z with
        | false =>
          have HF := Lib.hid (HSAME.out w6 H6 HP.out)
          have z0 : w6.cell? ⟨w.heap.size + 2, 0, none⟩ = some (.slice none 0 0) := cell_of_row _ _ _ _ _ _ H6.out.z
          have z1 := frozen_of_row _ _ 0 _ _ H6.out.z
          clear H6
          go_wp2_with fail
          refine bodyPost_ret (res_db_b rfl _ _ (w.heap.size + 2) _ rfl HF.out.1) rfl ?_
          exact HF.out.2
        | true =>
          obtain ⟨a0, a1, a2, a3, a4⟩ := row5 H6.out.a
          go_wp2_with fail
          refine (rwith_any l A p c q w6 H6.out.db hm H6.out.ok hnA (fun b hb => by have := HQ.out b hb; have := H6.out.sz; omega) ⟨0, (okD_OkD HOK.out).asc⟩).mono ?_
          rintro e w7 ⟨m, p6, c6, rfl, hmm, hrd, hc6, hn6, hg⟩
          have H7 := Lib.hid (H6.out.keep hg)
          obtain ⟨t1, t2, t3, t4, t5⟩ := H7.out.fin hrd (fun b hb => hb.elim (fun h => by have := HQ.out b h; omega) (fun h => by have := H6.out.sz; omega))
          have HF : Hid (PutRes l A (fun b => q b ∨ w.heap.size ≤ b) w (.returned (.tuple #[.agg #[.slice p6 m.length c6], .bool true])) _) := Lib.hid ⟨m, p6, c6, by rw [HP.out], by unfold putV; rw [HP.out, if_pos rfl, hmm], t2.mono (fun b hb => hb.elim (fun h => Or.inl h) (fun h => Or.inr (by have := H6.out.gr.size; omega))), hc6, hn6, t3⟩
          have HT := Lib.hid t1
          clear t1 t2 t3 hrd hg hmm H7 H6 HP a0 a1 a2 a3 a4 c0
          go_wp2_with fail
          refine bodyPost_ret (res_db_b rfl _ _ (w.heap.size + 2) _ rfl HT.out) rfl ?_
          exact HF.out
  · have hxb : (X == 0) = false := by simpa using hx0
    have hp : pD l A = false := by unfold pD okD; rw [HX.out, hxb]; rfl
    have HF := Lib.hid (HSAME.out w1 H1 hp)
    have c0 : w1.cell? ⟨w.heap.size, 0, none⟩ = some (.slice p l.length c) := cell_of_row _ _ _ _ _ _ H1.out.d
    have z0 : w1.cell? ⟨w.heap.size + 2, 0, none⟩ = some (.slice none 0 0) := cell_of_row _ _ _ _ _ _ H1.out.z
    have z1 := frozen_of_row _ _ 0 _ _ H1.out.z
    clear hp H1
    go_wp2_with fail
    refine bodyPost_ret (res_db_b rfl _ _ (w.heap.size + 2) _ rfl HF.out.1) rfl ?_
    exact HF.out.2
end Go.Proofs.Ytnpkihioklpnmaa

/- database: Merge. -/
namespace Go.Proofs.Ytnpkihioklpnmaa
open Go.RowKit Bs
def mgK (a b : List Ad) : Bool := okD a && okD b
/-- What Merge gives. -/
def mgV (a b : List Ad) : List Ad := if mgK a b = true then b.foldl put1 a else []
def mgE (a b : List Ad) : Int := if mgK a b = true then 0 else 1
set_option maxRecDepth 100000 in
theorem mg_false {a b : List Ad} (h : mgK a b = false) : mgV a b = [] ∧ mgE a b = 1 := by unfold mgV mgE; rw [h]; exact ⟨rfl, rfl⟩
set_option maxRecDepth 100000 in
theorem mg_true {a b : List Ad} (h : mgK a b = true) : mgV a b = b.foldl put1 a ∧ mgE a b = 0 := by unfold mgV mgE; rw [h]; exact ⟨rfl, rfl⟩
def MgRes (a b : List Ad) (q : Nat → Prop) (W : World) (e : Ending) (w' : World) : Prop :=
  ∃ (m : List Ad) (p : Option Addr) (c : Nat), e = .returned (.tuple #[.agg #[.slice p m.length c], .int .i64 (mgE a b)]) ∧ m.map fz = (mgV a b).map fz ∧ RdA w' q (.slice p m.length c) m ∧ (m.length ≤ c ∧ c ≤ 9223372036854775807) ∧ (p = none → c = 0) ∧ W.grownBy w' none
/-- While Merge works: the arguments' boxes, the result's. -/
structure MgW (W : World) (a : List Ad) (p : Option Addr) (c : Nat) (b : List Ad) (p2 : Option Addr) (c2 : Nat) (w : World) : Prop where
  x : w.heap[W.heap.size]? = some (.cells #[.slice p a.length c] 25 (0, 0))
  y : w.heap[W.heap.size + 1]? = some (.cells #[.slice p2 b.length c2] 25 (0, 0))
  z : w.heap[W.heap.size + 2]? = some (.cells #[.slice none 0 0] 25 (0, 0))
  ra : RdA w (· < W.heap.size) (.slice p a.length c) a
  rb : RdA w (· < W.heap.size) (.slice p2 b.length c2) b
  gr : W.grownBy w none
section
variable {W w w1 : World} {a b m : List Ad} {p p2 p' : Option Addr} {c c2 c' base : Nat} {v : Value}
set_option maxRecDepth 100000 in
theorem MgW.grown {r : Option Nat} (h : MgW W a p c b p2 c2 w) (g : w.grownBy w1 r) (hr : ∀ x, r = some x → W.heap.size + 3 ≤ x) : MgW W a p c b p2 c2 w1 := by
  have hne : ∀ x, x < W.heap.size + 3 → some x ≠ r := fun x hx e => by have := hr x e.symm; omega
  refine ⟨kept_row h.x g (hne _ (by omega)), kept_row h.y g (hne _ (by omega)), kept_row h.z g (hne _ (by omega)), h.ra.grown g (fun x hx => hne _ (by omega)), h.rb.grown g (fun x hx => hne _ (by omega)), ?_⟩
  cases hvb : r with
  | none => rw [hvb] at g; exact grown_trans h.gr g
  | some x => rw [hvb] at g; exact grown_new h.gr g (by have := hr x hvb; omega)
set_option maxRecDepth 100000 in
theorem MgW.keep (h : MgW W a p c b p2 c2 w) (g : w.grownBy w1 none) : MgW W a p c b p2 c2 w1 := h.grown g (fun _ e => by cases e)
set_option maxRecDepth 100000 in
/-- The row is given back in the result's box. -/
theorem MgW.fin (h : MgW W a p c b p2 c2 w) (hb : W.heap.size + 3 ≤ base) (hO : OwnD base m (.slice p' m.length c') w) :
    (w.setCell ⟨W.heap.size + 2, 0, none⟩ (.slice p' m.length c')).heap[W.heap.size + 2]? = some (.cells #[.slice p' m.length c'] 25 (0, 0)) ∧ OwnD base m (.slice p' m.length c') (w.setCell ⟨W.heap.size + 2, 0, none⟩ (.slice p' m.length c')) ∧ W.grownBy (w.setCell ⟨W.heap.size + 2, 0, none⟩ (.slice p' m.length c')) none ∧ w.cell? ⟨W.heap.size + 2, 0, none⟩ = some (.slice none 0 0) ∧ w.frozen? ⟨W.heap.size + 2, 0, none⟩ = false := by
  have gs := grown_setCell w ⟨W.heap.size + 2, 0, none⟩ (.slice p' m.length c')
  exact ⟨d1_set _ h.z, hO.grown gs (fun x e => by have : W.heap.size + 2 = x := Option.some.inj e; omega), grown_new h.gr gs (by show W.heap.size ≤ W.heap.size + 2; omega), cell_of_row _ _ _ _ _ _ h.z, frozen_of_row _ _ 0 _ _ h.z⟩
end
set_option maxRecDepth 100000 in
theorem mg_start {w : World} {a b : List Ad} {p p2 : Option Addr} {c c2 : Nat} {q q2 : Nat → Prop} (h1 : RdA w q (.slice p a.length c) a) (h2 : RdA w q2 (.slice p2 b.length c2) b) : MgW w a p c b p2 c2 (((w.alloc (.cells #[.slice p a.length c] 25)).alloc (.cells #[.slice p2 b.length c2] 25)).alloc (.cells #[.slice none 0 0] 25)) ∧ (((w.alloc (.cells #[.slice p a.length c] 25)).alloc (.cells #[.slice p2 b.length c2] 25)).alloc (.cells #[.slice none 0 0] 25)).heap.size = w.heap.size + 3 := by
  obtain ⟨k1, k2, k3, k4, k5⟩ := three_boxesD w #[.slice p a.length c] #[.slice p2 b.length c2] #[.slice none 0 0] 25 25 25
  exact ⟨⟨k1, k2, k3, h1.old.keep k4, h2.old.keep k4, k4⟩, k5⟩
set_option maxRecDepth 100000 in
theorem ownD_nil (base : Nat) (w : World) : OwnD base [] (.slice none 0 0) w := ⟨World.ownsRow_nil _ _ _ _, (fun A h => by cases h), (fun A h => by cases h)⟩
set_option maxRecDepth 100000 in
theorem fold_take {a b : List Ad} {k : Nat} {B : Ad} (h : b[k]? = some B) : (b.take (k + 1)).foldl put1 a = put1 ((b.take k).foldl put1 a) B := by
  rw [List.take_add_one, h, List.foldl_append]
  rfl
set_option maxRecDepth 100000 in
set_option maxHeartbeats 6400000 in
theorem dmerge_any (a b : List Ad) (p p2 : Option Addr) (c c2 : Nat) (q q2 : Nat → Prop) (w : World) (h1 : RdA w q (.slice p a.length c) a) (hn : p = none → c = 0) (hc : a.length ≤ c ∧ c ≤ 9223372036854775807) (hm : a.length ≤ 900) (hs : ∀ A ∈ a, A.L.length ≤ 1000 ∧ A.C.length ≤ 1000)
    (h2 : RdA w q2 (.slice p2 b.length c2) b) (hm2 : b.length ≤ 900) (hs2 : ∀ A ∈ b, A.L.length ≤ 1000 ∧ A.C.length ≤ 1000) :
    Calls Try.prog 28 #[.agg #[.slice p a.length c], .agg #[.slice p2 b.length c2]] w fun e w' => MgRes a b (w.heap.size ≤ ·) w e w' := by
  have H0 := Lib.hid (mg_start h1 h2).1
  have HS0 := Lib.hid (mg_start h1 h2).2
  clear h1 h2
  go_enter Try.func28, Try.ntmps28
  go_upto_region 1 with fail
  generalize ((w.alloc _).alloc _).alloc _ = wa at *
  have c0 : wa.cell? ⟨w.heap.size, 0, none⟩ = some (.slice p a.length c) := cell_of_row _ _ _ _ _ _ H0.out.x
  go_wp2_with fail
  refine (dvalid_any a p c _ wa H0.out.ra (by omega)).mono ?_
  rintro e w1 ⟨rfl, hg⟩
  have H1 := Lib.hid (H0.out.keep hg)
  have HS1 : Hid (w.heap.size + 3 ≤ w1.heap.size) := Lib.hid (by have := hg.size; have := HS0.out; omega)
  clear hg H0 HS0 c0
  obtain ⟨X, hX⟩ : ∃ X, okD a = X := ⟨_, rfl⟩
  have HX := Lib.hid hX
  rw [hX]
  clear hX
  cases X with
  | false =>
    have hk := mg_false (a := a) (b := b) (by unfold mgK; rw [HX.out]; rfl)
    obtain ⟨t1, t2, t3, t4, t5⟩ := H1.out.fin HS1.out (ownD_nil _ _)
    have HF : Hid (MgRes a b (w.heap.size ≤ ·) w (.returned (.tuple #[.agg #[.slice none 0 0], .int .i64 1])) _) := Lib.hid ⟨[], none, 0, by rw [hk.2]; rfl, by rw [hk.1], t2.rda.2.mono (fun x hx => by have := HS1.out; omega), ⟨Nat.le_refl _, by omega⟩, fun _ => rfl, t3⟩
    have HT := Lib.hid t1
    have t4 : w1.cell? ⟨w.heap.size + 2, 0, none⟩ = some (.slice none 0 0) := t4
    clear t1 t2 t3 hk H1
    go_wp2_with fail
    refine bodyPost_ret (res_db_b rfl _ _ (w.heap.size + 2) _ rfl HT.out) rfl ?_
    exact HF.out
  | true =>
    have c1 : w1.cell? ⟨w.heap.size + 1, 0, none⟩ = some (.slice p2 b.length c2) := cell_of_row _ _ _ _ _ _ H1.out.y
    go_wp2_with fail
    refine (dvalid_any b p2 c2 _ w1 H1.out.rb (by omega)).mono ?_
    rintro e w2 ⟨rfl, hg⟩
    have H2 := Lib.hid (H1.out.keep hg)
    have HS2 : Hid (w.heap.size + 3 ≤ w2.heap.size) := Lib.hid (by have := hg.size; have := HS1.out; omega)
    clear hg H1 HS1 c1
    obtain ⟨Y, hY⟩ : ∃ Y, okD b = Y := ⟨_, rfl⟩
    have HY := Lib.hid hY
    rw [hY]
    clear hY
    cases Y with
    | false =>
      have hk := mg_false (a := a) (b := b) (by unfold mgK; rw [HX.out, HY.out]; rfl)
      obtain ⟨t1, t2, t3, t4, t5⟩ := H2.out.fin HS2.out (ownD_nil _ _)
      have HF : Hid (MgRes a b (w.heap.size ≤ ·) w (.returned (.tuple #[.agg #[.slice none 0 0], .int .i64 1])) _) := Lib.hid ⟨[], none, 0, by rw [hk.2]; rfl, by rw [hk.1], t2.rda.2.mono (fun x hx => by have := HS2.out; omega), ⟨Nat.le_refl _, by omega⟩, fun _ => rfl, t3⟩
      have HT := Lib.hid t1
      clear t1 t2 t3 hk H2
      go_wp2_with fail
      refine bodyPost_ret (res_db_b rfl _ _ (w.heap.size + 2) _ rfl HT.out) rfl ?_
      exact HF.out
    | true =>
      have hk := mg_true (a := a) (b := b) (by unfold mgK; rw [HX.out, HY.out]; rfl)
      have HK := Lib.hid hk
      have HOA := Lib.hid (okD_OkD HX.out)
      have HOB := Lib.hid (okD_OkD HY.out)
      clear hk
      have c0 : w2.cell? ⟨w.heap.size, 0, none⟩ = some (.slice p a.length c) := cell_of_row _ _ _ _ _ _ H2.out.x
      go_wp2_with fail
      refine (dcopies_any a p c _ w2 H2.out.ra hn hc (by omega) hs).mono ?_
      rintro e w3 ⟨m0, v0, rfl, hfz, hO, hg⟩
      have H3 := Lib.hid (H2.out.keep hg)
      obtain ⟨base, hbase⟩ : ∃ base, w2.heap.size = base := ⟨_, rfl⟩
      rw [hbase] at hO
      have HS3 : Hid (w.heap.size + 3 ≤ base) := Lib.hid (by rw [← hbase]; exact HS2.out)
      have HO := Lib.hid (And.intro hO (And.intro (show base ≤ w3.heap.size by rw [← hbase]; exact hg.size) (show m0.map fz = ((b.take 0).foldl put1 a).map fz by rw [List.take_zero]; exact hfz)))
      clear hfz hO hg hbase H2 HS2 c0
      have c1 : w3.cell? ⟨w.heap.size + 1, 0, none⟩ = some (.slice p2 b.length c2) := cell_of_row _ _ _ _ _ _ H3.out.y
      go_wp2_with fail
      clear c1
      go_loopw [6, 24] (fun u x wr => ∃ (k : Nat) (m : List Ad), k ≤ b.length ∧ x = .int .i64 (k : Int) ∧ Hid (MgW w a p c b p2 c2 wr) ∧ Hid (OwnD base m u wr ∧ base ≤ wr.heap.size ∧ m.map fz = ((b.take k).foldl put1 a).map fz)) (fun _ x _ => b.length - (RowKit.intOf x).toNat)
      case atStart => exact ⟨0, m0, Nat.zero_le _, rfl, H3, HO⟩
      case round =>
      obtain ⟨k, m, hk, rfl, K, KO⟩ := hrel
      clear H3 HO
      obtain ⟨pv, cv, rfl, hcv, hnv⟩ := KO.out.1.shape
      by_cases hlt : k < b.length
      · obtain ⟨-, g, off, rfl, -, -⟩ := rda_cells K.out.rb (by omega)
        obtain ⟨A, hA⟩ : ∃ A, b[k]? = some A := ⟨_, List.getElem?_eq_getElem hlt⟩
        obtain ⟨a0, a1, a2, a3, a4⟩ := rda_at K.out.rb hA
        have HA := Lib.hid (And.intro hA (List.mem_of_getElem? hA))
        have gal := World.grownBy_alloc wr (.cells #[.int .i64 A.r, .int .i64 A.q, .bool A.cp, .slice A.pL A.L.length A.cL, .slice A.pC A.C.length A.cC] 38) none
        have K1 := Lib.hid (And.intro (K.out.keep gal) (heap_alloc_new wr (.cells #[.int .i64 A.r, .int .i64 A.q, .bool A.cp, .slice A.pL A.L.length A.cL, .slice A.pC A.C.length A.cC] 38)))
        have KO1 := Lib.hid (And.intro (KO.out.1.keep gal) (And.intro (Nat.le_trans KO.out.2.1 gal.size) KO.out.2.2))
        clear hA gal K KO
        go_upto_region 7 with fail
        clear a0 a1 a2 a3 a4
        generalize wr.alloc _ = wy at *
        obtain ⟨d0, d1, d2, d3, d4⟩ := row5 K1.out.2
        have hOk : OkD ((b.take k).foldl put1 a) := HOA.out.mrg (fun B hB => HOB.out.v B (List.mem_of_mem_take hB))
        have hOm : OkD m := okD_OkD (by rw [← okD_fz m, KO1.out.2.2, okD_fz]; exact hOk.ok)
        have HPE := Lib.hid (pD_eq KO1.out.2.2 A).2.2.2.1
        go_wp2_with fail
        refine (dput1_any m A base (.slice pv m.length cv) _ wy KO1.out.1 KO1.out.2.1 (by have := hOm.len; omega) hOm.pair (K1.out.1.rb.ok A HA.out.2) (K1.out.1.rb.nl A HA.out.2) (hs2 A HA.out.2)).mono ?_
        rintro e w5 ⟨m2, v', rfl, hmf, hO, hg⟩
        have K2 := Lib.hid (K1.out.1.grown hg (fun x e => by have := (KO1.out.1.own.lt x e).1; have := HS3.out; omega))
        have KO2 : Hid (OwnD base m2 v' w5 ∧ base ≤ w5.heap.size ∧ m2.map fz = ((b.take (k + 1)).foldl put1 a).map fz) := Lib.hid ⟨hO, Nat.le_trans KO1.out.2.1 hg.size, by rw [fold_take HA.out.1, hmf, HPE.out]⟩
        clear hOk hOm HPE hmf hO hg K1 KO1 d0 d1 d2 d3 d4
        obtain ⟨cb, hcb⟩ : ∃ cb, chg m A = cb := ⟨_, rfl⟩
        rw [hcb]
        clear hcb
        go_wp2_with fail
        exact ⟨⟨k + 1, m2, by omega, congrArg _ (by omega), K2, KO2⟩, by simp only [RowKit.intOf]; omega⟩
      · obtain rfl : k = b.length := by omega
        obtain ⟨t1, t2, t3, t4, t5⟩ := K.out.fin HS3.out KO.out.1
        have HF : Hid (MgRes a b (w.heap.size ≤ ·) w (.returned (.tuple #[.agg #[.slice pv m.length cv], .int .i64 0])) _) := Lib.hid ⟨m, pv, cv, by rw [HK.out.2], by rw [HK.out.1, KO.out.2.2, List.take_length], t2.rda.2.mono (fun x hx => by have := HS3.out; omega), hcv, hnv, t3⟩
        have HT := Lib.hid t1
        clear t1 t2 t3 K KO
        go_wp2_with fail
        refine bodyPost_ret (res_db_b rfl _ _ (w.heap.size + 2) _ rfl HT.out) rfl ?_
        exact HF.out
end Go.Proofs.Ytnpkihioklpnmaa

/- The reference's Merge. -/
namespace Go.Proofs.Ytnpkihioklpnmaa
open Go.RowKit Bs
set_option maxRecDepth 100000 in
theorem RdA.and {w : World} {q : Nat → Prop} {v : Value} {l : List Ad} (h : RdA w q v l) : RdA w (fun b => q b ∧ b < w.heap.size) v l := ⟨rdf_and h.row, fun A hA => (h.ok A hA).and, h.nl⟩
/-- While the reference's Merge works: what has been merged lies in the first argument's box. -/
structure MrW (W : World) (m : List Ad) (p : Option Addr) (c : Nat) (b : List Ad) (p2 : Option Addr) (c2 : Nat) (q : Nat → Prop) (w : World) : Prop where
  x : w.heap[W.heap.size]? = some (.cells #[.slice p m.length c] 25 (0, 0))
  y : w.heap[W.heap.size + 1]? = some (.cells #[.slice p2 b.length c2] 25 (0, 0))
  z : w.heap[W.heap.size + 2]? = some (.cells #[.slice none 0 0] 25 (0, 0))
  ra : RdA w (fun b => q b ∨ W.heap.size + 3 ≤ b) (.slice p m.length c) m
  rb : RdA w q (.slice p2 b.length c2) b
  lt : ∀ b, q b → b < W.heap.size
  gr : W.grownBy w none
section
variable {W w w1 : World} {m m2 b : List Ad} {p p2 p3 : Option Addr} {c c2 c3 : Nat} {q : Nat → Prop}
set_option maxRecDepth 100000 in
theorem MrW.keep (h : MrW W m p c b p2 c2 q w) (g : w.grownBy w1 none) : MrW W m p c b p2 c2 q w1 := ⟨kept_row h.x g (by simp), kept_row h.y g (by simp), kept_row h.z g (by simp), h.ra.keep g, h.rb.keep g, h.lt, grown_trans h.gr g⟩
set_option maxRecDepth 100000 in
theorem MrW.sz (h : MrW W m p c b p2 c2 q w) : W.heap.size + 3 ≤ w.heap.size := World.lt_of_row' h.z
set_option maxRecDepth 100000 in
theorem MrW.put (h : MrW W m p c b p2 c2 q w) (hm : RdA w (fun b => q b ∨ W.heap.size + 3 ≤ b) (.slice p3 m2.length c3) m2) : MrW W m2 p3 c3 b p2 c2 q (w.setCell ⟨W.heap.size, 0, none⟩ (.slice p3 m2.length c3)) := by
  have g := grown_setCell w ⟨W.heap.size, 0, none⟩ (.slice p3 m2.length c3)
  have hne : ∀ x, x ≠ W.heap.size → some x ≠ some W.heap.size := fun x hx e => hx (Option.some.inj e)
  exact ⟨d1_set _ h.x, kept_row h.y g (hne _ (by omega)), kept_row h.z g (hne _ (by omega)), hm.grown g (fun b hb => hne b (hb.elim (fun h2 => by have := h.lt b h2; omega) (fun h2 => by omega))), h.rb.grown g (fun b hb => hne b (by have := h.lt b hb; omega)), h.lt, grown_new h.gr g (Nat.le_refl _)⟩
set_option maxRecDepth 100000 in
theorem MrW.e (h : MrW W m p c b p2 c2 q w) : w.cell? ⟨W.heap.size, 0, none⟩ = some (.slice p m.length c) ∧ w.frozen? ⟨W.heap.size, 0, none⟩ = false ∧ w.cell? ⟨W.heap.size + 1, 0, none⟩ = some (.slice p2 b.length c2) ∧ w.cell? ⟨W.heap.size + 2, 0, none⟩ = some (.slice none 0 0) ∧ w.frozen? ⟨W.heap.size + 2, 0, none⟩ = false := ⟨cell_of_row _ _ _ _ _ _ h.x, frozen_of_row _ _ 0 _ _ h.x, cell_of_row _ _ _ _ _ _ h.y, cell_of_row _ _ _ _ _ _ h.z, frozen_of_row _ _ 0 _ _ h.z⟩
set_option maxRecDepth 100000 in
/-- The result. -/
theorem MrW.fin (h : MrW W m p c b p2 c2 q w) (hm : RdA w (fun b => q b ∨ W.heap.size + 3 ≤ b) (.slice p3 m2.length c3) m2) :
    (w.setCell ⟨W.heap.size + 2, 0, none⟩ (.slice p3 m2.length c3)).heap[W.heap.size + 2]? = some (.cells #[.slice p3 m2.length c3] 25 (0, 0)) ∧ RdA (w.setCell ⟨W.heap.size + 2, 0, none⟩ (.slice p3 m2.length c3)) (fun b => q b ∨ W.heap.size ≤ b) (.slice p3 m2.length c3) m2 ∧ W.grownBy (w.setCell ⟨W.heap.size + 2, 0, none⟩ (.slice p3 m2.length c3)) none := by
  have g := grown_setCell w ⟨W.heap.size + 2, 0, none⟩ (.slice p3 m2.length c3)
  exact ⟨d1_set _ h.z, (hm.grown g (fun b hb e => by have e2 : b = W.heap.size + 2 := Option.some.inj e; rcases hb with h2 | h2; (have := h.lt b h2; omega); omega)).mono (fun b hb => hb.elim (fun h2 => Or.inl h2) (fun h2 => Or.inr (by omega))), grown_new h.gr g (by show W.heap.size ≤ W.heap.size + 2; omega)⟩
end
set_option maxRecDepth 100000 in
theorem mr_start {w : World} {a b : List Ad} {p p2 : Option Addr} {c c2 : Nat} {q : Nat → Prop} (h1 : RdA w q (.slice p a.length c) a) (h2 : RdA w q (.slice p2 b.length c2) b) (hq : ∀ b, q b → b < w.heap.size) : MrW w a p c b p2 c2 q (((w.alloc (.cells #[.slice p a.length c] 25)).alloc (.cells #[.slice p2 b.length c2] 25)).alloc (.cells #[.slice none 0 0] 25)) := by
  obtain ⟨k1, k2, k3, k4, k5⟩ := three_boxesD w #[.slice p a.length c] #[.slice p2 b.length c2] #[.slice none 0 0] 25 25 25
  exact ⟨k1, k2, k3, (h1.keep k4).mono (fun b hb => Or.inl hb), h2.keep k4, hq, k4⟩
set_option maxRecDepth 100000 in
theorem foldV_take {a b : List Ad} {k : Nat} {B : Ad} (h : b[k]? = some B) : (b.take (k + 1)).foldl putV a = putV ((b.take k).foldl putV a) B := by
  rw [List.take_add_one, h, List.foldl_append]
  rfl
set_option maxRecDepth 100000 in
set_option maxHeartbeats 12800000 in
theorem rmerge_any (a b : List Ad) (p p2 : Option Addr) (c c2 : Nat) (q : Nat → Prop) (w : World) (h1 : RdA w q (.slice p a.length c) a) (hn : p = none → c = 0) (hc : a.length ≤ c ∧ c ≤ 9223372036854775807) (hm : a.length ≤ 900)
    (h2 : RdA w q (.slice p2 b.length c2) b) (hm2 : b.length ≤ 900) (hq : ∀ b, q b → b < w.heap.size) :
    Calls Try.prog 29 #[.agg #[.slice p a.length c], .agg #[.slice p2 b.length c2]] w fun e w' => MgRes a b (fun b => q b ∨ w.heap.size ≤ b) w e w' := by
  have H0 := Lib.hid (mr_start h1 h2 hq)
  clear h1 h2 hq
  have HFAIL : Hid (∀ w9 : World, Hid (MrW w a p c b p2 c2 q w9) → mgK a b = false → (w9.setCell ⟨w.heap.size + 2, 0, none⟩ (.slice none 0 0)).heap[w.heap.size + 2]? = some (.cells #[.slice none 0 0] 25 (0, 0)) ∧ MgRes a b (fun b => q b ∨ w.heap.size ≤ b) w (.returned (.tuple #[.agg #[.slice none 0 0], .int .i64 1])) (w9.setCell ⟨w.heap.size + 2, 0, none⟩ (.slice none 0 0))) := Lib.hid (fun w9 h9 hk => by
    obtain ⟨t1, t2, t3⟩ := h9.out.fin (m2 := []) (p3 := none) (c3 := 0) (rda_nil _ _)
    exact ⟨t1, [], none, 0, by rw [(mg_false hk).2]; rfl, by rw [(mg_false hk).1], t2, ⟨Nat.le_refl _, by omega⟩, fun _ => rfl, t3⟩)
  go_enter Try.func29, Try.ntmps29
  go_upto_region 1 with fail
  generalize ((w.alloc _).alloc _).alloc _ = wa at *
  obtain ⟨e0, e1, e2, e3, e4⟩ := H0.out.e
  go_wp2_with fail
  refine (rcheck8_any a p c _ wa H0.out.ra (by omega)).mono ?_
  rintro e w1 ⟨rfl, hg⟩
  have H1 := Lib.hid (H0.out.keep hg)
  clear hg H0 e0 e1 e2 e3 e4
  obtain ⟨X, hX⟩ : ∃ X, chkD a = X := ⟨_, rfl⟩
  have HX := Lib.hid hX
  rw [hX]
  clear hX
  obtain ⟨e0, e1, e2, e3, e4⟩ := H1.out.e
  by_cases hx0 : X = 0
  · subst hx0
    have HOA : Hid (okD a = true) := Lib.hid (by unfold okD; rw [HX.out]; rfl)
    go_wp2_with fail
    refine (rcheck8_any b p2 c2 _ w1 H1.out.rb (by omega)).mono ?_
    rintro e w2 ⟨rfl, hg⟩
    have H2 := Lib.hid (H1.out.keep hg)
    clear hg H1 e0 e1 e2 e3 e4
    obtain ⟨Y, hY⟩ : ∃ Y, chkD b = Y := ⟨_, rfl⟩
    have HY := Lib.hid hY
    rw [hY]
    clear hY
    by_cases hy0 : Y = 0
    · subst hy0
      have HOB : Hid (okD b = true) := Lib.hid (by unfold okD; rw [HY.out]; rfl)
      have HK : Hid (mgV a b = b.foldl put1 a ∧ mgE a b = 0) := Lib.hid (mg_true (by unfold mgK; rw [HOA.out, HOB.out]; rfl))
      go_wp2_with fail
      go_loopw [6] (fun x wr => ∃ (k : Nat) (m : List Ad) (pm : Option Addr) (cm : Nat), k ≤ b.length ∧ x = .int .i64 (k : Int) ∧ Hid (MrW w m pm cm b p2 c2 q wr ∧ m.map fz = ((b.take k).foldl put1 a).map fz) ∧ Hid ((pm = none → cm = 0) ∧ m.length ≤ cm ∧ cm ≤ 9223372036854775807)) (fun x _ => b.length - (RowKit.intOf x).toNat)
      case atStart => exact ⟨0, a, p, c, Nat.zero_le _, rfl, Lib.hid ⟨H2.out, by rw [List.take_zero]; rfl⟩, Lib.hid ⟨hn, hc⟩⟩
      case round =>
      obtain ⟨k, m, pm, cm, hk, rfl, K, KC⟩ := hrel
      clear H2
      obtain ⟨e0, e1, e2, e3, e4⟩ := K.out.1.e
      have hOk : OkD ((b.take k).foldl put1 a) := (okD_OkD HOA.out).mrg (fun B hB => (okD_OkD HOB.out).v B (List.mem_of_mem_take hB))
      have hOm : OkD m := okD_OkD (by rw [← okD_fz m, K.out.2, okD_fz]; exact hOk.ok)
      have HOM := Lib.hid hOm
      clear hOk hOm
      by_cases hlt : k < b.length
      · obtain ⟨-, g, off, rfl, -, -⟩ := rda_cells K.out.1.rb (by omega)
        obtain ⟨A, hA⟩ : ∃ A, b[k]? = some A := ⟨_, List.getElem?_eq_getElem hlt⟩
        have HA := Lib.hid (And.intro hA (List.mem_of_getElem? hA))
        obtain ⟨a0, a1, a2, a3, a4⟩ := rda_at K.out.1.rb hA
        clear hA
        go_wp2_with fail
        go_upto_region 6 with fail
        clear e0 e1 e2 e3 e4 a0 a1 a2 a3 a4
        have HD := Lib.hid (K.out.1.keep (grown_drew (grown_refl wr none)))
        have HFZ := Lib.hid K.out.2
        clear K
        refine region_until2 (S := fun w' => Hid (MrW w m pm cm b (some ⟨g, off, none⟩) c2 q w')) (fun j => j == 10) (by kernel_rfl) (HD) (fun hHeld => ?_)
        refine anyV_take (i := 0) (oi := { dst := some 24, op := Op.load 25 (Operand.tmp 2), type := 25, pos := "ref.go:89", after := #[], guard := none }) (v := ?_) rfl (by kernel_rfl) (by kernel_rfl) (by kernel_rfl) (by kernel_rfl) (by kernel_rfl) (fun _ _ _ h => h) (Or.inl ⟨by rfl, ?_⟩) hHeld ?_
        rotate_left 1
        · intro u hSu
          obtain ⟨e0, e1, e2, -⟩ := hSu.out.e
          obtain ⟨a0, a1, a2, a3, a4⟩ := rda_at hSu.out.rb HA.out.1
          go_simp
          first | done | with_reducible rfl
        (try simp only [Act.put, List.setIfInBounds_toArray, List.set_cons_zero, List.set_cons_succ])
        refine anyV_take (i := 1) (oi := { dst := some 25, op := Op.fieldAddr 25 (Operand.tmp 3) 0, type := 0, pos := "ref.go:89", after := #[], guard := none }) (v := ?_) rfl (by kernel_rfl) (by kernel_rfl) (by kernel_rfl) (by kernel_rfl) (by kernel_rfl) (fun _ _ _ h => h) (Or.inl ⟨by rfl, ?_⟩) hHeld ?_
        rotate_left 1
        · intro u hSu
          obtain ⟨e0, e1, e2, -⟩ := hSu.out.e
          obtain ⟨a0, a1, a2, a3, a4⟩ := rda_at hSu.out.rb HA.out.1
          go_simp
          first | done | with_reducible rfl
        (try simp only [Act.put, List.setIfInBounds_toArray, List.set_cons_zero, List.set_cons_succ])
        refine anyV_take (i := 2) (oi := { dst := some 26, op := Op.load 23 (Operand.tmp 25), type := 23, pos := "ref.go:89", after := #[{ on := 1, ground := Ground.data }], guard := none }) (v := ?_) rfl (by kernel_rfl) (by kernel_rfl) (by kernel_rfl) (by kernel_rfl) (by kernel_rfl) (fun _ _ _ h => h) (Or.inl ⟨by rfl, ?_⟩) hHeld ?_
        rotate_left 1
        · intro u hSu
          obtain ⟨e0, e1, e2, -⟩ := hSu.out.e
          obtain ⟨a0, a1, a2, a3, a4⟩ := rda_at hSu.out.rb HA.out.1
          go_simp
          first | done | with_reducible rfl
        (try simp only [Act.put, List.setIfInBounds_toArray, List.set_cons_zero, List.set_cons_succ])
        refine anyV_take (i := 3) (oi := { dst := some 27, op := Op.move (Operand.tmp 6), type := 3, pos := "ref.go:89", after := #[], guard := none }) (v := ?_) rfl (by kernel_rfl) (by kernel_rfl) (by kernel_rfl) (by kernel_rfl) (by kernel_rfl) (fun _ _ _ h => h) (Or.inl ⟨by rfl, ?_⟩) hHeld ?_
        rotate_left 1
        · intro u hSu
          obtain ⟨e0, e1, e2, -⟩ := hSu.out.e
          obtain ⟨a0, a1, a2, a3, a4⟩ := rda_at hSu.out.rb HA.out.1
          go_simp
          first | done | with_reducible rfl
        (try simp only [Act.put, List.setIfInBounds_toArray, List.set_cons_zero, List.set_cons_succ])
        refine anyV_take (i := 4) (oi := { dst := some 28, op := Op.indexAddr 23 (Operand.tmp 26) (Operand.tmp 27), type := 0, pos := "ref.go:89", after := #[{ on := 2, ground := Ground.data }, { on := 3, ground := Ground.data }], guard := none }) (v := ?_) rfl (by kernel_rfl) (by kernel_rfl) (by kernel_rfl) (by kernel_rfl) (by kernel_rfl) (fun _ _ _ h => h) (Or.inl ⟨by rfl, ?_⟩) hHeld ?_
        rotate_left 1
        · intro u hSu
          obtain ⟨e0, e1, e2, -⟩ := hSu.out.e
          obtain ⟨a0, a1, a2, a3, a4⟩ := rda_at hSu.out.rb HA.out.1
          go_simp
          first | done | with_reducible rfl
        (try simp only [Act.put, List.setIfInBounds_toArray, List.set_cons_zero, List.set_cons_succ])
        refine anyV_take (i := 5) (oi := { dst := some 29, op := Op.load 38 (Operand.tmp 28), type := 38, pos := "ref.go:89", after := #[{ on := 4, ground := Ground.data }], guard := none }) (v := ?_) rfl (by kernel_rfl) (by kernel_rfl) (by kernel_rfl) (by kernel_rfl) (by kernel_rfl) (fun _ _ _ h => h) (Or.inl ⟨by rfl, ?_⟩) hHeld ?_
        rotate_left 1
        · intro u hSu
          obtain ⟨e0, e1, e2, -⟩ := hSu.out.e
          obtain ⟨a0, a1, a2, a3, a4⟩ := rda_at hSu.out.rb HA.out.1
          go_simp
          first | done | with_reducible rfl
        (try simp only [Act.put, List.setIfInBounds_toArray, List.set_cons_zero, List.set_cons_succ])
        refine anyV_ready (rs := [6]) (by kernel_rfl) (by simp) ?_
        refine EachV.cons (o := { dst := some 30, op := Op.call { callee := Callee.value (Operand.func 27), args := #[Operand.tmp 24, Operand.tmp 29], argTypes := #[25, 38] }, type := 47, pos := "ref.go:89", after := #[{ on := 0, ground := Ground.data }, { on := 5, ground := Ground.data }], guard := none }) rfl (fun Kz hK => ?_) EachV.nil
        go_simp
        go_at_call 27
        refine (rputD_any m A pm cm (fun x => (q x ∨ w.heap.size + 3 ≤ x) ∧ x < _) _ hHeld.out.ra.and KC.out.1 KC.out.2 (by have := HOM.out.len; omega) ((hHeld.out.rb.ok A HA.out.2).mono (fun x hx => ⟨Or.inl hx, by have := hHeld.out.lt x hx; have := hHeld.out.sz; omega⟩)) (hHeld.out.rb.nl A HA.out.2) (fun x hx => hx.2)).mono ?_
        rintro e w5 ⟨m2, p3, c3, rfl, hmf, hrd, hc3, hn3, hg⟩
        have HDn := Lib.hid (hHeld.out.keep hg)
        have HRD := Lib.hid (hrd.mono (q' := fun b => q b ∨ w.heap.size + 3 ≤ b) (fun x hx => hx.elim (fun h => h.1) (fun h => Or.inr (by have := hHeld.out.sz; omega))))
        have HM2 : Hid (m2.map fz = ((b.take (k + 1)).foldl put1 a).map fz) := Lib.hid (by rw [fold_take HA.out.1, hmf, ← putV_ok ((okD_OkD HOA.out).mrg (fun B hB => (okD_OkD HOB.out).v B (List.mem_of_mem_take hB))) ((okD_OkD HOB.out).v A HA.out.2)]; exact (pD_eq HFZ.out A).2.2.2.2)
        have HC3 := Lib.hid (And.intro hn3 hc3)
        obtain ⟨pz, hpz⟩ : ∃ z, pD m A = z := ⟨_, rfl⟩
        rw [hpz]
        clear hmf hrd hc3 hn3 hg hpz
        refine hK.out _ _ (fun _ _ => HDn) (fun hH2 => ?_)
        have hHeld2 := hH2 rfl hHeld
        clear hK Kz hHeld hH2
        have hHeld := hHeld2
        clear hHeld2
        (try simp only [Act.put, List.setIfInBounds_toArray, List.set_cons_zero, List.set_cons_succ])
        refine anyV_take (i := 7) (oi := { dst := some 23, op := Op.move (Operand.tmp 30), type := 47, pos := "ref.go:89", after := #[{ on := 6, ground := Ground.data }], guard := none }) (v := ?_) rfl (by kernel_rfl) (by kernel_rfl) (by kernel_rfl) (by kernel_rfl) (by kernel_rfl) (fun _ _ _ h => h) (Or.inl ⟨by rfl, ?_⟩) hHeld ?_
        rotate_left 1
        · intro u hSu
          obtain ⟨e0, e1, e2, -⟩ := hSu.out.e
          obtain ⟨a0, a1, a2, a3, a4⟩ := rda_at hSu.out.rb HA.out.1
          go_simp
          first | done | with_reducible rfl
        (try simp only [Act.put, List.setIfInBounds_toArray, List.set_cons_zero, List.set_cons_succ])
        refine anyV_take (i := 8) (oi := { dst := some 31, op := Op.extract (Operand.tmp 23) 0, type := 25, pos := "ref.go:89", after := #[{ on := 7, ground := Ground.data }], guard := none }) (v := ?_) rfl (by kernel_rfl) (by kernel_rfl) (by kernel_rfl) (by kernel_rfl) (by kernel_rfl) (fun _ _ _ h => h) (Or.inl ⟨by rfl, ?_⟩) hHeld ?_
        rotate_left 1
        · intro u hSu
          obtain ⟨e0, e1, e2, -⟩ := hSu.out.e
          obtain ⟨a0, a1, a2, a3, a4⟩ := rda_at hSu.out.rb HA.out.1
          go_simp
          first | done | with_reducible rfl
        (try simp only [Act.put, List.setIfInBounds_toArray, List.set_cons_zero, List.set_cons_succ])
        refine anyV_ready (rs := [9, 10]) (by kernel_rfl) (by simp) ?_
        refine EachV.cons (o := { dst := some 32, op := Op.extract (Operand.tmp 23) 1, type := 4, pos := "ref.go:89", after := #[{ on := 7, ground := Ground.data }, { on := 10, ground := Ground.gcOnly Departure.lateStores }], guard := none }) rfl (fun Kz hK => ?_) (EachV.cons (o := { dst := none, op := Op.store 25 (Operand.tmp 2) (Operand.tmp 31), type := 0, pos := "ref.go:89", after := #[{ on := 8, ground := Ground.data }, { on := 6, ground := Ground.chain }, { on := 0, ground := Ground.phase }, { on := 1, ground := Ground.phase }, { on := 2, ground := Ground.phase }, { on := 3, ground := Ground.phase }, { on := 4, ground := Ground.phase }, { on := 5, ground := Ground.phase }, { on := 6, ground := Ground.phase }, { on := 7, ground := Ground.phase }, { on := 8, ground := Ground.phase }, { on := 9, ground := Ground.textOnly Departure.lateStores }], guard := none }) rfl (fun Kz hK => ?_) EachV.nil)
        · go_simp
          refine hK.out _ _ (fun _ h => h) (fun _ => ?_)
          clear hK Kz
          (try simp only [Act.put, List.setIfInBounds_toArray, List.set_cons_zero, List.set_cons_succ])
          refine anyV_ready (rs := [10]) (by kernel_rfl) (by simp) ?_
          refine EachV.cons (o := { dst := none, op := Op.store 25 (Operand.tmp 2) (Operand.tmp 31), type := 0, pos := "ref.go:89", after := #[{ on := 8, ground := Ground.data }, { on := 6, ground := Ground.chain }, { on := 0, ground := Ground.phase }, { on := 1, ground := Ground.phase }, { on := 2, ground := Ground.phase }, { on := 3, ground := Ground.phase }, { on := 4, ground := Ground.phase }, { on := 5, ground := Ground.phase }, { on := 6, ground := Ground.phase }, { on := 7, ground := Ground.phase }, { on := 8, ground := Ground.phase }, { on := 9, ground := Ground.textOnly Departure.lateStores }], guard := none }) rfl (fun Kz hK => ?_) EachV.nil
          obtain ⟨e0, e1, e2, e3, e4⟩ := HDn.out.e
          go_simp
          refine hK.out _ _ (fun h => by cases h) (fun _ => ?_)
          clear hK Kz
          (try simp only [Act.put, List.setIfInBounds_toArray, List.set_cons_zero, List.set_cons_succ])
          refine anyV_done (by kernel_rfl) ?_ _
          have HNX := Lib.hid (HDn.out.put HRD.out)
          clear hHeld HDn HRD
          go_wp2_with fail
          exact ⟨⟨k + 1, m2, p3, c3, by omega, congrArg _ (by omega), Lib.hid ⟨HNX.out, HM2.out⟩, HC3⟩, by simp only [RowKit.intOf]; omega⟩
        · obtain ⟨e0, e1, e2, e3, e4⟩ := HDn.out.e
          go_simp
          refine hK.out _ _ (fun h => by cases h) (fun _ => ?_)
          clear hK Kz
          (try simp only [Act.put, List.setIfInBounds_toArray, List.set_cons_zero, List.set_cons_succ])
          refine anyV_ready (rs := [9]) (by kernel_rfl) (by simp) ?_
          refine EachV.cons (o := { dst := some 32, op := Op.extract (Operand.tmp 23) 1, type := 4, pos := "ref.go:89", after := #[{ on := 7, ground := Ground.data }, { on := 10, ground := Ground.gcOnly Departure.lateStores }], guard := none }) rfl (fun Kz hK => ?_) EachV.nil
          go_simp
          refine hK.out _ _ (fun _ h => h) (fun _ => ?_)
          clear hK Kz
          (try simp only [Act.put, List.setIfInBounds_toArray, List.set_cons_zero, List.set_cons_succ])
          refine anyV_done (by kernel_rfl) ?_ _
          have HNX := Lib.hid (HDn.out.put HRD.out)
          clear hHeld HDn HRD
          go_wp2_with fail
          exact ⟨⟨k + 1, m2, p3, c3, by omega, congrArg _ (by omega), Lib.hid ⟨HNX.out, HM2.out⟩, HC3⟩, by simp only [RowKit.intOf]; omega⟩
      · obtain rfl : k = b.length := by omega
        obtain ⟨t1, t2, t3⟩ := K.out.1.fin K.out.1.ra
        have HF : Hid (MgRes a b (fun b => q b ∨ w.heap.size ≤ b) w (.returned (.tuple #[.agg #[.slice pm m.length cm], .int .i64 0])) _) := Lib.hid ⟨m, pm, cm, by rw [HK.out.2], by rw [HK.out.1, K.out.2, List.take_length], t2, KC.out.2, KC.out.1, t3⟩
        have HT := Lib.hid t1
        clear t1 t2 t3 K
        go_wp2_with fail
        refine bodyPost_ret (res_db_b rfl _ _ (w.heap.size + 2) _ rfl HT.out) rfl ?_
        exact HF.out
    · have hyb : (Y == 0) = false := by simpa using hy0
      have hk : mgK a b = false := by unfold mgK okD; rw [HY.out, hyb, Bool.and_false]
      have HF := Lib.hid (HFAIL.out w2 H2 hk)
      obtain ⟨e0, e1, e2, e3, e4⟩ := H2.out.e
      clear hk H2
      go_wp2_with fail
      refine bodyPost_ret (res_db_b rfl _ _ (w.heap.size + 2) _ rfl HF.out.1) rfl ?_
      exact HF.out.2
  · have hxb : (X == 0) = false := by simpa using hx0
    have hk : mgK a b = false := by unfold mgK okD; rw [HX.out, hxb]; rfl
    have HF := Lib.hid (HFAIL.out w1 H1 hk)
    clear hk H1
    go_wp2_with fail
    refine bodyPost_ret (res_db_b rfl _ _ (w.heap.size + 2) _ rfl HF.out.1) rfl ?_
    exact HF.out.2
end Go.Proofs.Ytnpkihioklpnmaa

/- Parts of the proof, packed: AdRNw, DbRPu, DbMrg, DbRMg, DbViw, DbAwk. -/
import Derived.Test.YtnpkihioklpnmaaPu16
import Derived.Test.YtnpkihioklpnmaaPu17
import Derived.Laws.Cover1
import Derived.Test.YtnpkihioklpnmaaPu15
import Derived.Test.YtnpkihioklpnmaaPu14
import Derived.Test.YtnpkihioklpnmaaPu9
import Derived.Test.YtnpkihioklpnmaaPu11
import Derived.Test.YtnpkihioklpnmaaPu4
import Derived.Deep.CutBlock
/- The reference's Newer of adverts. -/
namespace Go.Proofs.Ytnpkihioklpnmaa
open Go.RowKit Bs
set_option maxRecDepth 100000 in
set_option maxHeartbeats 6400000 in
theorem rnewer_any (A B : Ad) (q q2 : Nat → Prop) (w : World) (hA : AdOk w q A) (hB : AdOk w q2 B) :
    Calls Try.prog 30 #[A.val, B.val] w fun e w' => e = .returned (.bool (nwA A B)) ∧ w.grownBy w' none := by
  have HZ := Lib.hid (two_ads w A B)
  have HOK : Hid (TwoA _ A B q q2) := Lib.hid ⟨hA.keep HZ.out.2, hB.keep HZ.out.2⟩
  have HB := Lib.hid HZ.out.1
  have K := Lib.hid HZ.out.2
  clear HZ hA hB
  obtain ⟨X, hX⟩ : ∃ X, nwA A B = X := ⟨_, rfl⟩
  rw [hX]
  have HX := Lib.hid hX
  clear hX
  unfold Ad.val
  go_enter Try.func30, Try.ntmps30
  go_upto_region 1 with fail
  unfold adC at HB K HOK
  generalize (w.alloc _).alloc _ = wa at *
  have HB : Hid (wa.heap[w.heap.size]? = some (.cells (adC A) 38 (0, 0)) ∧ wa.heap[w.heap.size + 1]? = some (.cells (adC B) 38 (0, 0))) := HB
  have GZ : Hid (wa.grownBy wa none) := Lib.hid (grown_refl _ _)
  obtain ⟨a0, a1, a2, a3, a4, b0, b1, b2, b3, b4, -⟩ := keepTA HB.out GZ
  go_wp2_with fail
  refine (rvalidA_any A q _ HOK.out.a).mono ?_
  rintro e w1 ⟨rfl, hg⟩
  have G1 := Lib.hid hg
  clear hg a0 a1 a2 a3 a4 b0 b1 b2 b3 b4
  obtain ⟨a0, a1, a2, a3, a4, b0, b1, b2, b3, b4, -⟩ := keepTA HB.out G1
  obtain ⟨v1, hv1⟩ : ∃ v, vAd A = v := ⟨_, rfl⟩
  have HV1 := Lib.hid hv1
  rw [hv1]
  clear hv1
  cases v1 with
  | false =>
    obtain rfl : X = false := by rw [← HX.out]; unfold nwA; rw [HV1.out]; rfl
    go_wp2_with fail
    go_ret
    exact ⟨rfl, grown_trans K.out G1.out⟩
  | true =>
    go_wp2_with fail
    refine (rvalidA_any B q2 _ (HOK.out.b.keep G1.out)).mono ?_
    rintro e w2 ⟨rfl, hg⟩
    have G2 := Lib.hid (grown_trans G1.out hg)
    clear hg a0 a1 a2 a3 a4 b0 b1 b2 b3 b4
    obtain ⟨a0, a1, a2, a3, a4, b0, b1, b2, b3, b4, -⟩ := keepTA HB.out G2
    obtain ⟨v2, hv2⟩ : ∃ v, vAd B = v := ⟨_, rfl⟩
    have HV2 := Lib.hid hv2
    rw [hv2]
    clear hv2
    cases v2 with
    | false =>
      obtain rfl : X = false := by rw [← HX.out]; unfold nwA; rw [HV1.out, HV2.out]; rfl
      go_wp2_with fail
      go_ret
      exact ⟨rfl, grown_trans K.out G2.out⟩
    | true =>
      by_cases h : A.r = B.r
      · have h' : (A.r == B.r) = true := by simpa using h
        have HXE := Lib.hid ((nwA_ref HV1.out HV2.out h).symm.trans HX.out)
        clear HX h
        go_wp2_with fail
        refine (raenc_any A q _ (HOK.out.a.keep G2.out)).mono ?_
        rintro e w3 (⟨-, p3, c3, rfl, hR3, hp3, hg⟩ | ⟨hv, -⟩)
        rotate_left
        · rw [HV1.out] at hv; cases hv
        have G3 := Lib.hid (grown_trans G2.out hg)
        have HR3 := Lib.hid (And.intro hR3 hp3)
        clear hg a0 a1 a2 a3 a4 b0 b1 b2 b3 b4 hR3 hp3
        obtain ⟨a0, a1, a2, a3, a4, b0, b1, b2, b3, b4, -⟩ := keepTA HB.out G3
        go_wp2_with fail
        refine (raenc_any B q2 _ (HOK.out.b.keep G3.out)).mono ?_
        rintro e w4 (⟨-, p4, c4, rfl, hR4, hp4, hg⟩ | ⟨hv, -⟩)
        rotate_left
        · rw [HV2.out] at hv; cases hv
        have G4 := Lib.hid (grown_trans G3.out hg)
        have E1 := conv_nv (l := encA A) (k := (encA A).length) (pk_by _) rfl (HR3.out.1.keep hg) HR3.out.2
        have E2 := conv_nv (l := encA B) (k := (encA B).length) (pk_by _) rfl hR4 hp4
        clear hg a0 a1 a2 a3 a4 b0 b1 b2 b3 b4 hR4 hp4 HR3
        obtain ⟨a0, a1, a2, a3, a4, b0, b1, b2, b3, b4, -⟩ := keepTA HB.out G4
        obtain ⟨l, hl⟩ : ∃ l, encA A = l := ⟨_, rfl⟩
        obtain ⟨m, hm⟩ : ∃ m, encA B = m := ⟨_, rfl⟩
        rw [hl, hm] at HXE
        rw [hl] at E1 ⊢
        rw [hm] at E2 ⊢
        clear hl hm
        by_cases h1 : B.q < A.q
        · obtain rfl : X = true := by rw [← HXE.out, decide_eq_true h1]; rfl
          have h2 : A.q > B.q := h1
          have hd : decide (B.q < A.q) = true := decide_eq_true h1
          go_wp2_with fail
          go_ret
          exact ⟨rfl, grown_trans K.out G4.out⟩
        · by_cases h2 : A.q = B.q
          · have h2' : (A.q == B.q) = true := by simpa using h2
            have hd : decide (B.q < A.q) = false := decide_eq_false h1
            obtain ⟨g, hg⟩ : ∃ g, gtS l m = g := ⟨_, rfl⟩
            obtain rfl : X = g := by rw [← HXE.out, decide_eq_false h1, decide_eq_true h2, hg]; simp
            unfold gtS at hg
            have HGG := Lib.hid hg
            clear hg
            go_wp2_with fail
            go_ret
            exact ⟨by rw [← HGG.out, Bool.not_or]; rfl, grown_trans K.out G4.out⟩
          · have h2' : (A.q == B.q) = false := by simpa using h2
            have hd : decide (B.q < A.q) = false := decide_eq_false h1
            obtain rfl : X = false := by rw [← HXE.out, decide_eq_false h1, decide_eq_false h2]; rfl
            go_wp2_with fail
            go_ret
            exact ⟨rfl, grown_trans K.out G4.out⟩
      · have h' : (A.r == B.r) = false := by simpa using h
        obtain rfl : X = false := by rw [← HX.out]; unfold nwA; rw [HV1.out, HV2.out, decide_eq_false h]; rfl
        clear h
        go_wp2_with fail
        go_ret
        exact ⟨rfl, grown_trans K.out G2.out⟩
end Go.Proofs.Ytnpkihioklpnmaa

/- The reference's Put. -/
namespace Go.Proofs.Ytnpkihioklpnmaa
open Go.RowKit Bs
/-- While the reference's Put works: the arguments' boxes, the result's. -/
structure RpW (W : World) (l : List Ad) (p : Option Addr) (c : Nat) (A : Ad) (q : Nat → Prop) (w : World) : Prop where
  d : w.heap[W.heap.size]? = some (.cells #[.slice p l.length c] 25 (0, 0))
  a : w.heap[W.heap.size + 1]? = some (.cells #[.int .i64 A.r, .int .i64 A.q, .bool A.cp, .slice A.pL A.L.length A.cL, .slice A.pC A.C.length A.cC] 38 (0, 0))
  z : w.heap[W.heap.size + 2]? = some (.cells #[.slice none 0 0] 25 (0, 0))
  db : RdA w q (.slice p l.length c) l
  ok : AdOk w q A
  lt : ∀ b, q b → b < W.heap.size
  gr : W.grownBy w none
section
variable {W w w1 : World} {l : List Ad} {p : Option Addr} {c : Nat} {A B : Ad} {q : Nat → Prop} {u v v' : Value}
set_option maxRecDepth 100000 in
theorem RpW.keep (h : RpW W l p c A q w) (g : w.grownBy w1 none) : RpW W l p c A q w1 := ⟨kept_row h.d g (by simp), kept_row h.a g (by simp), kept_row h.z g (by simp), h.db.keep g, h.ok.keep g, h.lt, grown_trans h.gr g⟩
set_option maxRecDepth 100000 in
theorem RpW.sz (h : RpW W l p c A q w) : W.heap.size + 3 ≤ w.heap.size := World.lt_of_row' h.z
set_option maxRecDepth 100000 in
/-- A database is laid into the result's box. -/
theorem RpW.fin {m : List Ad} {p' : Option Addr} {c' : Nat} {s : Nat → Prop} (h : RpW W l p c A q w) (hm : RdA w s (.slice p' m.length c') m) (hs : ∀ b, s b → b ≠ W.heap.size + 2) :
    (w.setCell ⟨W.heap.size + 2, 0, none⟩ (.slice p' m.length c')).heap[W.heap.size + 2]? = some (.cells #[.slice p' m.length c'] 25 (0, 0)) ∧ RdA (w.setCell ⟨W.heap.size + 2, 0, none⟩ (.slice p' m.length c')) s (.slice p' m.length c') m ∧ W.grownBy (w.setCell ⟨W.heap.size + 2, 0, none⟩ (.slice p' m.length c')) none ∧ w.cell? ⟨W.heap.size + 2, 0, none⟩ = some (.slice none 0 0) ∧ w.frozen? ⟨W.heap.size + 2, 0, none⟩ = false := by
  have gs := grown_setCell w ⟨W.heap.size + 2, 0, none⟩ (.slice p' m.length c')
  exact ⟨d1_set _ h.z, hm.grown gs (fun b hb e => hs b hb (Option.some.inj e)), grown_new h.gr gs (by show W.heap.size ≤ W.heap.size + 2; omega), cell_of_row _ _ _ _ _ _ h.z, frozen_of_row _ _ 0 _ _ h.z⟩
end
set_option maxRecDepth 100000 in
theorem rp_start {w : World} {l : List Ad} {p : Option Addr} {c : Nat} {A : Ad} {q : Nat → Prop} (hR : RdA w q (.slice p l.length c) l) (hA : AdOk w q A) (hq : ∀ b, q b → b < w.heap.size) : RpW w l p c A q (((w.alloc (.cells #[.slice p l.length c] 25)).alloc (.cells #[.int .i64 A.r, .int .i64 A.q, .bool A.cp, .slice A.pL A.L.length A.cL, .slice A.pC A.C.length A.cC] 38)).alloc (.cells #[.slice none 0 0] 25)) := by
  obtain ⟨k1, k2, k3, k4, k5⟩ := three_boxesD w #[.slice p l.length c] #[.int .i64 A.r, .int .i64 A.q, .bool A.cp, .slice A.pL A.L.length A.cL, .slice A.pC A.C.length A.cC] #[.slice none 0 0] 25 38 25
  exact ⟨k1, k2, k3, hR.keep k4, hA.keep k4, hq, k4⟩
set_option maxRecDepth 100000 in
theorem nwA_fz (A B : Ad) : nwA (fz A) (fz B) = nwA A B := rfl
set_option maxRecDepth 100000 in
theorem nw_fz {A X B : Ad} (h : fz X = fz B) : nwA A X = nwA A B := by
  rw [← nwA_fz A X, h, nwA_fz]
set_option maxRecDepth 100000 in
set_option maxHeartbeats 12800000 in
theorem rputD_any (l : List Ad) (A : Ad) (p : Option Addr) (c : Nat) (q : Nat → Prop) (w : World) (hR : RdA w q (.slice p l.length c) l) (hn : p = none → c = 0) (hc : l.length ≤ c ∧ c ≤ 9223372036854775807) (hm : l.length ≤ 900) (hA : AdOk w q A) (hnA : AdNl A) (hq : ∀ b, q b → b < w.heap.size) :
    Calls Try.prog 27 #[.agg #[.slice p l.length c], .agg #[.int .i64 A.r, .int .i64 A.q, .bool A.cp, .slice A.pL A.L.length A.cL, .slice A.pC A.C.length A.cC]] w fun e w' => PutRes l A (fun b => q b ∨ w.heap.size ≤ b) w e w' := by
  have H0 := Lib.hid (rp_start hR hA hq)
  have HQ := Lib.hid hq
  have HNC := Lib.hid (And.intro hn hc)
  clear hR hA hq hn hc
  -- the database as it is
  have HSAME : Hid (∀ w9 : World, Hid (RpW w l p c A q w9) → pD l A = false → (w9.setCell ⟨w.heap.size + 2, 0, none⟩ (.slice p l.length c)).heap[w.heap.size + 2]? = some (.cells #[.slice p l.length c] 25 (0, 0)) ∧ PutRes l A (fun b => q b ∨ w.heap.size ≤ b) w (.returned (.tuple #[.agg #[.slice p l.length c], .bool false])) (w9.setCell ⟨w.heap.size + 2, 0, none⟩ (.slice p l.length c))) := Lib.hid (fun w9 h9 hp => by
    obtain ⟨t1, t2, t3, -, -⟩ := h9.out.fin h9.out.db (fun b hb => by have := HQ.out b hb; omega)
    exact ⟨t1, l, p, c, by rw [hp], by unfold putV; rw [hp]; rfl, t2.mono (fun b hb => Or.inl hb), HNC.out.2, HNC.out.1, t3⟩)
  go_enter Try.func27, Try.ntmps27
  go_upto_region 1 with fail
  generalize ((w.alloc _).alloc _).alloc _ = wa at *
  have c0 : wa.cell? ⟨w.heap.size, 0, none⟩ = some (.slice p l.length c) := cell_of_row _ _ _ _ _ _ H0.out.d
  go_wp2_with fail
  refine (rcheck8_any l p c _ wa H0.out.db (by omega)).mono ?_
  rintro e w1 ⟨rfl, hg⟩
  have H1 := Lib.hid (H0.out.keep hg)
  clear hg H0 c0
  obtain ⟨X, hX⟩ : ∃ X, chkD l = X := ⟨_, rfl⟩
  have HX := Lib.hid hX
  rw [hX]
  clear hX
  by_cases hx0 : X = 0
  · subst hx0
    have HOK : Hid (okD l = true) := Lib.hid (by unfold okD; rw [HX.out]; rfl)
    obtain ⟨a0, a1, a2, a3, a4⟩ := row5 H1.out.a
    go_wp2_with fail
    have hcall := rvalidA_any A _ w1 H1.out.ok
    unfold Ad.val at hcall
    refine hcall.mono ?_
    rintro e w2 ⟨rfl, hg⟩
    have H2 := Lib.hid (H1.out.keep hg)
    clear hg H1 a0 a1 a2 a3 a4 hcall
    obtain ⟨Y, hY⟩ : ∃ Y, vAd A = Y := ⟨_, rfl⟩
    have HY := Lib.hid hY
    rw [hY]
    clear hY
    have c0 : w2.cell? ⟨w.heap.size, 0, none⟩ = some (.slice p l.length c) := cell_of_row _ _ _ _ _ _ H2.out.d
    cases Y with
    | false =>
      have hp : pD l A = false := by unfold pD; rw [HOK.out, HY.out]; rfl
      have HF := Lib.hid (HSAME.out w2 H2 hp)
      have z0 : w2.cell? ⟨w.heap.size + 2, 0, none⟩ = some (.slice none 0 0) := cell_of_row _ _ _ _ _ _ H2.out.z
      have z1 := frozen_of_row _ _ 0 _ _ H2.out.z
      clear hp H2
      go_wp2_with fail
      refine bodyPost_ret (res_db_b rfl _ _ (w.heap.size + 2) _ rfl HF.out.1) rfl ?_
      exact HF.out.2
    | true =>
      obtain ⟨a0, a1, a2, a3, a4⟩ := row5 H2.out.a
      go_wp2_with fail
      refine (rfind_any l A.r p c _ w2 H2.out.db (by omega)).mono ?_
      rintro e w3 ⟨B, rfl, hB, hok, hg⟩
      have H3 := Lib.hid (H2.out.keep hg)
      obtain ⟨n1, n2⟩ := tone_box w3 #[.int .i64 B.r, .int .i64 B.q, .bool B.cp, .slice B.pL B.L.length B.cL, .slice B.pC B.C.length B.cC] 38
      have H4 := Lib.hid (And.intro (H3.out.keep n2) (And.intro n1 (hok.keep n2)))
      have HB := Lib.hid hB
      clear hok hg n1 n2 H2 H3 hB a0 a1 a2 a3 a4 c0
      obtain ⟨F, hF⟩ : ∃ F, fndA l A.r = F := ⟨_, rfl⟩
      rw [hF] at HB ⊢
      have HFF := Lib.hid hF
      clear hF
      go_upto_region 4 with fail
      generalize hw5 : w3.alloc _ = w5 at *
      generalize w3.heap.size = bx at *
      clear hw5
      cases F with
      | none =>
        have hp : pD l A = true := by unfold pD; rw [HOK.out, HY.out, chg_none HFF.out]; rfl
        have HP := Lib.hid hp
        clear hp
        obtain ⟨a0, a1, a2, a3, a4⟩ := row5 H4.out.1.a
        have c0 : w5.cell? ⟨w.heap.size, 0, none⟩ = some (.slice p l.length c) := cell_of_row _ _ _ _ _ _ H4.out.1.d
        go_wp2_with fail
        refine (rwith_any l A p c q w5 H4.out.1.db hm H4.out.1.ok hnA (fun b hb => by have := HQ.out b hb; have := H4.out.1.sz; omega) ⟨0, (okD_OkD HOK.out).asc⟩).mono ?_
        rintro e w6 ⟨m, p6, c6, rfl, hmm, hrd, hc6, hn6, hg⟩
        have H6 := Lib.hid (H4.out.1.keep hg)
        obtain ⟨t1, t2, t3, t4, t5⟩ := H6.out.fin hrd (fun b hb => hb.elim (fun h => by have := HQ.out b h; omega) (fun h => by have := H4.out.1.sz; omega))
        have HF : Hid (PutRes l A (fun b => q b ∨ w.heap.size ≤ b) w (.returned (.tuple #[.agg #[.slice p6 m.length c6], .bool true])) _) := Lib.hid ⟨m, p6, c6, by rw [HP.out], by unfold putV; rw [HP.out, if_pos rfl, hmm], t2.mono (fun b hb => hb.elim (fun h => Or.inl h) (fun h => Or.inr (by have := H4.out.1.gr.size; omega))), hc6, hn6, t3⟩
        have HT := Lib.hid t1
        clear t1 t2 t3 hrd hg hmm H6 H4 HP a0 a1 a2 a3 a4 c0
        go_wp2_with fail
        refine bodyPost_ret (res_db_b rfl _ _ (w.heap.size + 2) _ rfl HT.out) rfl ?_
        exact HF.out
      | some D =>
        have hfz : fz B = fz D := fz_eq.2 HB.out
        have HNW : Hid (chg l A = nwA A B) := Lib.hid (by rw [chg_some HFF.out, nw_fz hfz])
        clear hfz
        obtain ⟨a0, a1, a2, a3, a4⟩ := row5 H4.out.1.a
        obtain ⟨b0, b1, b2, b3, b4⟩ := row5 H4.out.2.1
        go_wp2_with fail
        have hcall := rnewer_any A B _ _ w5 H4.out.1.ok H4.out.2.2
        unfold Ad.val at hcall
        refine hcall.mono ?_
        rintro e w6 ⟨rfl, hg⟩
        have H6 := Lib.hid (H4.out.1.keep hg)
        clear hg H4 a0 a1 a2 a3 a4 b0 b1 b2 b3 b4 hcall
        obtain ⟨Z, hZ⟩ : ∃ Z, nwA A B = Z := ⟨_, rfl⟩
        rw [hZ] at HNW ⊢
        clear hZ
        have hp : pD l A = Z := by unfold pD; rw [HOK.out, HY.out, HNW.out]; rfl
        have HP := Lib.hid hp
        clear hp
        have c0 : w6.cell? ⟨w.heap.size, 0, none⟩ = some (.slice p l.length c) := cell_of_row _ _ _ _ _ _ H6.out.d
        cases Z with
        | false =>
          have HF := Lib.hid (HSAME.out w6 H6 HP.out)
          have z0 : w6.cell? ⟨w.heap.size + 2, 0, none⟩ = some (.slice none 0 0) := cell_of_row _ _ _ _ _ _ H6.out.z
          have z1 := frozen_of_row _ _ 0 _ _ H6.out.z
          clear H6
          go_wp2_with fail
          refine bodyPost_ret (res_db_b rfl _ _ (w.heap.size + 2) _ rfl HF.out.1) rfl ?_
          exact HF.out.2
        | true =>
          obtain ⟨a0, a1, a2, a3, a4⟩ := row5 H6.out.a
          go_wp2_with fail
          refine (rwith_any l A p c q w6 H6.out.db hm H6.out.ok hnA (fun b hb => by have := HQ.out b hb; have := H6.out.sz; omega) ⟨0, (okD_OkD HOK.out).asc⟩).mono ?_
          rintro e w7 ⟨m, p6, c6, rfl, hmm, hrd, hc6, hn6, hg⟩
          have H7 := Lib.hid (H6.out.keep hg)
          obtain ⟨t1, t2, t3, t4, t5⟩ := H7.out.fin hrd (fun b hb => hb.elim (fun h => by have := HQ.out b h; omega) (fun h => by have := H6.out.sz; omega))
          have HF : Hid (PutRes l A (fun b => q b ∨ w.heap.size ≤ b) w (.returned (.tuple #[.agg #[.slice p6 m.length c6], .bool true])) _) := Lib.hid ⟨m, p6, c6, by rw [HP.out], by unfold putV; rw [HP.out, if_pos rfl, hmm], t2.mono (fun b hb => hb.elim (fun h => Or.inl h) (fun h => Or.inr (by have := H6.out.gr.size; omega))), hc6, hn6, t3⟩
          have HT := Lib.hid t1
          clear t1 t2 t3 hrd hg hmm H7 H6 HP a0 a1 a2 a3 a4 c0
          go_wp2_with fail
          refine bodyPost_ret (res_db_b rfl _ _ (w.heap.size + 2) _ rfl HT.out) rfl ?_
          exact HF.out
  · have hxb : (X == 0) = false := by simpa using hx0
    have hp : pD l A = false := by unfold pD okD; rw [HX.out, hxb]; rfl
    have HF := Lib.hid (HSAME.out w1 H1 hp)
    have c0 : w1.cell? ⟨w.heap.size, 0, none⟩ = some (.slice p l.length c) := cell_of_row _ _ _ _ _ _ H1.out.d
    have z0 : w1.cell? ⟨w.heap.size + 2, 0, none⟩ = some (.slice none 0 0) := cell_of_row _ _ _ _ _ _ H1.out.z
    have z1 := frozen_of_row _ _ 0 _ _ H1.out.z
    clear hp H1
    go_wp2_with fail
    refine bodyPost_ret (res_db_b rfl _ _ (w.heap.size + 2) _ rfl HF.out.1) rfl ?_
    exact HF.out.2
end Go.Proofs.Ytnpkihioklpnmaa

/- database: Merge. -/
namespace Go.Proofs.Ytnpkihioklpnmaa
open Go.RowKit Bs
section
variable {W w w1 : World} {a b m : List Ad} {p p2 p' : Option Addr} {c c2 c' base : Nat} {v : Value}
end
end Go.Proofs.Ytnpkihioklpnmaa

/- The reference's Merge. -/
namespace Go.Proofs.Ytnpkihioklpnmaa
open Go.RowKit Bs
set_option maxRecDepth 100000 in
theorem RdA.and {w : World} {q : Nat → Prop} {v : Value} {l : List Ad} (h : RdA w q v l) : RdA w (fun b => q b ∧ b < w.heap.size) v l := ⟨rdf_and h.row, fun A hA => (h.ok A hA).and, h.nl⟩
section
variable {W w w1 : World} {m m2 b : List Ad} {p p2 p3 : Option Addr} {c c2 c3 : Nat} {q : Nat → Prop}
end
end Go.Proofs.Ytnpkihioklpnmaa

/- database.View: the topology around a router. -/
namespace Go.Proofs.Ytnpkihioklpnmaa
open Go.RowKit Bs
set_option maxRecDepth 100000 in
set_option maxHeartbeats 12800000 in
theorem dview_any (l : List Ad) (r : Int) (p : Option Addr) (c : Nat) (q : Nat → Prop) (w : World) (hR : RdA w q (.slice p l.length c) l) (hm : l.length ≤ 9223372036854775807) :
    Calls Try.prog 34 #[.agg #[.slice p l.length c], .int .i64 r] w fun e w' => VwPost l r w e w' := by
  obtain ⟨ir, hir, hr0, hr1, hr2⟩ := info_parts info_rtV
  obtain ⟨il, hil, hl0, hl1, hl2⟩ := info_parts info_lkV
  obtain ⟨k1, k2, k3, -⟩ := two_boxes w #[.slice p l.length c] #[.slice none 0 0, .slice none 0 0] 25 59
  have H0 := Lib.hid (And.intro k1 (And.intro k2 (And.intro k3 ((RdA.old hR).keep k3))))
  clear k1 k2 k3 hR
  go_enter Try.func34, Try.ntmps34
  go_upto_region 1 with fail
  generalize World.alloc (w.alloc _) _ = wa at *
  have c0 : wa.cell? ⟨w.heap.size, 0, none⟩ = some (.slice p l.length c) := cell_of_row _ _ _ _ _ _ H0.out.1
  go_wp2_with fail
  refine (dvalid_any l p c _ wa H0.out.2.2.2 hm).mono ?_
  rintro e w1 ⟨rfl, hg⟩
  have H1 := Lib.hid (And.intro (kept_row H0.out.1 hg (by simp)) (And.intro (kept_row H0.out.2.1 hg (by simp)) (And.intro (grown_trans H0.out.2.2.1 hg) (H0.out.2.2.2.keep hg))))
  clear hg H0 c0
  obtain ⟨ov, hov⟩ : ∃ ov, okD l = ov := ⟨_, rfl⟩
  rw [hov]
  cases ov with
  | false =>
    have HV : Hid (viewV l r = ([], [])) := Lib.hid (by unfold viewV; rw [if_neg (by rw [hov]; decide)])
    clear hov
    have z0 := cell_of_row _ _ 0 _ _ _ H1.out.2.1
    have z1 := cell_of_row _ _ 1 _ _ _ H1.out.2.1
    have f0 := frozen_of_row _ _ 0 _ _ H1.out.2.1
    have f1 := frozen_of_row _ _ 1 _ _ H1.out.2.1
    obtain ⟨t1, t2⟩ := store2c (.slice none 0 0) (.slice none 0 0) H1.out.2.1
    have HT := Lib.hid (And.intro t1 (grown_new H1.out.2.2.1 t2 (by omega)))
    clear t1 t2 H1
    go_wp2_with fail
    refine bodyPost_ret (res_topoV rfl _ _ (w.heap.size + 1) _ _ rfl HT.out.1) rfl ?_
    exact vw_no HV.out HT.out.2
  | true =>
  have HOV : Hid (OkD l) := Lib.hid (chk_OkD (by unfold okD at hov; simpa using hov))
  have HVW : Hid (viewV l r = if chk (vwR l (reS l r)) (vwL l (reS l r)) = 0 then (vwR l (reS l r), vwL l (reS l r)) else ([], [])) := Lib.hid (by unfold viewV; rw [if_pos hov])
  have HP := Lib.hid HOV.out.pair
  have hll := HOV.out.len
  have HRNG : Hid (∀ A ∈ l, (1 ≤ A.r ∧ A.r ≤ 99) ∧ A.L.length ≤ 23) := Lib.hid (fun A hA => ⟨(VA.of (HOV.out.v A hA)).r, (VA.of (HOV.out.v A hA)).ll⟩)
  clear hov
  have c0 : w1.cell? ⟨w.heap.size, 0, none⟩ = some (.slice p l.length c) := cell_of_row _ _ _ _ _ _ H1.out.1
  go_wp2_with fail
  refine (dreached_any l r p c _ w1 H1.out.2.2.2 HOV.out).mono ?_
  rintro e w2 ⟨vm, rfl, hmv, hg⟩
  obtain ⟨S, hS⟩ : ∃ S, reS l r = S := ⟨_, rfl⟩
  rw [hS] at hmv HVW
  have g2 := grown_trans H1.out.2.2.1 hg
  have ga := World.grownBy_alloc w2 (.cells #[.slice none 0 0, .slice none 0 0] 59) none
  have hsz2 : w.heap.size + 1 < w2.heap.size := World.lt_of_row' (kept_row H1.out.2.1 hg (by simp))
  have hsz1 := H1.out.2.2.1.size
  have K0 : Hid (VS w l p c w2.heap.size S vm (.slice none 0 0) (.slice none 0 0) (.slice none 0 0) (.slice none 0 0) [] [] (w2.alloc (.cells #[.slice none 0 0, .slice none 0 0] 59))) := Lib.hid
    ⟨(H1.out.2.2.2.keep hg).keep ga, kept_row (kept_row H1.out.1 hg (by simp)) ga (by simp), kept_row (kept_row H1.out.2.1 hg (by simp)) ga (by simp), heap_alloc_new w2 _, World.ownsRow_nil _ _ _ _, World.ownsRow_nil _ _ _ _, (fun g h => by cases h),
      (hmv.mono (q' := fun b => w.heap.size ≤ b ∧ b < w2.heap.size) (fun b hb hlt => ⟨by omega, hlt⟩)).keep ga, hsz2, World.lt_of_row' (heap_alloc_new w2 _), grown_trans g2 ga⟩
  clear H1 c0 hS hmv hg g2 ga hsz1 hsz2
  go_upto_region 5 with fail
  generalize w2.alloc _ = w3 at *
  generalize w2.heap.size = B at *
  have c0 : w3.cell? ⟨w.heap.size, 0, none⟩ = some (.slice p l.length c) := cell_of_row _ _ _ _ _ _ K0.out.d
  go_wp2_with fail
  clear c0
  go_loopw [22] (fun a wr => ∃ (k : Nat) (vR vL : Value) (R : List Rt) (L : List Lk), k ≤ l.length ∧ a = .int .i64 (k : Int) ∧ R.length ≤ k ∧ L.length ≤ 23 * k ∧ Hid (((l.take k).filter (inV S)).map toR = R ∧ ((l.take k).filter (inV S)).flatMap (vL1 l) = L) ∧ Hid (VS w l p c B S vm vR vL vR vL R L wr)) (fun a _ => l.length - (RowKit.intOf a).toNat)
  case atStart => exact ⟨0, _, _, [], [], Nat.zero_le _, rfl, Nat.le_refl _, Nat.zero_le _, Lib.hid ⟨rfl, rfl⟩, K0⟩
  case round =>
  obtain ⟨k, vR, vL, R, L, hk, rfl, hRk, hLk, HI, K⟩ := hrel
  clear K0
  by_cases hlt : k < l.length
  · obtain ⟨-, b1, off1, rfl, -, -⟩ := rda_cells K.out.db (by omega)
    obtain ⟨A, hA⟩ : ∃ A, l[k]? = some A := ⟨_, List.getElem?_eq_getElem hlt⟩
    obtain ⟨a0, a1, a2, a3, a4⟩ := rda_at K.out.db hA
    have HAM := Lib.hid (List.mem_of_getElem? hA)
    have HST := Lib.hid (vw_step (S := S) hA)
    have hAI : I64 A.r := by have := (HRNG.out A HAM.out).1; unfold I64; omega
    have hAL := (HRNG.out A HAM.out).2
    have gal := World.grownBy_alloc wr (.cells #[.int .i64 A.r, .int .i64 A.q, .bool A.cp, .slice A.pL A.L.length A.cL, .slice A.pC A.C.length A.cC] 38) none
    have KB : Hid (VB w l (some ⟨b1, off1, none⟩) c B S vm vR vL vR vL R L A wr.heap.size (wr.alloc (.cells #[.int .i64 A.r, .int .i64 A.q, .bool A.cp, .slice A.pL A.L.length A.cL, .slice A.pC A.C.length A.cC] 38))) := Lib.hid
      ⟨K.out.keep gal, heap_alloc_new wr _, fun e => by have := (K.out.oR.lt _ e).2; omega, fun e => by have := (K.out.oL.lt _ e).2; omega, K.out.sz, World.lt_of_row' (heap_alloc_new wr _)⟩
    clear hA gal K
    go_upto_region 8 with fail
    clear a0 a1 a2 a3 a4
    generalize wr.alloc _ = wy at *
    generalize wr.heap.size = X at *
    obtain ⟨d0, d1, d2, d3, d4⟩ := row5 KB.out.a
    have hlook := KB.out.s.mp.look hAI
    obtain ⟨bs, hbs⟩ : ∃ bs, inS S A.r = bs := ⟨_, rfl⟩
    rw [hbs] at hlook
    cases bs with
    | false =>
      have HN : Hid (((l.take (k + 1)).filter (inV S)).map toR = R ∧ ((l.take (k + 1)).filter (inV S)).flatMap (vL1 l) = L) := Lib.hid (by rw [HST.out.1, HST.out.2, hbs, HI.out.1, HI.out.2]; simp)
      have KN := Lib.hid KB.out.s
      clear hbs KB
      go_wp2_with fail
      exact ⟨⟨k + 1, vR, vL, R, L, by omega, congrArg _ (by omega), by omega, by omega, HN, KN⟩, by simp only [RowKit.intOf]; omega⟩
    | true =>
      have HN : Hid (((l.take (k + 1)).filter (inV S)).map toR = R ++ [toR A] ∧ ((l.take (k + 1)).filter (inV S)).flatMap (vL1 l) = L ++ vL1 l A) := Lib.hid (by rw [HST.out.1, HST.out.2, hbs, HI.out.1, HI.out.2]; simp)
      clear hbs HST HI
      go_upto_region 9 with fail
      clear hlook
      obtain ⟨b0, b2⟩ := row_cells KB.out.s.t
      go_wp2_with (at_builtin; refine hold_on ?_)
      refine Lib.hid ?_
      have gr2 := World.grownBy_alloc wy (.cells #[.int .i64 A.r, .bool A.cp] 69) none
      have KC := Lib.hid (KB.out.keep gr2)
      clear gr2
      refine wpList_append_own_at _ rfl _ _ 56 rfl (B + 1) 69 ir (.agg #[.int .i64 0, .bool false]) 2 16 Try.underlying56 hir hr0 hr1 hr2 rfl (by decide) vR R.length (R.flatMap rtC) (by rfl) KC.out.s.oR ⟨wy.heap.size, 0, none⟩ 1 1 (rtC (toR A)) (by rfl) rfl (cells2V _ _ _ _) (rtV_one _) (by unfold maxLen; omega) (by omega) (by have := KC.out.s.sz; omega) ?_
      intro v' w9 hown hg _ hat
      have hfl : R.flatMap rtC ++ rtC (toR A) = (R ++ [toR A]).flatMap rtC := by rw [List.flatMap_append, List.flatMap_cons, List.flatMap_nil, List.append_nil]
      have hRl : (R ++ [toR A]).length = R.length + 1 := by rw [List.length_append]; rfl
      obtain ⟨p5, c5, rfl, -, -⟩ := own_shape hown
      have hown2 : w9.ownsRow (B + 1) 69 2 (.slice p5 (R.length + 1) c5) (R ++ [toR A]).length ((R ++ [toR A]).flatMap rtC) := by rw [hRl, ← hfl]; exact hown
      have K9 := Lib.hid (KC.out.addR hown2 hg hat)
      clear hown hown2 hRl hg hat hfl KB KC b0 b2 d0 d1 d2 d3 d4
      simp only [Act.put, List.setIfInBounds_toArray, List.set_cons_zero, List.set_cons_succ]
      obtain ⟨b0, b2⟩ := row_cells K9.out.s.t
      have f0 := frozen_of_row _ _ 0 _ _ K9.out.s.t
      have K10 := Lib.hid K9.out.putR
      go_upto_region 10 with fail
      clear b0 b2 f0 K9
      generalize w9.setCell _ _ = w10 at *
      obtain ⟨d0, d1, d2, d3, d4⟩ := row5 K10.out.a
      have c0 : w10.cell? ⟨w.heap.size, 0, none⟩ = some (.slice (some ⟨b1, off1, none⟩) l.length c) := cell_of_row _ _ _ _ _ _ K10.out.s.d
      go_wp2_with fail
      refine (dlinked_any l A (some ⟨b1, off1, none⟩) c _ w10 K10.out.s.db (K10.out.s.db.ok A HAM.out) HP.out (by omega) (by omega)).mono ?_
      rintro e w5 ⟨pm, cm, rfl, hM, hMl, hg⟩
      have hlen := lnk_len l A
      have HVL : Hid (vL1 l A = ((lnk l A).filter (ltA A)).map (btw A)) := Lib.hid rfl
      obtain ⟨M, hMM⟩ : ∃ M, lnk l A = M := ⟨_, rfl⟩
      rw [hMM] at hM hMl hlen HVL ⊢
      have HMM := Lib.hid hMM
      have C0 : Hid (VI w l (some ⟨b1, off1, none⟩) c B S vm (.slice p5 (R.length + 1) c5) vL (.slice p5 (R.length + 1) c5) vL (R ++ [toR A]) L A X pm cm M w10.heap.size w5.heap.size w5) := Lib.hid ⟨K10.out.keep hg, hM, fun g h => .inl (K10.out.s.oL.lt g h).2, K10.out.s.sz, Nat.le_refl _⟩
      clear hM hg hMM d0 d1 d2 d3 d4 c0 K10
      generalize w10.heap.size = h7 at *
      generalize w5.heap.size = h8 at *
      have hMx : M.length ≤ 23 := by omega
      clear hlen
      go_wp2_with fail
      go_loopw [46] (fun a wq => ∃ (j : Nat) (vL2 : Value) (L2 : List Lk), j ≤ M.length ∧ a = .int .i64 (j : Int) ∧ L2.length ≤ L.length + j ∧ Hid (L ++ ((M.take j).filter (ltA A)).map (btw A) = L2) ∧ Hid (VI w l (some ⟨b1, off1, none⟩) c B S vm (.slice p5 (R.length + 1) c5) vL2 (.slice p5 (R.length + 1) c5) vL2 (R ++ [toR A]) L2 A X pm cm M h7 h8 wq)) (fun a _ => M.length - (RowKit.intOf a).toNat)
      case atStart => exact ⟨0, vL, L, Nat.zero_le _, rfl, Nat.le_refl _, Lib.hid (by simp), C0⟩
      case round =>
      obtain ⟨j, vL2, L2, hj, rfl, hL2, HL, C⟩ := hrel
      clear C0
      by_cases hlt2 : j < M.length
      · obtain ⟨-, bm, offm, rfl, -, -⟩ := RdF.cells (f := adL) (k := 5) adL_len (by decide) C.out.m (by omega)
        obtain ⟨x, hx⟩ : ∃ x, M[j]? = some x := ⟨_, List.getElem?_eq_getElem hlt2⟩
        have hcx : wr.cell? ⟨bm, offm + j * 5, none⟩ = some (.int .i64 x.r) ∧ wr.cell? ⟨bm, offm + j * 5 + 1, none⟩ = some (.int .i64 x.q) ∧ wr.cell? ⟨bm, offm + j * 5 + 2, none⟩ = some (.bool x.cp) ∧ wr.cell? ⟨bm, offm + j * 5 + 3, none⟩ = some (.slice x.pL x.L.length x.cL) ∧ wr.cell? ⟨bm, offm + j * 5 + 4, none⟩ = some (.slice x.pC x.C.length x.cC) := by
          obtain ⟨-, b', o', e, -, hc⟩ := RdF.cells (f := adL) (k := 5) adL_len (by decide) C.out.m (by omega)
          injection e with e
          injection e with e1 e2
          subst e1
          subst e2
          exact ⟨hc j x hx 0 _ rfl, hc j x hx 1 _ rfl, hc j x hx 2 _ rfl, hc j x hx 3 _ rfl, hc j x hx 4 _ rfl⟩
        obtain ⟨a0, a1, a2, a3, a4⟩ := hcx
        have hxm : x ∈ l := by
          have := List.mem_of_getElem? hx
          rw [← HMM.out] at this
          exact lnk_mem this
        have HXM := Lib.hid hxm
        have HFS := Lib.hid (flt_step (A := A) hx)
        have gal := World.grownBy_alloc wr (.cells #[.int .i64 x.r, .int .i64 x.q, .bool x.cp, .slice x.pL x.L.length x.cL, .slice x.pC x.C.length x.cC] 38) none
        have C1 : Hid (VI w l (some ⟨b1, off1, none⟩) c B S vm (.slice p5 (R.length + 1) c5) vL2 (.slice p5 (R.length + 1) c5) vL2 (R ++ [toR A]) L2 A X (some ⟨bm, offm, none⟩) cm M h7 h8 (wr.alloc (.cells #[.int .i64 x.r, .int .i64 x.q, .bool x.cp, .slice x.pL x.L.length x.cL, .slice x.pC x.C.length x.cC] 38)) ∧ (wr.alloc (.cells #[.int .i64 x.r, .int .i64 x.q, .bool x.cp, .slice x.pL x.L.length x.cL, .slice x.pC x.C.length x.cC] 38)).heap[wr.heap.size]? = some (.cells #[.int .i64 x.r, .int .i64 x.q, .bool x.cp, .slice x.pL x.L.length x.cL, .slice x.pC x.C.length x.cC] 38 (0, 0))) := Lib.hid ⟨C.out.keep gal, heap_alloc_new wr _⟩
        clear hx hxm gal C
        go_upto_region 13 with fail
        clear a0 a1 a2 a3 a4
        generalize wr.alloc _ = wy at *
        generalize wr.heap.size = Y at *
        obtain ⟨d0, d1, d2, d3, d4⟩ := row5 C1.out.1.b.a
        obtain ⟨e0, e1, e2, e3, e4⟩ := row5 C1.out.2
        by_cases hlr : A.r < x.r
        · have HF : Hid (L ++ ((M.take (j + 1)).filter (ltA A)).map (btw A) = L2 ++ [btw A x]) := Lib.hid (by rw [HFS.out, if_pos hlr, ← List.append_assoc, HL.out])
          clear HFS HL
          go_upto_region 14 with fail
          have HD := Lib.hid (And.intro (C1.out.1.keep (grown_drew (grown_refl wy none))) (kept_row C1.out.2 (grown_drew (grown_refl wy none)) (by simp)))
          clear C1 d0 d1 d2 d3 d4 e0 e1 e2 e3 e4
          refine region_until (S := fun w' => Hid (VI w l (some ⟨b1, off1, none⟩) c B S vm (.slice p5 (R.length + 1) c5) vL2 (.slice p5 (R.length + 1) c5) vL2 (R ++ [toR A]) L2 A X (some ⟨bm, offm, none⟩) cm M h7 h8 w' ∧ w'.heap[Y]? = some (.cells #[.int .i64 x.r, .int .i64 x.q, .bool x.cp, .slice x.pL x.L.length x.cL, .slice x.pC x.C.length x.cC] 38 (0, 0)))) (fun j => j == 6 || j == 7 || j == 8) (by kernel_rfl) (HD) (fun hHeld => ?_)
          refine anyU_take (i := 0) (oi := { dst := some 55, op := Op.fieldAddr 59 (Operand.tmp 6) 1, type := 0, pos := "database.go:76", after := #[], guard := none }) (v := ?_) rfl (by kernel_rfl) (by kernel_rfl) (by kernel_rfl) (by kernel_rfl) (by kernel_rfl) (fun _ _ _ h => h) (Or.inl ⟨by rfl, ?_⟩) hHeld ?_
          rotate_left 1
          · intro u hSu
            obtain ⟨b0, b2⟩ := row_cells hSu.out.1.b.s.t
            obtain ⟨d0, d1, d2, d3, d4⟩ := row5 hSu.out.1.b.a
            obtain ⟨e0, e1, e2, e3, e4⟩ := row5 hSu.out.2
            go_simp
            first | done | with_reducible rfl
          (try simp only [Act.put, List.setIfInBounds_toArray, List.set_cons_zero, List.set_cons_succ])
          refine anyU_take (i := 1) (oi := { dst := some 56, op := Op.load 57 (Operand.tmp 55), type := 57, pos := "database.go:76", after := #[{ on := 0, ground := Ground.data }], guard := none }) (v := ?_) rfl (by kernel_rfl) (by kernel_rfl) (by kernel_rfl) (by kernel_rfl) (by kernel_rfl) (fun _ _ _ h => h) (Or.inl ⟨by rfl, ?_⟩) hHeld ?_
          rotate_left 1
          · intro u hSu
            obtain ⟨b0, b2⟩ := row_cells hSu.out.1.b.s.t
            obtain ⟨d0, d1, d2, d3, d4⟩ := row5 hSu.out.1.b.a
            obtain ⟨e0, e1, e2, e3, e4⟩ := row5 hSu.out.2
            go_simp
            first | done | with_reducible rfl
          (try simp only [Act.put, List.setIfInBounds_toArray, List.set_cons_zero, List.set_cons_succ])
          refine anyU_take (i := 2) (oi := { dst := some 57, op := Op.load 38 (Operand.tmp 8), type := 38, pos := "database.go:76", after := #[], guard := none }) (v := ?_) rfl (by kernel_rfl) (by kernel_rfl) (by kernel_rfl) (by kernel_rfl) (by kernel_rfl) (fun _ _ _ h => h) (Or.inl ⟨by rfl, ?_⟩) hHeld ?_
          rotate_left 1
          · intro u hSu
            obtain ⟨b0, b2⟩ := row_cells hSu.out.1.b.s.t
            obtain ⟨d0, d1, d2, d3, d4⟩ := row5 hSu.out.1.b.a
            obtain ⟨e0, e1, e2, e3, e4⟩ := row5 hSu.out.2
            go_simp
            first | done | with_reducible rfl
          (try simp only [Act.put, List.setIfInBounds_toArray, List.set_cons_zero, List.set_cons_succ])
          refine anyU_take (i := 3) (oi := { dst := some 58, op := Op.load 38 (Operand.tmp 10), type := 38, pos := "database.go:76", after := #[], guard := none }) (v := ?_) rfl (by kernel_rfl) (by kernel_rfl) (by kernel_rfl) (by kernel_rfl) (by kernel_rfl) (fun _ _ _ h => h) (Or.inl ⟨by rfl, ?_⟩) hHeld ?_
          rotate_left 1
          · intro u hSu
            obtain ⟨b0, b2⟩ := row_cells hSu.out.1.b.s.t
            obtain ⟨d0, d1, d2, d3, d4⟩ := row5 hSu.out.1.b.a
            obtain ⟨e0, e1, e2, e3, e4⟩ := row5 hSu.out.2
            go_simp
            first | done | with_reducible rfl
          (try simp only [Act.put, List.setIfInBounds_toArray, List.set_cons_zero, List.set_cons_succ])
          refine anyU_ready (rs := [4]) (by kernel_rfl) (by simp) ?_
          refine EachU.cons (o := { dst := some 59, op := Op.call { callee := Callee.value (Operand.func 67), args := #[Operand.tmp 57, Operand.tmp 58], argTypes := #[38, 38] }, type := 71, pos := "database.go:76", after := #[{ on := 2, ground := Ground.data }, { on := 3, ground := Ground.data }], guard := none }) rfl (fun Kz hK => ?_) EachU.nil
          go_simp
          go_at_call 67
          refine (dbtw_any A x _ _ _ (hHeld.out.1.b.s.db.ok A HAM.out) (hHeld.out.1.b.s.db.ok x HXM.out)).mono ?_
          rintro e w5 ⟨rfl, hg⟩
          have hHn := Lib.hid (And.intro (hHeld.out.1.keep hg) (kept_row hHeld.out.2 hg (by simp)))
          clear hg
          refine hK.out _ _ (fun _ => hHn) (fun hH2 => ?_)
          clear hK Kz hHeld
          have hHeld := hH2 rfl
          clear hH2
          (try simp only [Act.put, List.setIfInBounds_toArray, List.set_cons_zero, List.set_cons_succ])
          refine anyU_ready (rs := [5]) (by kernel_rfl) (by simp) ?_
          refine EachU.cons (o := { dst := some 60, op := Op.buildSlice 57 1 #[(0, Operand.tmp 59)], type := 57, pos := "database.go:76", after := #[{ on := 4, ground := Ground.data }], guard := none }) rfl (fun Kz hK => ?_) EachU.nil
          go_simp
          have hHn := Lib.hid (And.intro (hHeld.out.1.keep (World.grownBy_alloc _ (.cells #[.int .i64 (btw A x).a, .int .i64 (btw A x).b, .int .i64 (btw A x).ca, .int .i64 (btw A x).cb, .int .i64 (btw A x).cp] 71) none)) (kept_row hHeld.out.2 (World.grownBy_alloc _ (.cells #[.int .i64 (btw A x).a, .int .i64 (btw A x).b, .int .i64 (btw A x).ca, .int .i64 (btw A x).cb, .int .i64 (btw A x).cp] 71) none) (by simp)))
          refine hK.out _ _ (fun _ => hHn) (fun hH2 => ?_)
          clear hK Kz hHeld
          have hHeld := hH2 rfl
          clear hH2
          (try simp only [Act.put, List.setIfInBounds_toArray, List.set_cons_zero, List.set_cons_succ])
          refine anyU_ready (rs := [6]) (by kernel_rfl) (by simp) ?_
          refine EachU.cons (o := { dst := some 61, op := Op.call { callee := Callee.builtin Builtin.append, args := #[Operand.tmp 56, Operand.tmp 60], argTypes := #[57, 57] }, type := 57, pos := "database.go:76", after := #[{ on := 1, ground := Ground.data }, { on := 5, ground := Ground.data }, { on := 4, ground := Ground.chain }], guard := none }) rfl (fun Kz hK => ?_) EachU.nil
          refine (astep_app lkC 5 40 (by decide) (fun _ => rfl) lkV_one 71 57 il _ Try.underlying57 hil hl0 hl1 hl2 rfl (by decide) (by rfl) _ _ (by rfl) (B + 1) vL2 L2 (by rfl) hHeld.out.1.b.s.oL (some ⟨_, 0, none⟩) 1 1 [btw A x] (by rfl) rfl (by simp) (fun _ => True) (rdf_one _ trivial (cells5V _ _ _ _ _ _ _) 1) (by omega) (by simp; omega) (by have := hHeld.out.1.b.s.sz; omega) ?_)
          intro p4 c4 w8 hown hg hat
          have HD5 := Lib.hid (hHeld.out.1.addL (L2 := L2 ++ [btw A x]) hown hg hat)
          obtain ⟨b0, b2⟩ := row_cells HD5.out.b.s.t
          have fB := frozen_of_row _ _ 1 _ _ HD5.out.b.s.t
          clear hown hg hat
          refine hK.out _ _ (fun h => by cases h) (fun _ => ?_)
          clear hK Kz
          (try simp only [Act.put, List.setIfInBounds_toArray, List.set_cons_zero, List.set_cons_succ])
          refine anyU_ready (rs := [7]) (by kernel_rfl) (by simp) ?_
          refine EachU.cons (o := { dst := some 62, op := Op.fieldAddr 59 (Operand.tmp 6) 1, type := 0, pos := "database.go:76", after := #[{ on := 0, ground := Ground.phase }, { on := 1, ground := Ground.phase }, { on := 2, ground := Ground.phase }, { on := 3, ground := Ground.phase }, { on := 4, ground := Ground.phase }, { on := 5, ground := Ground.phase }, { on := 6, ground := Ground.phase }], guard := none }) rfl (fun Kz hK => ?_) EachU.nil
          go_simp
          refine hK.out _ _ (fun h => by cases h) (fun _ => ?_)
          clear hK Kz
          (try simp only [Act.put, List.setIfInBounds_toArray, List.set_cons_zero, List.set_cons_succ])
          refine anyU_ready (rs := [8]) (by kernel_rfl) (by simp) ?_
          refine EachU.cons (o := { dst := none, op := Op.store 57 (Operand.tmp 62) (Operand.tmp 61), type := 0, pos := "database.go:76", after := #[{ on := 7, ground := Ground.data }, { on := 6, ground := Ground.data }, { on := 6, ground := Ground.chain }, { on := 0, ground := Ground.phase }, { on := 1, ground := Ground.phase }, { on := 2, ground := Ground.phase }, { on := 3, ground := Ground.phase }, { on := 4, ground := Ground.phase }, { on := 5, ground := Ground.phase }, { on := 6, ground := Ground.phase }], guard := none }) rfl (fun Kz hK => ?_) EachU.nil
          go_simp
          refine hK.out _ _ (fun h => by cases h) (fun _ => ?_)
          clear hK Kz
          (try simp only [Act.put, List.setIfInBounds_toArray, List.set_cons_zero, List.set_cons_succ])
          refine anyU_done (by kernel_rfl) ?_ _
          have HN2 := Lib.hid HD5.out.putL
          clear HD5 HD b0 b2 fB
          go_wp2_with fail
          exact ⟨⟨j + 1, _, L2 ++ [btw A x], by omega, congrArg _ (by omega), by rw [List.length_append]; simp; omega, HF, HN2⟩, by simp only [RowKit.intOf]; omega⟩
        · have HF : Hid (L ++ ((M.take (j + 1)).filter (ltA A)).map (btw A) = L2) := Lib.hid (by rw [HFS.out, if_neg hlr, List.append_nil, HL.out])
          have C2 := Lib.hid C1.out.1
          clear HFS HL C1
          go_wp2_with fail
          exact ⟨⟨j + 1, vL2, L2, by omega, congrArg _ (by omega), by omega, HF, C2⟩, by simp only [RowKit.intOf]; omega⟩
      · obtain rfl : j = M.length := by omega
        have hL9 := HL.out
        rw [List.take_length, ← HVL.out] at hL9
        have KN := Lib.hid C.out.b.s
        rw [hL9] at HN
        have hRl : (R ++ [toR A]).length = R.length + 1 := by rw [List.length_append]; rfl
        clear C HL hL9
        go_wp2_with fail
        exact ⟨⟨k + 1, .slice p5 (R.length + 1) c5, vL2, R ++ [toR A], L2, by omega, congrArg _ (by omega), by omega, by omega, HN, KN⟩, by simp only [RowKit.intOf]; omega⟩
  · obtain rfl : k = l.length := by omega
    have hI := HI.out
    rw [List.take_length] at hI
    have hI1 : vwR l S = R := hI.1
    have hI2 : vwL l S = L := hI.2
    rw [hI1, hI2] at HVW
    have hTK := K.out
    obtain ⟨pR, cR, rfl, n1, m1⟩ := own_shape K.out.oR
    obtain ⟨pL, cL, rfl, n2, m2⟩ := own_shape K.out.oL
    have hlo := K.out.lo
    have HTG : Hid (TgOk wr (fun b => B + 1 ≤ b ∧ b < wr.heap.size) ⟨R, L, pR, cR, pL, cL⟩) := Lib.hid ⟨rdf_of_own2 K.out.oR, rdf_of_own2 K.out.oL, ⟨n1, m1⟩, ⟨n2, m2⟩⟩
    clear hI hI1 hI2 hTK n1 m1 n2 m2 HI
    obtain ⟨b0, b2⟩ := row_cells K.out.t
    go_wp2_with fail
    refine (tcheck_any ⟨R, L, pR, cR, pL, cL⟩ _ wr HTG.out).mono ?_
    rintro e w5 ⟨rfl, hg⟩
    have HT5 := Lib.hid (HTG.out.keep hg)
    have K5 := Lib.hid (K.out.keep hg)
    clear hg K HTG b0 b2
    simp only
    obtain ⟨z, hz⟩ : ∃ z, chk R L = z := ⟨_, rfl⟩
    rw [hz] at HVW ⊢
    clear hz
    obtain ⟨b0, b2⟩ := row_cells K5.out.t
    have z0 := cell_of_row _ _ 0 _ _ _ K5.out.z
    have z1 := cell_of_row _ _ 1 _ _ _ K5.out.z
    have f0 := frozen_of_row _ _ 0 _ _ K5.out.z
    have f1 := frozen_of_row _ _ 1 _ _ K5.out.z
    by_cases hz0 : z = 0
    · have HV : Hid ((R, L) = viewV l r) := Lib.hid (by rw [HVW.out, if_pos hz0])
      obtain ⟨t1, t2⟩ := store2c (.slice pR R.length cR) (.slice pL L.length cL) K5.out.z
      have HT := Lib.hid (And.intro t1 (And.intro (grown_new K5.out.gr t2 (by omega)) (HT5.out.grown t2 (fun b hb e => by have := Option.some.inj e; omega))))
      clear t1 t2 K5 HT5
      subst hz0
      go_wp2_with fail
      refine bodyPost_ret (res_topoV rfl _ _ (w.heap.size + 1) _ _ rfl HT.out.1) rfl ?_
      exact ⟨⟨R, L, pR, cR, pL, cL⟩, rfl, HV.out, HT.out.2.2.mono (fun b hb => by omega), HT.out.2.1⟩
    · have HV : Hid (viewV l r = ([], [])) := Lib.hid (by rw [HVW.out, if_neg hz0])
      obtain ⟨t1, t2⟩ := store2c (.slice none 0 0) (.slice none 0 0) K5.out.z
      have HT := Lib.hid (And.intro t1 (grown_new K5.out.gr t2 (by omega)))
      clear t1 t2 K5 HT5
      go_wp2_with fail
      refine bodyPost_ret (res_topoV rfl _ _ (w.heap.size + 1) _ _ rfl HT.out.1) rfl ?_
      exact vw_no HV.out HT.out.2
end Go.Proofs.Ytnpkihioklpnmaa

/- The laws of databases: the example. -/
namespace Go.Proofs.Ytnpkihioklpnmaa
open Go.RowKit Bs
set_option maxRecDepth 100000 in
theorem rdf_rowD {w : World} {g : Nat} {t : TypeId} {n c : Nat} {xs : List Value} (h : w.heap[g]? = some (.cells xs.toArray t (0, 0))) : RdF w (· = g) (.slice (some ⟨g, 0, none⟩) n c) n xs :=
  ⟨some ⟨g, 0, none⟩, c, rfl, fun _ => ⟨g, 0, rfl, rfl, fun i x hi => by
    rw [cell_of_row _ _ _ _ _ _ h, Nat.zero_add]
    simpa using hi⟩⟩
def xD (p1 p2 : Option Addr) : List Ad := [⟨1, 1, false, [⟨2, 1, 0⟩, ⟨3, 1, 0⟩], [], p1, 2, none, 0⟩, ⟨2, 1, false, [⟨1, 4, 0⟩], [], p2, 1, none, 0⟩, ⟨3, 1, false, [], [], none, 0, none, 0⟩]
set_option maxRecDepth 100000 in
theorem xD_chk (p1 p2 : Option Addr) : chkD (xD p1 p2) = 0 := by kernel_rfl
set_option maxRecDepth 100000 in
theorem xD_view (p1 p2 : Option Addr) : viewV (xD p1 p2) 1 = ([⟨1, false⟩, ⟨2, false⟩], [⟨1, 2, 1, 4, 0⟩]) := by kernel_rfl
/-- The example in memory. -/
structure XM (w : World) (wb : World) : Prop where
  box : wb.heap[w.heap.size + 1 + 1 + 1]? = some (.cells #[.slice (some ⟨w.heap.size + 1 + 1, 0, none⟩) 3 3] 25 (0, 0))
  r : RdA wb (fun _ => True) (.slice (some ⟨w.heap.size + 1 + 1, 0, none⟩) 3 3) (xD (some ⟨w.heap.size, 0, none⟩) (some ⟨w.heap.size + 1, 0, none⟩))
  gr : w.grownBy wb none
set_option maxRecDepth 100000 in
theorem XM.keep {w wb w1 : World} (h : XM w wb) (g : wb.grownBy w1 none) : XM w w1 := ⟨kept_row h.box g (by simp), h.r.keep g, grown_trans h.gr g⟩
set_option maxRecDepth 100000 in
theorem xm_start (w : World) : XM w ((((w.alloc (.cells #[.int .i64 2, .int .i64 1, .int .i64 0, .int .i64 3, .int .i64 1, .int .i64 0] 73)).alloc (.cells #[.int .i64 1, .int .i64 4, .int .i64 0] 73)).alloc (.cells #[.int .i64 1, .int .i64 1, .bool false, .slice (some ⟨w.heap.size, 0, none⟩) 2 2, .slice none 0 0, .int .i64 2, .int .i64 1, .bool false, .slice (some ⟨w.heap.size + 1, 0, none⟩) 1 1, .slice none 0 0, .int .i64 3, .int .i64 1, .bool false, .slice none 0 0, .slice none 0 0] 38)).alloc (.cells #[.slice (some ⟨w.heap.size + 1 + 1, 0, none⟩) 3 3] 25)) := by
  obtain ⟨k1, k2, k3, k4⟩ := two_boxes w #[.int .i64 2, .int .i64 1, .int .i64 0, .int .i64 3, .int .i64 1, .int .i64 0] #[.int .i64 1, .int .i64 4, .int .i64 0] 73 73
  obtain ⟨wb, hwb⟩ : ∃ wb, wb = (w.alloc (.cells #[.int .i64 2, .int .i64 1, .int .i64 0, .int .i64 3, .int .i64 1, .int .i64 0] 73)).alloc (.cells #[.int .i64 1, .int .i64 4, .int .i64 0] 73) := ⟨_, rfl⟩
  rw [← hwb] at k1 k2 k3 k4 ⊢
  obtain ⟨j1, j2, j3, j4⟩ := two_boxes wb #[.int .i64 1, .int .i64 1, .bool false, .slice (some ⟨w.heap.size, 0, none⟩) 2 2, .slice none 0 0, .int .i64 2, .int .i64 1, .bool false, .slice (some ⟨w.heap.size + 1, 0, none⟩) 1 1, .slice none 0 0, .int .i64 3, .int .i64 1, .bool false, .slice none 0 0, .slice none 0 0] #[.slice (some ⟨w.heap.size + 1 + 1, 0, none⟩) 3 3] 38 25
  rw [k4] at j1 j2
  have a1 := kept_row k1 j3 (by simp)
  have a2 := kept_row k2 j3 (by simp)
  refine ⟨j2, ⟨(rdf_rowD (xs := (xD (some ⟨w.heap.size, 0, none⟩) (some ⟨w.heap.size + 1, 0, none⟩)).flatMap adL) j1).mono (fun _ _ => trivial), fun A hA => ?_, fun A hA => ?_⟩, grown_trans k3 j3⟩
  · simp only [xD, List.mem_cons, List.not_mem_nil, or_false] at hA
    rcases hA with rfl | rfl | rfl
    · exact ⟨(rdf_rowD (xs := [(⟨2, 1, 0⟩ : T3), ⟨3, 1, 0⟩].flatMap t3C) a1).mono (fun _ _ => trivial), ⟨none, 0, rfl, fun h => absurd rfl h⟩, ⟨Nat.le_refl 2, by show (2 : Nat) ≤ _; decide⟩, ⟨Nat.le_refl 0, by show (0 : Nat) ≤ _; decide⟩⟩
    · exact ⟨(rdf_rowD (xs := [(⟨1, 4, 0⟩ : T3)].flatMap t3C) a2).mono (fun _ _ => trivial), ⟨none, 0, rfl, fun h => absurd rfl h⟩, ⟨Nat.le_refl 1, by show (1 : Nat) ≤ _; decide⟩, ⟨Nat.le_refl 0, by show (0 : Nat) ≤ _; decide⟩⟩
    · exact ⟨⟨none, 0, rfl, fun h => absurd rfl h⟩, ⟨none, 0, rfl, fun h => absurd rfl h⟩, ⟨Nat.le_refl 0, by show (0 : Nat) ≤ _; decide⟩, ⟨Nat.le_refl 0, by show (0 : Nat) ≤ _; decide⟩⟩
  · simp only [xD, List.mem_cons, List.not_mem_nil, or_false] at hA
    rcases hA with rfl | rfl | rfl
    · exact ⟨fun h => (by cases h), fun _ => rfl⟩
    · exact ⟨fun h => (by cases h), fun _ => rfl⟩
    · exact ⟨fun _ => rfl, fun _ => rfl⟩
set_option maxRecDepth 100000 in
set_option maxHeartbeats 3200000 in
theorem dawake_any (w : World) : Calls Try.prog 22 #[] w fun e w' => e = .returned (.bool true) ∧ w.grownBy w' none := by
  have H0 := Lib.hid (xm_start w)
  go_enter Try.func22, Try.ntmps22
  go_upto_region 2 with fail
  generalize World.alloc (((w.alloc _).alloc _).alloc _) _ = wb at *
  have c0 : wb.cell? ⟨w.heap.size + 1 + 1 + 1, 0, none⟩ = some (.slice (some ⟨w.heap.size + 1 + 1, 0, none⟩) 3 3) := cell_of_row _ _ _ _ _ _ H0.out.box
  go_wp2_with fail
  refine (dview_any (xD (some ⟨w.heap.size, 0, none⟩) (some ⟨w.heap.size + 1, 0, none⟩)) 1 (some ⟨w.heap.size + 1 + 1, 0, none⟩) 3 _ wb H0.out.r (show 3 ≤ 9223372036854775807 by decide)).mono ?_
  rintro e w1 ⟨⟨R, L, pR, cR, pL, cL⟩, rfl, hv, hT, hg⟩
  rw [xD_view] at hv
  injection hv with e1 e2
  simp only at e1 e2
  subst e1 e2
  have gal := World.grownBy_alloc w1 (.cells #[.slice pR 2 cR, .slice pL 1 cL] 59) none
  have H1 := Lib.hid (And.intro (H0.out.keep (grown_trans hg gal)) (And.intro (heap_alloc_new w1 (.cells #[.slice pR 2 cR, .slice pL 1 cL] 59)) (hT.keep gal)))
  clear hT hg gal H0 c0
  go_upto_region 3 with fail
  generalize w1.alloc _ = w2 at *
  have c0 : w2.cell? ⟨w.heap.size + 1 + 1 + 1, 0, none⟩ = some (.slice (some ⟨w.heap.size + 1 + 1, 0, none⟩) 3 3) := cell_of_row _ _ _ _ _ _ H1.out.1.box
  go_wp2_with fail
  refine (dcheck_any (xD (some ⟨w.heap.size, 0, none⟩) (some ⟨w.heap.size + 1, 0, none⟩)) (some ⟨w.heap.size + 1 + 1, 0, none⟩) 3 _ w2 H1.out.1.r (show 3 ≤ 9223372036854775807 by decide)).mono ?_
  rw [xD_chk]
  rintro e w3 ⟨rfl, hg⟩
  have H2 := Lib.hid (And.intro (kept_row H1.out.2.1 hg (by simp)) (And.intro (grown_trans H1.out.1.gr hg) (H1.out.2.2.keep hg)))
  clear hg H1 c0
  obtain ⟨b0, b1⟩ := row_cells H2.out.1
  obtain ⟨-, b, off, rfl, -, hc⟩ := RdF.cells (f := lkC) (k := 5) (fun _ => rfl) (by decide) H2.out.2.2.l (show 0 < 1 by decide)
  have l0 := hc 0 ⟨1, 2, 1, 4, 0⟩ rfl 0 _ rfl
  have l1 := hc 0 ⟨1, 2, 1, 4, 0⟩ rfl 1 _ rfl
  have l2 := hc 0 ⟨1, 2, 1, 4, 0⟩ rfl 2 _ rfl
  have l3 := hc 0 ⟨1, 2, 1, 4, 0⟩ rfl 3 _ rfl
  have l4 := hc 0 ⟨1, 2, 1, 4, 0⟩ rfl 4 _ rfl
  simp only [Nat.zero_mul, Nat.add_zero] at l0 l1 l2 l3 l4
  clear hc
  go_wp2_with fail
  go_ret
  exact ⟨rfl, H2.out.2.1⟩
end Go.Proofs.Ytnpkihioklpnmaa

/- Parts of the proof, packed: DbRf, DbRLn, DbVrM. -/
import Derived.Test.YtnpkihioklpnmaaVw10
import Derived.Test.YtnpkihioklpnmaaVw5
import Derived.Test.YtnpkihioklpnmaaVw8
import Derived.Test.YtnpkihioklpnmaaVw4
/- The reference's Find of databases. -/
namespace Go.Proofs.Ytnpkihioklpnmaa
open Go.RowKit Bs
set_option maxRecDepth 100000 in
set_option maxHeartbeats 3200000 in
theorem rfind_any (l : List Ad) (r : Int) (p : Option Addr) (c : Nat) (q : Nat → Prop) (w : World) (hR : RdA w q (.slice p l.length c) l) (hm : l.length ≤ 9223372036854775807) :
    Calls Try.prog 20 #[.agg #[.slice p l.length c], .int .i64 r] w fun e w' => FinPost l r q w e w' := by
  have H0 := Lib.hid (fb_start hR)
  have HR := Lib.hid hR
  clear hR
  go_enter Try.func20, Try.ntmps20
  go_upto_region 1 with fail
  generalize (w.alloc _).alloc _ = wa at *
  go_wp2_with fail
  go_loopw [6] (fun a wr => ∃ k : Nat, k ≤ l.length ∧ a = .int .i64 (k : Int) ∧ Hid ((l.take k).find? (isR r) = none) ∧ Hid (FB w l p c wr)) (fun a _ => l.length - (RowKit.intOf a).toNat)
  case atStart => exact ⟨0, Nat.zero_le _, rfl, Lib.hid rfl, H0⟩
  case round =>
  obtain ⟨k, hk, rfl, HN, K⟩ := hrel
  clear H0
  have c0 : wr.cell? ⟨w.heap.size, 0, none⟩ = some (.slice p l.length c) := cell_of_row _ _ _ _ _ _ K.out.d
  obtain ⟨z0, z1, z2, z3, z4⟩ := row5 K.out.z
  have f0 := frozen_of_row _ _ 0 _ _ K.out.z
  have f1 := frozen_of_row _ _ 1 _ _ K.out.z
  have f2 := frozen_of_row _ _ 2 _ _ K.out.z
  have f3 := frozen_of_row _ _ 3 _ _ K.out.z
  have f4 := frozen_of_row _ _ 4 _ _ K.out.z
  by_cases hlt : k < l.length
  · have hltI : (k : Int) < (l.length : Int) := by omega
    obtain ⟨-, b, off, rfl, -, -⟩ := rda_cells K.out.db (by omega)
    obtain ⟨A, hA⟩ : ∃ A, l[k]? = some A := ⟨_, List.getElem?_eq_getElem hlt⟩
    obtain ⟨a0, a1, a2, a3, a4⟩ := rda_at K.out.db hA
    have HA := Lib.hid (And.intro hA (List.mem_of_getElem? hA))
    clear hA
    by_cases e : A.r = r
    · have e' : (A.r == r) = true := by simpa using e
      have HF := Lib.hid (fn_hit HN.out HA.out.1 e)
      obtain ⟨t1, t2⟩ := store5 (.int .i64 A.r) (.int .i64 A.q) (.bool A.cp) (.slice A.pL A.L.length A.cL) (.slice A.pC A.C.length A.cC) K.out.z
      have HT := Lib.hid (And.intro t1 (And.intro (grown_new K.out.gr t2 (by omega)) (((((HR.out.ok A HA.out.2).and.keep K.out.gr).grown t2 (fun b hb e => by have := Option.some.inj e; have := hb.2; omega))).mono (fun _ hb => hb.1))))
      clear t1 t2 K e
      go_wp2_with fail
      refine bodyPost_ret (res_adv_b rfl _ _ (w.heap.size + 1) _ _ _ _ _ rfl HT.out.1) rfl ?_
      exact ⟨A, by rw [HF.out]; rfl, by rw [HF.out]; exact ⟨rfl, rfl, rfl, rfl, rfl⟩, HT.out.2.2, HT.out.2.1⟩
    · have e' : (A.r == r) = false := by simpa using e
      have HN2 : Hid ((l.take (k + 1)).find? (isR r) = none) := Lib.hid (by rw [fn_take HN.out HA.out.1, if_neg e])
      clear e HN
      go_wp2_with fail
      exact ⟨⟨k + 1, by omega, congrArg _ (by omega), HN2, K⟩, by simp only [RowKit.intOf]; omega⟩
  · obtain rfl : k = l.length := by omega
    have HF := Lib.hid (fn_end HN.out)
    obtain ⟨t1, t2⟩ := store5 (.int .i64 0) (.int .i64 0) (.bool false) (.slice none 0 0) (.slice none 0 0) K.out.z
    have HT := Lib.hid (And.intro t1 (grown_new K.out.gr t2 (by omega)))
    clear t1 t2 K HN
    go_wp2_with fail
    refine bodyPost_ret (res_adv_b rfl _ _ (w.heap.size + 1) _ _ _ _ _ rfl HT.out.1) rfl ?_
    exact ⟨zAd, by rw [HF.out]; rfl, by rw [HF.out]; exact ⟨rfl, rfl, rfl, rfl, rfl⟩, zAd_ok _ _, HT.out.2⟩
end Go.Proofs.Ytnpkihioklpnmaa

/- The reference's Reach and linked. -/
namespace Go.Proofs.Ytnpkihioklpnmaa
open Go.RowKit Bs
set_option maxRecDepth 100000 in
set_option maxHeartbeats 3200000 in
theorem rreach_any (A : Ad) (t : Int) (q : Nat → Prop) (w : World) (hA : AdOk w q A) :
    Calls Try.prog 39 #[.agg #[.int .i64 A.r, .int .i64 A.q, .bool A.cp, .slice A.pL A.L.length A.cL, .slice A.pC A.C.length A.cC], .int .i64 t] w fun e w' => e = .returned (.tuple #[.agg #[.int .i64 (rcV A t).a, .int .i64 (rcV A t).b, .int .i64 (rcV A t).c], .bool (rcA A t).isSome]) ∧ w.grownBy w' none := by
  obtain ⟨k1, k2, k3, k4⟩ := two_boxes w #[.int .i64 A.r, .int .i64 A.q, .bool A.cp, .slice A.pL A.L.length A.cL, .slice A.pC A.C.length A.cC] #[.int .i64 0, .int .i64 0, .int .i64 0] 38 73
  have HB := Lib.hid (And.intro k1 (And.intro k2 (And.intro k3 (hA.keep k3))))
  have hml : A.L.length ≤ 9223372036854775807 := Nat.le_trans hA.hl.1 hA.hl.2
  clear k1 k2 k3 k4 hA
  obtain ⟨r, q2, cp, L, C, pL, cL, pC, cC⟩ := A
  simp only at HB hml ⊢
  obtain ⟨O, hO⟩ : ∃ O, rcA ⟨r, q2, cp, L, C, pL, cL, pC, cC⟩ t = O := ⟨_, rfl⟩
  unfold rcV
  rw [hO]
  have HO := Lib.hid hO
  clear hO
  go_enter Try.func39, Try.ntmps39
  go_upto_region 1 with fail
  generalize (w.alloc _).alloc _ = wa at *
  obtain ⟨c0, c1, c2, c3, c4⟩ := row5 HB.out.1
  obtain ⟨z0, z1, z2⟩ := row3 HB.out.2.1
  have f0 := frozen_of_row _ _ 0 _ _ HB.out.2.1
  have f1 := frozen_of_row _ _ 1 _ _ HB.out.2.1
  have f2 := frozen_of_row _ _ 2 _ _ HB.out.2.1
  go_wp2_with fail
  go_loopw [6] (fun a wr => ∃ k : Nat, k ≤ L.length ∧ a = .int .i64 (k : Int) ∧ Hid ((L.take k).find? (isN t) = none) ∧ wr = wa) (fun a _ => L.length - (RowKit.intOf a).toNat)
  case atStart => exact ⟨0, Nat.zero_le _, rfl, Lib.hid rfl, rfl⟩
  case round =>
    obtain ⟨k, hk, rfl, HN, rfl⟩ := hrel
    by_cases hlt : k < L.length
    · obtain ⟨-, b, off, rfl, hq, hc⟩ := rd3_cells HB.out.2.2.2.l (show 0 < L.length by omega)
      obtain ⟨x, hx⟩ : ∃ x, L[k]? = some x := ⟨_, List.getElem?_eq_getElem hlt⟩
      obtain ⟨a0, a1, a2⟩ := hc k x hx
      have HX := Lib.hid hx
      clear hc hx
      by_cases e : x.a = t
      · have e' : (x.a == t) = true := by simpa using e
        obtain rfl : some x = O := by rw [← HO.out]; exact (rc_hit (A := ⟨r, q2, cp, L, C, some ⟨b, off, none⟩, cL, pC, cC⟩) HN.out HX.out e).symm
        have HT := Lib.hid (store3r (.int .i64 x.a) (.int .i64 x.b) (.int .i64 x.c) HB.out.2.1)
        have HG := Lib.hid HB.out.2.2.1
        clear HB e
        go_wp2_with fail
        refine bodyPost_ret (res_re_b rfl _ _ (w.heap.size + 1) _ _ _ rfl HT.out.1) rfl ?_
        exact ⟨rfl, grown_new HG.out HT.out.2 (by omega)⟩
      · have e' : (x.a == t) = false := by simpa using e
        have HN2 : Hid ((L.take (k + 1)).find? (isN t) = none) := Lib.hid (by rw [rc_take (A := ⟨r, q2, cp, L, C, some ⟨b, off, none⟩, cL, pC, cC⟩) HN.out HX.out, if_neg e])
        clear e
        go_wp2_with fail
        exact ⟨⟨k + 1, by omega, congrArg _ (by omega), HN2, by first | trivial | rfl⟩, by simp only [RowKit.intOf]; omega⟩
    · obtain rfl : k = L.length := by omega
      obtain rfl : none = O := by rw [← HO.out]; unfold rcA; have := HN.out; rw [List.take_length] at this; exact this.symm
      have HT := Lib.hid (store3r (.int .i64 0) (.int .i64 0) (.int .i64 0) HB.out.2.1)
      have HG := Lib.hid HB.out.2.2.1
      clear HB
      go_wp2_with fail
      refine bodyPost_ret (res_re_b rfl _ _ (w.heap.size + 1) _ _ _ rfl HT.out.1) rfl ?_
      exact ⟨rfl, grown_new HG.out HT.out.2 (by omega)⟩
set_option maxRecDepth 100000 in
theorem results_cct {fn : Func} {p q u : Tmp} {t1 t2 : TypeId} (h : fn.results = #[.cell p t1, .cell q t2, .tmp u]) (tmps : Array Value) (P : Program) (w : World) :
    (results fn tmps).run P w = ((asAddr (tmps.getD p undef)).run P w).andThen fun a w₁ => ((loadVar t1 a).run P w₁).andThen fun v w₂ => ((asAddr (tmps.getD q undef)).run P w₂).andThen fun b w₃ => ((loadVar t2 b).run P w₃).andThen fun z w₄ => .ok (.tuple #[v, z, tmps.getD u undef]) w₄ := by
  simp only [results, h]
  simp [Sem.run_bind, Result.andThen]
set_option maxRecDepth 100000 in
theorem res_re2_b {fn : Func} {p q u : Tmp} (h : fn.results = #[.cell p 73, .cell q 73, .tmp u]) (tmps : Array Value) (w : World) (g g2 : Nat) (x y z x2 y2 z2 : Value) (hp : tmps.getD p undef = .pointer (some ⟨g, 0, none⟩)) (hq : tmps.getD q undef = .pointer (some ⟨g2, 0, none⟩)) (hg : w.heap[g]? = some (.cells #[x, y, z] 73 (0, 0))) (hg2 : w.heap[g2]? = some (.cells #[x2, y2, z2] 73 (0, 0))) :
    (results fn tmps).run Try.prog w = .ok (.tuple #[.agg #[x, y, z], .agg #[x2, y2, z2], tmps.getD u undef]) w := by
  have hp' : tmps[p]?.getD undef = .pointer (some ⟨g, 0, none⟩) := by simpa using hp
  have hq' : tmps[q]?.getD undef = .pointer (some ⟨g2, 0, none⟩) := by simpa using hq
  rw [results_cct h]
  simp [hp', hq', asAddr, run_loadVar_row w g _ _ _ _ _ hg Try.underlying73 rfl re_size, run_loadVar_row w g2 _ _ _ _ _ hg2 Try.underlying73 rfl re_size, Result.andThen]
/-- Are two routers linked? -/
def lkdB (l : List Ad) (x y : Int) : Bool := match fndA l x, fndA l y with
  | some A, some B => (rcA A y).isSome && (rcA B x).isSome
  | _, _ => false
/-- What linked returns. -/
def LnPost (l : List Ad) (x y : Int) (W : World) (e : Ending) (w' : World) : Prop :=
  ∃ u v : T3, e = .returned (.tuple #[.agg #[.int .i64 u.a, .int .i64 u.b, .int .i64 u.c], .agg #[.int .i64 v.a, .int .i64 v.b, .int .i64 v.c], .bool (lkdB l x y)]) ∧ (∀ A B, fndA l x = some A → fndA l y = some B → u = rcV A y ∧ v = rcV B x) ∧ W.grownBy w' none
/-- While linked looks: the database's box, the results'. -/
structure LnW (W : World) (l : List Ad) (p : Option Addr) (c : Nat) (w : World) : Prop where
  d : w.heap[W.heap.size]? = some (.cells #[.slice p l.length c] 25 (0, 0))
  y : w.heap[W.heap.size + 1]? = some (.cells #[.int .i64 0, .int .i64 0, .int .i64 0] 73 (0, 0))
  z : w.heap[W.heap.size + 2]? = some (.cells #[.int .i64 0, .int .i64 0, .int .i64 0] 73 (0, 0))
  db : RdA w (fun _ => True) (.slice p l.length c) l
  gr : W.grownBy w none
set_option maxRecDepth 100000 in
theorem LnW.keep {W w w1 : World} {l : List Ad} {p : Option Addr} {c : Nat} (h : LnW W l p c w) (g : w.grownBy w1 none) : LnW W l p c w1 := ⟨kept_row h.d g (by simp), kept_row h.y g (by simp), kept_row h.z g (by simp), h.db.keep g, grown_trans h.gr g⟩
set_option maxRecDepth 100000 in
theorem ln_start {w : World} {l : List Ad} {p : Option Addr} {c : Nat} {q : Nat → Prop} (hR : RdA w q (.slice p l.length c) l) : LnW w l p c (((w.alloc (.cells #[.slice p l.length c] 25)).alloc (.cells #[.int .i64 0, .int .i64 0, .int .i64 0] 73)).alloc (.cells #[.int .i64 0, .int .i64 0, .int .i64 0] 73)) := by
  obtain ⟨k1, k2, k3, k4⟩ := two_boxes w #[.slice p l.length c] #[.int .i64 0, .int .i64 0, .int .i64 0] 25 73
  obtain ⟨n1, n2⟩ := tone_box ((w.alloc (.cells #[.slice p l.length c] 25)).alloc (.cells #[.int .i64 0, .int .i64 0, .int .i64 0] 73)) #[.int .i64 0, .int .i64 0, .int .i64 0] 73
  rw [k4] at n1
  exact ⟨kept_row k1 n2 (by simp), kept_row k2 n2 (by simp), n1, ((hR.keep k3).keep n2).mono (fun _ _ => trivial), grown_trans k3 n2⟩
set_option maxRecDepth 100000 in
/-- The results are laid into their boxes. -/
theorem LnW.fin {W w : World} {l : List Ad} {p : Option Addr} {c : Nat} (h : LnW W l p c w) (x0 x1 x2 y0 y1 y2 : Value) :
    ((((((w.setCell ⟨W.heap.size + 1, 0, none⟩ x0).setCell ⟨W.heap.size + 1, 1, none⟩ x1).setCell ⟨W.heap.size + 1, 2, none⟩ x2).setCell ⟨W.heap.size + 2, 0, none⟩ y0).setCell ⟨W.heap.size + 2, 1, none⟩ y1).setCell ⟨W.heap.size + 2, 2, none⟩ y2).heap[W.heap.size + 1]? = some (.cells #[x0, x1, x2] 73 (0, 0)) ∧
    ((((((w.setCell ⟨W.heap.size + 1, 0, none⟩ x0).setCell ⟨W.heap.size + 1, 1, none⟩ x1).setCell ⟨W.heap.size + 1, 2, none⟩ x2).setCell ⟨W.heap.size + 2, 0, none⟩ y0).setCell ⟨W.heap.size + 2, 1, none⟩ y1).setCell ⟨W.heap.size + 2, 2, none⟩ y2).heap[W.heap.size + 2]? = some (.cells #[y0, y1, y2] 73 (0, 0)) ∧
    W.grownBy ((((((w.setCell ⟨W.heap.size + 1, 0, none⟩ x0).setCell ⟨W.heap.size + 1, 1, none⟩ x1).setCell ⟨W.heap.size + 1, 2, none⟩ x2).setCell ⟨W.heap.size + 2, 0, none⟩ y0).setCell ⟨W.heap.size + 2, 1, none⟩ y1).setCell ⟨W.heap.size + 2, 2, none⟩ y2) none := by
  obtain ⟨s1, s2⟩ := store3r x0 x1 x2 h.y
  have hz := kept_row h.z s2 (fun e => by have := Option.some.inj e; omega)
  obtain ⟨s3, s4⟩ := store3r y0 y1 y2 hz
  exact ⟨kept_row s1 s4 (fun e => by have := Option.some.inj e; omega), s3, grown_new (grown_new h.gr s2 (by omega)) s4 (by omega)⟩
/-- While the results are laid into their boxes: what is read, and that the boxes are there. -/
structure LnS (W : World) (bu bv : Nat) (u v : T3) (w : World) : Prop where
  a : w.heap[bu]? = some (.cells #[.int .i64 u.a, .int .i64 u.b, .int .i64 u.c] 73 (0, 0))
  b : w.heap[bv]? = some (.cells #[.int .i64 v.a, .int .i64 v.b, .int .i64 v.c] 73 (0, 0))
  y : ∃ c0 c1 c2, w.heap[W.heap.size + 1]? = some (.cells #[c0, c1, c2] 73 (0, 0))
  z : ∃ c0 c1 c2, w.heap[W.heap.size + 2]? = some (.cells #[c0, c1, c2] 73 (0, 0))
  g : W.grownBy w none
  lo : W.heap.size + 3 ≤ bu ∧ W.heap.size + 3 ≤ bv
section
variable {W w : World} {bu bv : Nat} {u v : T3}
set_option maxRecDepth 100000 in
theorem LnS.put1 (h : LnS W bu bv u v w) (x0 x1 x2 : Value) : LnS W bu bv u v (((w.setCell ⟨W.heap.size + 1, 0, none⟩ x0).setCell ⟨W.heap.size + 1, 1, none⟩ x1).setCell ⟨W.heap.size + 1, 2, none⟩ x2) ∧ (((w.setCell ⟨W.heap.size + 1, 0, none⟩ x0).setCell ⟨W.heap.size + 1, 1, none⟩ x1).setCell ⟨W.heap.size + 1, 2, none⟩ x2).heap[W.heap.size + 1]? = some (.cells #[x0, x1, x2] 73 (0, 0)) := by
  obtain ⟨c0, c1, c2, hy⟩ := h.y
  obtain ⟨s1, s2⟩ := store3r x0 x1 x2 hy
  have hlo := h.lo
  obtain ⟨d0, d1, d2, hz⟩ := h.z
  exact ⟨⟨kept_row h.a s2 (fun e => by have := Option.some.inj e; omega), kept_row h.b s2 (fun e => by have := Option.some.inj e; omega), ⟨_, _, _, s1⟩, ⟨_, _, _, kept_row hz s2 (fun e => by have := Option.some.inj e; omega)⟩, grown_new h.g s2 (by omega), h.lo⟩, s1⟩
set_option maxRecDepth 100000 in
theorem LnS.put2 (h : LnS W bu bv u v w) (x0 x1 x2 : Value) {Y : Array Value} (hY : w.heap[W.heap.size + 1]? = some (.cells Y 73 (0, 0))) : LnS W bu bv u v (((w.setCell ⟨W.heap.size + 2, 0, none⟩ x0).setCell ⟨W.heap.size + 2, 1, none⟩ x1).setCell ⟨W.heap.size + 2, 2, none⟩ x2) ∧ (((w.setCell ⟨W.heap.size + 2, 0, none⟩ x0).setCell ⟨W.heap.size + 2, 1, none⟩ x1).setCell ⟨W.heap.size + 2, 2, none⟩ x2).heap[W.heap.size + 2]? = some (.cells #[x0, x1, x2] 73 (0, 0)) ∧ (((w.setCell ⟨W.heap.size + 2, 0, none⟩ x0).setCell ⟨W.heap.size + 2, 1, none⟩ x1).setCell ⟨W.heap.size + 2, 2, none⟩ x2).heap[W.heap.size + 1]? = some (.cells Y 73 (0, 0)) := by
  obtain ⟨c0, c1, c2, hz⟩ := h.z
  obtain ⟨s1, s2⟩ := store3r x0 x1 x2 hz
  have hlo := h.lo
  obtain ⟨d0, d1, d2, hy⟩ := h.y
  exact ⟨⟨kept_row h.a s2 (fun e => by have := Option.some.inj e; omega), kept_row h.b s2 (fun e => by have := Option.some.inj e; omega), ⟨_, _, _, kept_row hy s2 (fun e => by have := Option.some.inj e; omega)⟩, ⟨_, _, _, s1⟩, grown_new h.g s2 (by omega), h.lo⟩, s1, kept_row hY s2 (fun e => by have := Option.some.inj e; omega)⟩
end
set_option maxRecDepth 100000 in
set_option maxHeartbeats 12800000 in
theorem rlinked_any (l : List Ad) (x y : Int) (p : Option Addr) (c : Nat) (q : Nat → Prop) (w : World) (hR : RdA w q (.slice p l.length c) l) (hm : l.length ≤ 9223372036854775807) :
    Calls Try.prog 69 #[.agg #[.slice p l.length c], .int .i64 x, .int .i64 y] w fun e w' => LnPost l x y w e w' := by
  have H0 := Lib.hid (ln_start hR)
  clear hR
  go_enter Try.func69, Try.ntmps69
  go_upto_region 1 with fail
  generalize ((w.alloc _).alloc _).alloc _ = wa at *
  have c0 := cell_of_row _ _ 0 _ _ _ H0.out.d
  go_wp2_with fail
  refine (rfind_any l x p c _ wa H0.out.db hm).mono ?_
  rintro e w1 ⟨A, rfl, hA, hok, hg⟩
  obtain ⟨n1, n2⟩ := tone_box w1 #[.int .i64 A.r, .int .i64 A.q, .bool A.cp, .slice A.pL A.L.length A.cL, .slice A.pC A.C.length A.cC] 38
  have H1 := Lib.hid (And.intro ((H0.out.keep hg).keep n2) (And.intro n1 (hok.keep n2)))
  have HA := Lib.hid hA
  clear hA hok hg n1 n2 H0 c0
  obtain ⟨FA, hFA⟩ : ∃ F, fndA l x = F := ⟨_, rfl⟩
  rw [hFA] at HA ⊢
  have HFA := Lib.hid hFA
  clear hFA
  go_upto_region 2 with fail
  generalize hw : w1.alloc _ = w2 at *
  generalize w1.heap.size = bx at *
  clear hw w1
  have c0 := cell_of_row _ _ 0 _ _ _ H1.out.1.d
  go_wp2_with fail
  refine (rfind_any l y p c _ w2 H1.out.1.db hm).mono ?_
  rintro e w3 ⟨B, rfl, hB, hok, hg⟩
  obtain ⟨n1, n2⟩ := tone_box w3 #[.int .i64 B.r, .int .i64 B.q, .bool B.cp, .slice B.pL B.L.length B.cL, .slice B.pC B.C.length B.cC] 38
  have H2 := Lib.hid (And.intro ((H1.out.1.keep hg).keep n2) (And.intro (kept_row (kept_row H1.out.2.1 hg (by simp)) n2 (by simp)) (And.intro ((H1.out.2.2.keep hg).keep n2) (And.intro n1 (hok.keep n2)))))
  have HB := Lib.hid hB
  clear hB hok hg n1 n2 H1 c0
  obtain ⟨FB, hFB⟩ : ∃ F, fndA l y = F := ⟨_, rfl⟩
  rw [hFB] at HB ⊢
  have HFB := Lib.hid hFB
  clear hFB
  go_upto_region 3 with fail
  generalize hw : w3.alloc _ = w4 at *
  generalize w3.heap.size = by_ at *
  clear hw w3
  obtain ⟨y0, y1, y2⟩ := row3 H2.out.1.y
  have f0 := frozen_of_row _ _ 0 _ _ H2.out.1.y
  have f1 := frozen_of_row _ _ 1 _ _ H2.out.1.y
  have f2 := frozen_of_row _ _ 2 _ _ H2.out.1.y
  obtain ⟨z0, z1, z2⟩ := row3 H2.out.1.z
  have g0 := frozen_of_row _ _ 0 _ _ H2.out.1.z
  have g1 := frozen_of_row _ _ 1 _ _ H2.out.1.z
  have g2 := frozen_of_row _ _ 2 _ _ H2.out.1.z
  have HZ := Lib.hid (H2.out.1.fin (.int .i64 0) (.int .i64 0) (.int .i64 0) (.int .i64 0) (.int .i64 0) (.int .i64 0))
  cases FA with
  | none =>
    have hk : lkdB l x y = false := by unfold lkdB; rw [HFA.out]
    have HF : Hid (LnPost l x y w (.returned (.tuple #[.agg #[.int .i64 0, .int .i64 0, .int .i64 0], .agg #[.int .i64 0, .int .i64 0, .int .i64 0], .bool false])) _) := Lib.hid ⟨⟨0, 0, 0⟩, ⟨0, 0, 0⟩, by rw [hk], fun A B h => (by rw [HFA.out] at h; cases h), HZ.out.2.2⟩
    clear hk H2
    go_wp2_with fail
    refine bodyPost_ret (res_re2_b rfl _ _ (w.heap.size + 1) (w.heap.size + 2) _ _ _ _ _ _ rfl rfl HZ.out.1 HZ.out.2.1) rfl ?_
    exact HF.out
  | some A0 =>
    cases FB with
    | none =>
      have hk : lkdB l x y = false := by unfold lkdB; rw [HFA.out, HFB.out]
      have HF : Hid (LnPost l x y w (.returned (.tuple #[.agg #[.int .i64 0, .int .i64 0, .int .i64 0], .agg #[.int .i64 0, .int .i64 0, .int .i64 0], .bool false])) _) := Lib.hid ⟨⟨0, 0, 0⟩, ⟨0, 0, 0⟩, by rw [hk], fun A B _ h => (by rw [HFB.out] at h; cases h), HZ.out.2.2⟩
      clear hk H2
      go_wp2_with fail
      refine bodyPost_ret (res_re2_b rfl _ _ (w.heap.size + 1) (w.heap.size + 2) _ _ _ _ _ _ rfl rfl HZ.out.1 HZ.out.2.1) rfl ?_
      exact HF.out
    | some B0 =>
      have ea : ∀ t, rcA A t = rcA A0 t := fun t => by unfold rcA; rw [show A.L = A0.L from HA.out.2.2.2.1]
      have eb : ∀ t, rcA B t = rcA B0 t := fun t => by unfold rcA; rw [show B.L = B0.L from HB.out.2.2.2.1]
      have HK : Hid (lkdB l x y = ((rcA A y).isSome && (rcA B x).isSome) ∧ rcV A y = rcV A0 y ∧ rcV B x = rcV B0 x) := Lib.hid ⟨by unfold lkdB; rw [HFA.out, HFB.out, ea, eb], by unfold rcV; rw [ea], by unfold rcV; rw [eb]⟩
      clear ea eb HZ y0 y1 y2 f0 f1 f2 z0 z1 z2 g0 g1 g2
      obtain ⟨a0, a1, a2, a3, a4⟩ := row5 H2.out.2.1
      go_wp2_with fail
      refine (rreach_any A y _ w4 H2.out.2.2.1).mono ?_
      rintro e w5 ⟨rfl, hg⟩
      obtain ⟨n1, n2⟩ := tone_box w5 #[.int .i64 (rcV A y).a, .int .i64 (rcV A y).b, .int .i64 (rcV A y).c] 73
      have H3 := Lib.hid (And.intro ((H2.out.1.keep hg).keep n2) (And.intro n1 (And.intro (kept_row (kept_row H2.out.2.2.2.1 hg (by simp)) n2 (by simp)) ((H2.out.2.2.2.2.keep hg).keep n2))))
      have HL1 : Hid (w.heap.size + 3 ≤ w5.heap.size) := Lib.hid (by have := World.lt_of_row' H2.out.1.z; have := hg.size; omega)
      clear hg n1 n2 H2 a0 a1 a2 a3 a4
      go_upto_region 6 with fail
      generalize hw : w5.alloc _ = w6 at *
      generalize w5.heap.size = bu at *
      clear hw w5
      obtain ⟨b0, b1, b2, b3, b4⟩ := row5 H3.out.2.2.1
      go_wp2_with fail
      refine (rreach_any B x _ w6 H3.out.2.2.2).mono ?_
      rintro e w7 ⟨rfl, hg⟩
      obtain ⟨n1, n2⟩ := tone_box w7 #[.int .i64 (rcV B x).a, .int .i64 (rcV B x).b, .int .i64 (rcV B x).c] 73
      have H4 := Lib.hid (And.intro ((H3.out.1.keep hg).keep n2) (And.intro (kept_row (kept_row H3.out.2.1 hg (by simp)) n2 (by simp)) n1))
      have HLO : Hid (w.heap.size + 3 ≤ bu ∧ w.heap.size + 3 ≤ w7.heap.size) := Lib.hid ⟨HL1.out, by have := World.lt_of_row' H3.out.1.z; have := hg.size; omega⟩
      clear hg n1 n2 H3 b0 b1 b2 b3 b4 HL1
      go_upto_region 7 with fail
      generalize hw : w7.alloc _ = w8 at *
      generalize w7.heap.size = bv at *
      clear hw w7
      obtain ⟨u, hu⟩ : ∃ u, rcV A y = u := ⟨_, rfl⟩
      obtain ⟨v, hv⟩ : ∃ v, rcV B x = v := ⟨_, rfl⟩
      rw [hu] at H4 HK ⊢
      rw [hv] at H4 HK ⊢
      clear hu hv
      have H5 : Hid (LnS w bu bv u v w8) := Lib.hid ⟨H4.out.2.1, H4.out.2.2, ⟨_, _, _, H4.out.1.y⟩, ⟨_, _, _, H4.out.1.z⟩, H4.out.1.gr, HLO.out⟩
      have HD : Hid (LnS w bu bv u v w8.drew) := Lib.hid ⟨H4.out.2.1, H4.out.2.2, ⟨_, _, _, H4.out.1.y⟩, ⟨_, _, _, H4.out.1.z⟩, grown_drew H4.out.1.gr, HLO.out⟩
      clear H4 H5
      obtain ⟨o1, ho1⟩ : ∃ o, (rcA A y).isSome = o := ⟨_, rfl⟩
      obtain ⟨o2, ho2⟩ : ∃ o, (rcA B x).isSome = o := ⟨_, rfl⟩
      rw [ho1, ho2] at HK
      rw [ho1, ho2]
      clear ho1 ho2
      have HF : ∀ w9 : World, Hid (w.grownBy w9 none) → Hid (LnPost l x y w (.returned (.tuple #[.agg #[.int .i64 u.a, .int .i64 u.b, .int .i64 u.c], .agg #[.int .i64 v.a, .int .i64 v.b, .int .i64 v.c], .bool (o1 && o2)])) w9) := fun w9 h9 => Lib.hid ⟨u, v, by rw [HK.out.1], fun A1 B1 h1 h2 => by
        rw [HFA.out] at h1
        rw [HFB.out] at h2
        obtain rfl := Option.some.inj h1
        obtain rfl := Option.some.inj h2
        exact ⟨HK.out.2.1, HK.out.2.2⟩, h9.out⟩
      cases o1 with
      | false =>
        refine wp_region_held_drew (S := fun w' => Hid (LnS w bu bv u v w')) (by kernel_rfl) (HD) (fun hHeld => ?_)
        generalize hwd : w8.drew = wd at *
        clear hwd
        refine wpAnyH_take (i := 0) (oi := { dst := some 49, op := Op.load 73 (Operand.tmp 13), type := 73, pos := "ref.go:113", after := #[], guard := none }) (v := ?_) rfl (by kernel_rfl) (by kernel_rfl) (by kernel_rfl) (fun _ _ _ h => h) (Or.inl ⟨by rfl, ?_⟩) hHeld ?_
        rotate_left 1
        · intro u hSu
          obtain ⟨p0, p1, p2⟩ := row3 hSu.out.a
          obtain ⟨r0, r1, r2⟩ := row3 hSu.out.b
          go_simp
          first | done | with_reducible rfl
        (try simp only [Act.put, List.setIfInBounds_toArray, List.set_cons_zero, List.set_cons_succ])
        refine wpAnyH_take (i := 1) (oi := { dst := some 50, op := Op.load 73 (Operand.tmp 15), type := 73, pos := "ref.go:113", after := #[{ on := 6, ground := Ground.gcOnly Departure.lateStores }], guard := none }) (v := ?_) rfl (by kernel_rfl) (by kernel_rfl) (by kernel_rfl) (fun _ _ _ h => h) (Or.inl ⟨by rfl, ?_⟩) hHeld ?_
        rotate_left 1
        · intro u hSu
          obtain ⟨p0, p1, p2⟩ := row3 hSu.out.a
          obtain ⟨r0, r1, r2⟩ := row3 hSu.out.b
          go_simp
          first | done | with_reducible rfl
        (try simp only [Act.put, List.setIfInBounds_toArray, List.set_cons_zero, List.set_cons_succ])
        refine wpAnyH_take (i := 2) (oi := { dst := some 51, op := Op.move (Operand.tmp 14), type := 4, pos := "ref.go:113", after := #[], guard := none }) (v := ?_) rfl (by kernel_rfl) (by kernel_rfl) (by kernel_rfl) (fun _ _ _ h => h) (Or.inl ⟨by rfl, ?_⟩) hHeld ?_
        rotate_left 1
        · intro u hSu
          obtain ⟨p0, p1, p2⟩ := row3 hSu.out.a
          obtain ⟨r0, r1, r2⟩ := row3 hSu.out.b
          go_simp
          first | done | with_reducible rfl
        (try simp only [Act.put, List.setIfInBounds_toArray, List.set_cons_zero, List.set_cons_succ])
        refine wpAnyH_take (i := 3) (oi := { dst := some 52, op := Op.move (Operand.tmp 51), type := 4, pos := "ref.go:113", after := #[{ on := 2, ground := Ground.data }], guard := none }) (v := ?_) rfl (by kernel_rfl) (by kernel_rfl) (by kernel_rfl) (fun _ _ _ h => h) (Or.inl ⟨by rfl, ?_⟩) hHeld ?_
        rotate_left 1
        · intro u hSu
          obtain ⟨p0, p1, p2⟩ := row3 hSu.out.a
          obtain ⟨r0, r1, r2⟩ := row3 hSu.out.b
          go_simp
          first | done | with_reducible rfl
        (try simp only [Act.put, List.setIfInBounds_toArray, List.set_cons_zero, List.set_cons_succ])
        refine wpAnyH_take (i := 4) (oi := { dst := some 53, op := Op.move (Operand.tmp 16), type := 4, pos := "ref.go:113", after := #[{ on := 3, ground := Ground.guard }, { on := 7, ground := Ground.gcOnly Departure.lateStores }], guard := some (3, true) }) (v := undef) rfl (by kernel_rfl) (by kernel_rfl) (by kernel_rfl) (fun _ _ _ h => h) (Or.inr ⟨by rfl, rfl⟩) hHeld ?_
        (try simp only [Act.put, List.setIfInBounds_toArray, List.set_cons_zero, List.set_cons_succ])
        refine wpAnyH_take (i := 5) (oi := { dst := some 54, op := Op.pick (Operand.tmp 52) (Operand.tmp 53) (Operand.const (Value.bool false)), type := 4, pos := "ref.go:113", after := #[{ on := 3, ground := Ground.data }, { on := 4, ground := Ground.data }, { on := 7, ground := Ground.gcOnly Departure.lateStores }], guard := none }) (v := ?_) rfl (by kernel_rfl) (by kernel_rfl) (by kernel_rfl) (fun _ _ _ h => h) (Or.inl ⟨by rfl, ?_⟩) hHeld ?_
        rotate_left 1
        · intro u hSu
          obtain ⟨p0, p1, p2⟩ := row3 hSu.out.a
          obtain ⟨r0, r1, r2⟩ := row3 hSu.out.b
          go_simp
          first | done | with_reducible rfl
        (try simp only [Act.put, List.setIfInBounds_toArray, List.set_cons_zero, List.set_cons_succ])
        refine wpAnyH_ready (rs := [6]) (by kernel_rfl) (by simp) ?_
        refine AllReadyH.cons (o := { dst := none, op := Op.store 73 (Operand.tmp 6) (Operand.tmp 49), type := 0, pos := "ref.go:113", after := #[{ on := 0, ground := Ground.data }, { on := 3, ground := Ground.chain }, { on := 0, ground := Ground.phase }, { on := 1, ground := Ground.textOnly Departure.lateStores }, { on := 2, ground := Ground.textOnly Departure.lateStores }, { on := 3, ground := Ground.textOnly Departure.lateStores }, { on := 4, ground := Ground.textOnly Departure.lateStores }, { on := 5, ground := Ground.textOnly Departure.lateStores }], guard := none }) rfl (fun Kz hK => ?_) AllReadyH.nil
        obtain ⟨y0, y1, y2, hy⟩ := hHeld.out.y
        obtain ⟨e0, e1, e2⟩ := row3 hy
        have f0 := frozen_of_row _ _ 0 _ _ hy
        have f1 := frozen_of_row _ _ 1 _ _ hy
        have f2 := frozen_of_row _ _ 2 _ _ hy
        have HE1 := Lib.hid (hHeld.out.put1 (.int .i64 u.a) (.int .i64 u.b) (.int .i64 u.c))
        go_simp
        generalize hw6 : World.setCell _ _ _ = w9 at *
        clear hw6 e0 e1 e2 f0 f1 f2 hy
        refine hK.out _ _ (Lib.hid HE1.out.1) (fun hH2 => ?_)
        clear hK Kz hHeld
        have hHeld := hH2
        clear hH2
        (try simp only [Act.put, List.setIfInBounds_toArray, List.set_cons_zero, List.set_cons_succ])
        refine wpAnyH_ready (rs := [7]) (by kernel_rfl) (by simp) ?_
        refine AllReadyH.cons (o := { dst := none, op := Op.store 73 (Operand.tmp 7) (Operand.tmp 50), type := 0, pos := "ref.go:113", after := #[{ on := 1, ground := Ground.data }, { on := 6, ground := Ground.chain }, { on := 0, ground := Ground.phase }, { on := 1, ground := Ground.phase }, { on := 2, ground := Ground.textOnly Departure.lateStores }, { on := 3, ground := Ground.textOnly Departure.lateStores }, { on := 4, ground := Ground.textOnly Departure.lateStores }, { on := 5, ground := Ground.textOnly Departure.lateStores }, { on := 6, ground := Ground.phase }], guard := none }) rfl (fun Kz hK => ?_) AllReadyH.nil
        obtain ⟨z0, z1, z2, hz⟩ := hHeld.out.z
        obtain ⟨k0, k1, k2⟩ := row3 hz
        have g0 := frozen_of_row _ _ 0 _ _ hz
        have g1 := frozen_of_row _ _ 1 _ _ hz
        have g2 := frozen_of_row _ _ 2 _ _ hz
        have HE2 := Lib.hid (hHeld.out.put2 (.int .i64 v.a) (.int .i64 v.b) (.int .i64 v.c) HE1.out.2)
        go_simp
        generalize hw7 : World.setCell _ _ _ = w10 at *
        clear hw7 k0 k1 k2 g0 g1 g2 hz
        refine hK.out _ _ (Lib.hid HE2.out.1) (fun hH2 => ?_)
        clear hK Kz hHeld
        have hHeld := hH2
        clear hH2
        (try simp only [Act.put, List.setIfInBounds_toArray, List.set_cons_zero, List.set_cons_succ])
        refine wpAnyH_take (i := 8) (oi := { dst := some 8, op := Op.assign (Operand.tmp 54), type := 4, pos := "ref.go:113", after := #[{ on := 5, ground := Ground.data }, { on := 7, ground := Ground.chain }, { on := 0, ground := Ground.phase }, { on := 1, ground := Ground.phase }, { on := 2, ground := Ground.phase }, { on := 3, ground := Ground.phase }, { on := 4, ground := Ground.phase }, { on := 5, ground := Ground.phase }, { on := 6, ground := Ground.phase }, { on := 7, ground := Ground.phase }], guard := none }) (v := ?_) rfl (by kernel_rfl) (by kernel_rfl) (by kernel_rfl) (fun _ _ _ h => h) (Or.inl ⟨by rfl, ?_⟩) hHeld ?_
        rotate_left 1
        · intro u hSu
          obtain ⟨p0, p1, p2⟩ := row3 hSu.out.a
          obtain ⟨r0, r1, r2⟩ := row3 hSu.out.b
          go_simp
          first | done | with_reducible rfl
        (try simp only [Act.put, List.setIfInBounds_toArray, List.set_cons_zero, List.set_cons_succ])
        refine wpAnyH_done (by kernel_rfl) ?_ _
        have HF2 := HF _ (Lib.hid HE2.out.1.g)
        clear HF HD hHeld HE1
        go_wp2_with fail
        refine bodyPost_ret (res_re2_b rfl _ _ (w.heap.size + 1) (w.heap.size + 2) _ _ _ _ _ _ rfl rfl HE2.out.2.2 HE2.out.2.1) rfl ?_
        exact HF2.out
      | true =>
        refine wp_region_held_drew (S := fun w' => Hid (LnS w bu bv u v w')) (by kernel_rfl) (HD) (fun hHeld => ?_)
        generalize hwd : w8.drew = wd at *
        clear hwd
        refine wpAnyH_take (i := 0) (oi := { dst := some 49, op := Op.load 73 (Operand.tmp 13), type := 73, pos := "ref.go:113", after := #[], guard := none }) (v := ?_) rfl (by kernel_rfl) (by kernel_rfl) (by kernel_rfl) (fun _ _ _ h => h) (Or.inl ⟨by rfl, ?_⟩) hHeld ?_
        rotate_left 1
        · intro u hSu
          obtain ⟨p0, p1, p2⟩ := row3 hSu.out.a
          obtain ⟨r0, r1, r2⟩ := row3 hSu.out.b
          go_simp
          first | done | with_reducible rfl
        (try simp only [Act.put, List.setIfInBounds_toArray, List.set_cons_zero, List.set_cons_succ])
        refine wpAnyH_take (i := 1) (oi := { dst := some 50, op := Op.load 73 (Operand.tmp 15), type := 73, pos := "ref.go:113", after := #[{ on := 6, ground := Ground.gcOnly Departure.lateStores }], guard := none }) (v := ?_) rfl (by kernel_rfl) (by kernel_rfl) (by kernel_rfl) (fun _ _ _ h => h) (Or.inl ⟨by rfl, ?_⟩) hHeld ?_
        rotate_left 1
        · intro u hSu
          obtain ⟨p0, p1, p2⟩ := row3 hSu.out.a
          obtain ⟨r0, r1, r2⟩ := row3 hSu.out.b
          go_simp
          first | done | with_reducible rfl
        (try simp only [Act.put, List.setIfInBounds_toArray, List.set_cons_zero, List.set_cons_succ])
        refine wpAnyH_take (i := 2) (oi := { dst := some 51, op := Op.move (Operand.tmp 14), type := 4, pos := "ref.go:113", after := #[], guard := none }) (v := ?_) rfl (by kernel_rfl) (by kernel_rfl) (by kernel_rfl) (fun _ _ _ h => h) (Or.inl ⟨by rfl, ?_⟩) hHeld ?_
        rotate_left 1
        · intro u hSu
          obtain ⟨p0, p1, p2⟩ := row3 hSu.out.a
          obtain ⟨r0, r1, r2⟩ := row3 hSu.out.b
          go_simp
          first | done | with_reducible rfl
        (try simp only [Act.put, List.setIfInBounds_toArray, List.set_cons_zero, List.set_cons_succ])
        refine wpAnyH_take (i := 3) (oi := { dst := some 52, op := Op.move (Operand.tmp 51), type := 4, pos := "ref.go:113", after := #[{ on := 2, ground := Ground.data }], guard := none }) (v := ?_) rfl (by kernel_rfl) (by kernel_rfl) (by kernel_rfl) (fun _ _ _ h => h) (Or.inl ⟨by rfl, ?_⟩) hHeld ?_
        rotate_left 1
        · intro u hSu
          obtain ⟨p0, p1, p2⟩ := row3 hSu.out.a
          obtain ⟨r0, r1, r2⟩ := row3 hSu.out.b
          go_simp
          first | done | with_reducible rfl
        (try simp only [Act.put, List.setIfInBounds_toArray, List.set_cons_zero, List.set_cons_succ])
        refine wpAnyH_take (i := 4) (oi := { dst := some 53, op := Op.move (Operand.tmp 16), type := 4, pos := "ref.go:113", after := #[{ on := 3, ground := Ground.guard }, { on := 7, ground := Ground.gcOnly Departure.lateStores }], guard := some (3, true) }) (v := ?_) rfl (by kernel_rfl) (by kernel_rfl) (by kernel_rfl) (fun _ _ _ h => h) (Or.inl ⟨by rfl, ?_⟩) hHeld ?_
        rotate_left 1
        · intro u hSu
          obtain ⟨p0, p1, p2⟩ := row3 hSu.out.a
          obtain ⟨r0, r1, r2⟩ := row3 hSu.out.b
          go_simp
          first | done | with_reducible rfl
        (try simp only [Act.put, List.setIfInBounds_toArray, List.set_cons_zero, List.set_cons_succ])
        refine wpAnyH_take (i := 5) (oi := { dst := some 54, op := Op.pick (Operand.tmp 52) (Operand.tmp 53) (Operand.const (Value.bool false)), type := 4, pos := "ref.go:113", after := #[{ on := 3, ground := Ground.data }, { on := 4, ground := Ground.data }, { on := 7, ground := Ground.gcOnly Departure.lateStores }], guard := none }) (v := ?_) rfl (by kernel_rfl) (by kernel_rfl) (by kernel_rfl) (fun _ _ _ h => h) (Or.inl ⟨by rfl, ?_⟩) hHeld ?_
        rotate_left 1
        · intro u hSu
          obtain ⟨p0, p1, p2⟩ := row3 hSu.out.a
          obtain ⟨r0, r1, r2⟩ := row3 hSu.out.b
          go_simp
          first | done | with_reducible rfl
        (try simp only [Act.put, List.setIfInBounds_toArray, List.set_cons_zero, List.set_cons_succ])
        refine wpAnyH_ready (rs := [6]) (by kernel_rfl) (by simp) ?_
        refine AllReadyH.cons (o := { dst := none, op := Op.store 73 (Operand.tmp 6) (Operand.tmp 49), type := 0, pos := "ref.go:113", after := #[{ on := 0, ground := Ground.data }, { on := 3, ground := Ground.chain }, { on := 0, ground := Ground.phase }, { on := 1, ground := Ground.textOnly Departure.lateStores }, { on := 2, ground := Ground.textOnly Departure.lateStores }, { on := 3, ground := Ground.textOnly Departure.lateStores }, { on := 4, ground := Ground.textOnly Departure.lateStores }, { on := 5, ground := Ground.textOnly Departure.lateStores }], guard := none }) rfl (fun Kz hK => ?_) AllReadyH.nil
        obtain ⟨y0, y1, y2, hy⟩ := hHeld.out.y
        obtain ⟨e0, e1, e2⟩ := row3 hy
        have f0 := frozen_of_row _ _ 0 _ _ hy
        have f1 := frozen_of_row _ _ 1 _ _ hy
        have f2 := frozen_of_row _ _ 2 _ _ hy
        have HE1 := Lib.hid (hHeld.out.put1 (.int .i64 u.a) (.int .i64 u.b) (.int .i64 u.c))
        go_simp
        generalize hw6 : World.setCell _ _ _ = w9 at *
        clear hw6 e0 e1 e2 f0 f1 f2 hy
        refine hK.out _ _ (Lib.hid HE1.out.1) (fun hH2 => ?_)
        clear hK Kz hHeld
        have hHeld := hH2
        clear hH2
        (try simp only [Act.put, List.setIfInBounds_toArray, List.set_cons_zero, List.set_cons_succ])
        refine wpAnyH_ready (rs := [7]) (by kernel_rfl) (by simp) ?_
        refine AllReadyH.cons (o := { dst := none, op := Op.store 73 (Operand.tmp 7) (Operand.tmp 50), type := 0, pos := "ref.go:113", after := #[{ on := 1, ground := Ground.data }, { on := 6, ground := Ground.chain }, { on := 0, ground := Ground.phase }, { on := 1, ground := Ground.phase }, { on := 2, ground := Ground.textOnly Departure.lateStores }, { on := 3, ground := Ground.textOnly Departure.lateStores }, { on := 4, ground := Ground.textOnly Departure.lateStores }, { on := 5, ground := Ground.textOnly Departure.lateStores }, { on := 6, ground := Ground.phase }], guard := none }) rfl (fun Kz hK => ?_) AllReadyH.nil
        obtain ⟨z0, z1, z2, hz⟩ := hHeld.out.z
        obtain ⟨k0, k1, k2⟩ := row3 hz
        have g0 := frozen_of_row _ _ 0 _ _ hz
        have g1 := frozen_of_row _ _ 1 _ _ hz
        have g2 := frozen_of_row _ _ 2 _ _ hz
        have HE2 := Lib.hid (hHeld.out.put2 (.int .i64 v.a) (.int .i64 v.b) (.int .i64 v.c) HE1.out.2)
        go_simp
        generalize hw7 : World.setCell _ _ _ = w10 at *
        clear hw7 k0 k1 k2 g0 g1 g2 hz
        refine hK.out _ _ (Lib.hid HE2.out.1) (fun hH2 => ?_)
        clear hK Kz hHeld
        have hHeld := hH2
        clear hH2
        (try simp only [Act.put, List.setIfInBounds_toArray, List.set_cons_zero, List.set_cons_succ])
        refine wpAnyH_take (i := 8) (oi := { dst := some 8, op := Op.assign (Operand.tmp 54), type := 4, pos := "ref.go:113", after := #[{ on := 5, ground := Ground.data }, { on := 7, ground := Ground.chain }, { on := 0, ground := Ground.phase }, { on := 1, ground := Ground.phase }, { on := 2, ground := Ground.phase }, { on := 3, ground := Ground.phase }, { on := 4, ground := Ground.phase }, { on := 5, ground := Ground.phase }, { on := 6, ground := Ground.phase }, { on := 7, ground := Ground.phase }], guard := none }) (v := ?_) rfl (by kernel_rfl) (by kernel_rfl) (by kernel_rfl) (fun _ _ _ h => h) (Or.inl ⟨by rfl, ?_⟩) hHeld ?_
        rotate_left 1
        · intro u hSu
          obtain ⟨p0, p1, p2⟩ := row3 hSu.out.a
          obtain ⟨r0, r1, r2⟩ := row3 hSu.out.b
          go_simp
          first | done | with_reducible rfl
        (try simp only [Act.put, List.setIfInBounds_toArray, List.set_cons_zero, List.set_cons_succ])
        refine wpAnyH_done (by kernel_rfl) ?_ _
        have HF2 := HF _ (Lib.hid HE2.out.1.g)
        clear HF HD hHeld HE1
        go_wp2_with fail
        refine bodyPost_ret (res_re2_b rfl _ _ (w.heap.size + 1) (w.heap.size + 2) _ _ _ _ _ _ rfl rfl HE2.out.2.2 HE2.out.2.1) rfl ?_
        exact HF2.out
end Go.Proofs.Ytnpkihioklpnmaa

/- The reference's View: the mathematics. -/
namespace Go.Proofs.Ytnpkihioklpnmaa
open Go.RowKit Bs
/-- Two adverts name each other. -/
def lkAd (A B : Ad) : Bool := (rcA A B.r).isSome && (rcA B A.r).isSome
set_option maxRecDepth 100000 in
theorem fnd_selfV : ∀ {l : List Ad} {k : Int}, ascD k l = true → ∀ A ∈ l, fndA l A.r = some A
  | [], _, _, A, h => by cases h
  | B :: t, k, h, A, hA => by
    rw [ascD, Bool.and_eq_true] at h
    rw [fnd_cons]
    rcases List.mem_cons.1 hA with rfl | hA
    · rw [if_pos rfl]
    · have := (asc_pair t B.r h.2).1 A hA
      rw [if_neg (by omega), fnd_selfV h.2 A hA]
set_option maxRecDepth 100000 in
theorem ascD_mono : ∀ {l : List Ad} {k j : Int}, ascD k l = true → j ≤ k → ascD j l = true
  | [], _, _, _, _ => rfl
  | A :: t, k, j, h, hj => by
    rw [ascD, Bool.and_eq_true] at h
    have := of_decide_eq_true h.1
    rw [ascD, decide_eq_true (by omega), h.2]; rfl
set_option maxRecDepth 100000 in
theorem ascD_flt (f : Ad → Bool) : ∀ {l : List Ad} {k : Int}, ascD k l = true → ascD k (l.filter f) = true
  | [], _, _ => rfl
  | A :: t, k, h => by
    rw [ascD, Bool.and_eq_true] at h
    have h1 := of_decide_eq_true h.1
    rw [List.filter_cons]
    split
    · rw [ascD, h.1, ascD_flt f h.2]; rfl
    · exact ascD_mono (ascD_flt f h.2) (by omega)
set_option maxRecDepth 100000 in
theorem ascD_ext {l m : List Ad} {k : Int} (hl : ascD k l = true) (hm : ascD k m = true) (h : ∀ B, B ∈ l ↔ B ∈ m) : l = m := fnd_ext hl hm (fun r => by
  cases hf : fndA l r with
  | none =>
    cases hg : fndA m r with
    | none => rfl
    | some B =>
      obtain ⟨h1, h2⟩ := fndA_some hg
      have := fnd_selfV hl B ((h B).2 h1)
      rw [h2, hf] at this; cases this
  | some B =>
    obtain ⟨h1, h2⟩ := fndA_some hf
    have := fnd_selfV hm B ((h B).1 h1)
    rw [h2] at this
    exact this.symm)
set_option maxRecDepth 100000 in
theorem asc_lnk {l : List Ad} {A : Ad} {r : Int} : ∀ {M : List T3} {last : Int}, vRe r last M = true → ascD last (M.flatMap (lk1 l A)) = true
  | [], _, _ => rfl
  | x :: t, last, h => by
    rw [vRe, Bool.and_eq_true] at h
    have h1 : last < x.a := by have := h.1; unfold okRe at this; exact (of_decide_eq_true this).1
    have ih := asc_lnk (l := l) (A := A) h.2
    rw [List.flatMap_cons]
    have e : lk1 l A x = [] ∨ ∃ B, lk1 l A x = [B] ∧ B.r = x.a := by
      unfold lk1
      cases hf : fndA l x.a with
      | none => exact .inl rfl
      | some B =>
        simp only
        split
        · exact .inr ⟨B, rfl, (fndA_some hf).2⟩
        · exact .inl rfl
    rcases e with e | ⟨B, e, hB⟩
    · rw [e]
      exact ascD_mono ih (by omega)
    · rw [e]
      show ascD last (B :: t.flatMap (lk1 l A)) = true
      rw [ascD, decide_eq_true (by omega), hB, ih]; rfl
set_option maxRecDepth 100000 in
theorem vAd_re {A : Ad} (h : vAd A = true) : vRe A.r 0 A.L = true := by
  unfold vAd at h
  rw [Bool.and_eq_true, Bool.and_eq_true] at h
  exact h.2.1
set_option maxRecDepth 100000 in
theorem rcA_some {A : Ad} {r : Int} {x : T3} (h : rcA A r = some x) : x ∈ A.L ∧ x.a = r := by
  have h2 : isN r x = true := List.find?_some h
  exact ⟨List.mem_of_find?_eq_some h, of_decide_eq_true h2⟩
set_option maxRecDepth 100000 in
theorem lnk_flt {l : List Ad} (h : OkD l) {A : Ad} (hA : A ∈ l) : lnk l A = l.filter (lkAd A) := by
  refine ascD_ext (k := 0) (asc_lnk (vAd_re (h.v A hA))) (ascD_flt _ h.asc) (fun B => ?_)
  rw [List.mem_filter]
  constructor
  · intro hB
    refine ⟨lnk_mem hB, ?_⟩
    unfold lnk at hB
    obtain ⟨x, hx, hx2⟩ := List.mem_flatMap.1 hB
    unfold lk1 at hx2
    cases hf : fndA l x.a with
    | none => rw [hf] at hx2; cases hx2
    | some C =>
      rw [hf] at hx2
      simp only at hx2
      split at hx2
      · rename_i hs
        rw [List.mem_singleton] at hx2
        subst hx2
        unfold lkAd
        have hr := (fndA_some hf).2
        have : (rcA A B.r).isSome = true := by
          unfold rcA
          rw [List.find?_isSome]
          exact ⟨x, hx, by unfold isN; rw [decide_eq_true hr.symm]⟩
        rw [this, hs]; rfl
      · cases hx2
  · rintro ⟨hB, hk⟩
    unfold lkAd at hk
    rw [Bool.and_eq_true] at hk
    obtain ⟨x, hx⟩ := Option.isSome_iff_exists.1 hk.1
    obtain ⟨h1, h2⟩ := rcA_some hx
    unfold lnk
    refine List.mem_flatMap.2 ⟨x, h1, ?_⟩
    unfold lk1
    rw [h2, fnd_selfV h.asc B hB]
    simp only
    rw [if_pos hk.2]
    exact List.mem_singleton_self _
set_option maxRecDepth 100000 in
theorem lkd_eq {l : List Ad} (h : OkD l) {A B : Ad} (hA : A ∈ l) (hB : B ∈ l) : lkdB l A.r B.r = lkAd A B := by
  unfold lkdB lkAd
  rw [fnd_selfV h.asc A hA, fnd_selfV h.asc B hB]
/-! The routers that are reached, one after the other. -/
set_option maxRecDepth 100000 in
theorem add_pre : ∀ (M : List Ad) (st : List Int × List Ad), ∃ T, (M.foldl addA st).1 = st.1 ++ T
  | [], st => ⟨[], by simp⟩
  | B :: M, st => by
    obtain ⟨T, hT⟩ := add_pre M (addA st B)
    rw [List.foldl_cons, hT]
    unfold addA
    split
    · exact ⟨T, rfl⟩
    · exact ⟨B.r :: T, by simp⟩
set_option maxRecDepth 100000 in
theorem add_drop : ∀ (M : List Ad) (st : List Int × List Ad) (j : Nat), st.2.map (·.r) = st.1.drop j → j ≤ st.1.length → (M.foldl addA st).2.map (·.r) = (M.foldl addA st).1.drop j ∧ j ≤ (M.foldl addA st).1.length
  | [], st, j, h, hj => ⟨h, hj⟩
  | B :: M, st, j, h, hj => by
    rw [List.foldl_cons]
    refine add_drop M (addA st B) j ?_ ?_
    · unfold addA
      split
      · exact h
      · simp only [List.map_append, List.map_cons, List.map_nil, h]
        rw [List.drop_append_of_le_length hj]
    · unfold addA
      split
      · exact hj
      · simp only [List.length_append]; omega
set_option maxRecDepth 100000 in
theorem add_len : ∀ (M : List Ad) (st : List Int × List Ad), (M.foldl addA st).1.length ≤ st.1.length + M.length
  | [], st => Nat.le_refl _
  | B :: M, st => by
    rw [List.foldl_cons, List.length_cons]
    have h := add_len M (addA st B)
    have : (addA st B).1.length ≤ st.1.length + 1 := by
      unfold addA
      split
      · omega
      · simp
    omega
set_option maxRecDepth 100000 in
theorem vAd_len {A : Ad} (h : vAd A = true) : A.L.length ≤ 23 := by
  unfold vAd at h
  rw [Bool.and_eq_true] at h
  have h1 := h.1
  unfold vHd at h1
  exact (of_decide_eq_true h1).2.2
/-- What holds while the routers are looked at: i of S have been looked at, W are to be. -/
structure RI (l : List Ad) (at_ : Int) (S : List Int) (W : List Ad) (i : Nat) : Prop where
  w : W.map (·.r) = S.drop i
  f : ∀ B ∈ W, B ∈ l
  b : bfs l (unv l S + W.length) S W = reS l at_
  i : i ≤ S.length
  n : unv l S + S.length ≤ l.length + 1
set_option maxRecDepth 100000 in
theorem unv_len (l : List Ad) (S : List Int) : unv l S ≤ l.length := List.length_filter_le _ _
set_option maxRecDepth 100000 in
theorem ri_start {l : List Ad} {r : Int} {A : Ad} (h : fndA l r = some A) : RI l r [r] [A] 0 := by
  obtain ⟨h1, h2⟩ := fndA_some h
  refine ⟨by rw [List.drop_zero]; simp [h2], fun B hB => by rw [List.mem_singleton] at hB; subst hB; exact h1, ?_, Nat.zero_le _, by have := unv_len l [r]; simp only [List.length_singleton]; omega⟩
  unfold reS
  rw [h]
  rfl
set_option maxRecDepth 100000 in
theorem RI.fin {l : List Ad} {r : Int} {S : List Int} {W : List Ad} (h : RI l r S W S.length) : S = reS l r := by
  have h1 := h.w
  rw [List.drop_length] at h1
  have h2 : W = [] := List.map_eq_nil_iff.1 h1
  have h3 := h.b
  rw [h2, bfs_nil] at h3
  exact h3
set_option maxRecDepth 100000 in
theorem RI.len {l : List Ad} {r : Int} {S : List Int} {W : List Ad} {i : Nat} (h : RI l r S W i) (hl : l.length ≤ 99) : S.length ≤ 100 := by have := h.n; omega
set_option maxRecDepth 100000 in
/-- The one that is looked at. -/
theorem RI.one {l : List Ad} {r : Int} {S : List Int} {W : List Ad} {i : Nat} (h : RI l r S W i) (hi : i < S.length) : ∃ A W', W = A :: W' ∧ A ∈ l ∧ S[i]? = some A.r ∧ W'.map (·.r) = S.drop (i + 1) := by
  have h1 := h.w
  have hx : S.drop i = S[i] :: S.drop (i + 1) := List.drop_eq_getElem_cons hi
  rw [hx] at h1
  cases W with
  | nil => cases h1
  | cons A W' =>
    rw [List.map_cons, List.cons.injEq] at h1
    exact ⟨A, W', rfl, h.f A List.mem_cons_self, by rw [List.getElem?_eq_getElem hi, h1.1], h1.2⟩
set_option maxRecDepth 100000 in
/-- It has been looked at. -/
theorem RI.step {l : List Ad} (hl : OkD l) {r : Int} {S : List Int} {A : Ad} {W : List Ad} {i : Nat} (h : RI l r S (A :: W) i) (hi : i < S.length) : RI l r ((l.filter (lkAd A)).foldl addA (S, W)).1 ((l.filter (lkAd A)).foldl addA (S, W)).2 (i + 1) := by
  have hA := h.f A List.mem_cons_self
  rw [← lnk_flt hl hA]
  obtain ⟨A', W', e, -, -, hw⟩ := h.one hi
  injection e with e1 e2
  subst e1 e2
  obtain ⟨d1, d2⟩ := add_drop (lnk l A) (S, W) (i + 1) hw hi
  have hk := add_keep hl.pair (lnk l A) (fun B hB => lnk_mem hB) (S, W)
  refine ⟨d1, add_from _ (fun B hB => lnk_mem hB) _ (fun B hB => h.f B (List.mem_cons_of_mem _ hB)), ?_, d2, ?_⟩
  · rw [← bfs_step hl.pair]; exact h.b
  · have l1 := congrArg List.length d1
    have l2 := congrArg List.length hw
    rw [List.length_map, List.length_drop] at l1 l2
    have := h.n
    simp only at hk
    omega
set_option maxRecDepth 100000 in
theorem flt_take {l : List Ad} {A B : Ad} {k : Nat} (h : l[k]? = some B) (st : List Int × List Ad) : ((l.take (k + 1)).filter (lkAd A)).foldl addA st = if lkAd A B = true then addA (((l.take k).filter (lkAd A)).foldl addA st) B else ((l.take k).filter (lkAd A)).foldl addA st := by
  rw [List.take_add_one, h, List.filter_append, List.foldl_append]
  show ([B].filter (lkAd A)).foldl addA _ = _
  rw [List.filter_cons]
  split <;> rfl
/-! The links of one router. -/
set_option maxRecDepth 100000 in
theorem tkd_step {l : List Ad} {k j : Nat} {x : Ad} (h : l[k]? = some x) (hj : j ≤ k) : (l.take (k + 1)).drop j = (l.take k).drop j ++ [x] := by
  have hk := (List.getElem?_eq_some_iff.1 h).1
  rw [List.take_add_one, h, List.drop_append_of_le_length (by rw [List.length_take]; omega)]
  rfl
def vLk (l : List Ad) (A : Ad) (i k : Nat) : List Lk := (((l.take k).drop (i + 1)).filter (lkAd A)).map (btw A)
set_option maxRecDepth 100000 in
theorem vLk_start (l : List Ad) (A : Ad) (i : Nat) : vLk l A i (i + 1) = [] := by
  unfold vLk
  rw [List.drop_of_length_le (by rw [List.length_take]; omega)]
  rfl
set_option maxRecDepth 100000 in
theorem vLk_step {l : List Ad} {A x : Ad} {i k : Nat} (h : l[k]? = some x) (hk : i + 1 ≤ k) : vLk l A i (k + 1) = vLk l A i k ++ (if lkAd A x = true then [btw A x] else []) := by
  unfold vLk
  rw [tkd_step h hk, List.filter_append, List.map_append]
  congr 1
  show ([x].filter (lkAd A)).map (btw A) = _
  rw [List.filter_cons]
  split <;> rfl
set_option maxRecDepth 100000 in
theorem vLk_fin {l : List Ad} (h : OkD l) {A : Ad} {i : Nat} (hA : l[i]? = some A) : vLk l A i l.length = vL1 l A := by
  unfold vLk vL1
  rw [List.take_length, lnk_flt h (List.mem_of_getElem? hA)]
  congr 1
  have hi := (List.getElem?_eq_some_iff.1 hA).1
  have hp := h.pair
  have hlt : ∀ (a c : Nat) (x y : Ad), l[a]? = some x → l[c]? = some y → a < c → x.r < y.r := fun a c x y ha hc hac => by
    obtain ⟨h1, rfl⟩ := List.getElem?_eq_some_iff.1 ha
    obtain ⟨h2, rfl⟩ := List.getElem?_eq_some_iff.1 hc
    exact List.pairwise_iff_getElem.1 hp a c h1 h2 hac
  rw [List.filter_filter]
  conv => rhs; rw [← List.take_append_drop (i + 1) l]
  rw [List.filter_append]
  have e1 : (l.take (i + 1)).filter (fun a => ltA A a && lkAd A a) = [] := by
    rw [List.filter_eq_nil_iff]
    intro B hB
    obtain ⟨j, hj⟩ := List.mem_iff_getElem?.1 hB
    rw [List.getElem?_take] at hj
    split at hj
    · rename_i hj2
      have : ¬ A.r < B.r := by
        rcases Nat.lt_or_ge j i with h3 | h3
        · have := hlt j i B A hj hA h3; omega
        · have : j = i := by omega
          subst this
          rw [hA] at hj
          have := Option.some.inj hj
          rw [this]; omega
      unfold ltA
      rw [decide_eq_false this]
      simp
    · cases hj
  rw [e1, List.nil_append]
  refine List.filter_congr (fun B hB => ?_)
  obtain ⟨j, hj⟩ := List.mem_iff_getElem?.1 hB
  rw [List.getElem?_drop] at hj
  have := hlt i (i + 1 + j) A B hA hj (by omega)
  unfold ltA
  rw [decide_eq_true this]
  rfl
set_option maxRecDepth 100000 in
theorem view_none {l : List Ad} {r : Int} (h : fndA l r = none) : viewV l r = ([], []) := by
  have hS : reS l r = [] := by unfold reS; rw [h]
  have hF : l.filter (inV []) = [] := by
    rw [List.filter_eq_nil_iff]
    intro A _
    unfold inV inS
    simp
  have hR : vwR l [] = [] := by unfold vwR; rw [hF]; rfl
  have hL : vwL l [] = [] := by unfold vwL; rw [hF]; rfl
  unfold viewV
  split
  · rw [hS, hR, hL]
    split <;> rfl
  · rfl
end Go.Proofs.Ytnpkihioklpnmaa

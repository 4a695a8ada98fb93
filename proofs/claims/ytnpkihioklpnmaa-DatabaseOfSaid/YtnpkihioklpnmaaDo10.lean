/- Parts of the proof, packed: DbFnd, DbFin, DbSam, AdSq, AdRSm, AdRVa, DbRef, DbRf, DbPtM, DbRLn, DbStM, DbVrM, ToCpy. -/
import Derived.Test.YtnpkihioklpnmaaDo9
import Derived.Test.YtnpkihioklpnmaaDo7
import Derived.Test.YtnpkihioklpnmaaDo6
import Derived.Deep.CutBlock
import Derived.Laws.StructEq
import Derived.BigQuiet
import Derived.Test.YtnpkihioklpnmaaDo5
import Derived.ArgAppend
import Derived.Laws.IdiomCopy
import Derived.Laws.BitsLemmas
import Derived.Deep.AppendLies
/- database: copied, Find. -/
namespace Go.Proofs.Ytnpkihioklpnmaa
open Go.RowKit Bs
set_option maxRecDepth 100000 in
theorem own_nl {w : World} {base size n m c : Nat} {e : TypeId} {p : Option Addr} {xs : List Value} (h : w.ownsRow base e size (.slice p m c) n xs) : p = none → c = 0 := by
  rintro rfl
  rcases h.2 with ⟨e1, _⟩ | ⟨g', cap', cur, hv, _⟩
  · injection e1
  · cases hv
/-- While an advert is copied: its box, the result's. -/
structure CP (W : World) (A : Ad) (v1 v2 : Value) (wr : World) : Prop where
  ab : wr.heap[W.heap.size]? = some (.cells #[.int .i64 A.r, .int .i64 A.q, .bool A.cp, v1, v2] 38 (0, 0))
  rb : wr.heap[W.heap.size + 1]? = some (.cells #[.int .i64 0, .int .i64 0, .bool false, .slice none 0 0, .slice none 0 0] 38 (0, 0))
  ok : AdOk wr (· < W.heap.size) A
  gr : W.grownBy wr none
section
variable {W w w1 : World} {A : Ad} {v1 v2 v : Value}
set_option maxRecDepth 100000 in
theorem CP.keep (h : CP W A v1 v2 w) (g : w.grownBy w1 none) : CP W A v1 v2 w1 := ⟨kept_row h.ab g (by simp), kept_row h.rb g (by simp), h.ok.keep g, grown_trans h.gr g⟩
set_option maxRecDepth 100000 in
theorem CP.set3 (h : CP W A v1 v2 w) (v : Value) : CP W A v v2 (w.setCell ⟨W.heap.size, 3, none⟩ v) := by
  have g := grown_setCell w ⟨W.heap.size, 3, none⟩ v
  refine ⟨?_, kept_row h.rb g (fun e => by have : W.heap.size + 1 = W.heap.size := Option.some.inj e; omega), h.ok.grown g (fun b hb e => by have : b = W.heap.size := Option.some.inj e; omega), grown_new h.gr g (Nat.le_refl _)⟩
  have h1 := heap_setCell_same w W.heap.size 3 _ _ v h.ab
  rw [h1]; rfl
set_option maxRecDepth 100000 in
theorem CP.set4 (h : CP W A v1 v2 w) (v : Value) : CP W A v1 v (w.setCell ⟨W.heap.size, 4, none⟩ v) := by
  have g := grown_setCell w ⟨W.heap.size, 4, none⟩ v
  refine ⟨?_, kept_row h.rb g (fun e => by have : W.heap.size + 1 = W.heap.size := Option.some.inj e; omega), h.ok.grown g (fun b hb e => by have : b = W.heap.size := Option.some.inj e; omega), grown_new h.gr g (Nat.le_refl _)⟩
  have h1 := heap_setCell_same w W.heap.size 4 _ _ v h.ab
  rw [h1]; rfl
end
set_option maxRecDepth 100000 in
theorem cp_start {w : World} {A : Ad} {q : Nat → Prop} (hA : AdOk w q A) : CP w A (.slice A.pL A.L.length A.cL) (.slice A.pC A.C.length A.cC) ((w.alloc (.cells #[.int .i64 A.r, .int .i64 A.q, .bool A.cp, .slice A.pL A.L.length A.cL, .slice A.pC A.C.length A.cC] 38)).alloc (.cells #[.int .i64 0, .int .i64 0, .bool false, .slice none 0 0, .slice none 0 0] 38)) ∧ w.heap.size + 2 ≤ ((w.alloc (.cells #[.int .i64 A.r, .int .i64 A.q, .bool A.cp, .slice A.pL A.L.length A.cL, .slice A.pC A.C.length A.cC] 38)).alloc (.cells #[.int .i64 0, .int .i64 0, .bool false, .slice none 0 0, .slice none 0 0] 38)).heap.size := by
  obtain ⟨k1, k2, k3, k4⟩ := two_boxes w #[.int .i64 A.r, .int .i64 A.q, .bool A.cp, .slice A.pL A.L.length A.cL, .slice A.pC A.C.length A.cC] #[.int .i64 0, .int .i64 0, .bool false, .slice none 0 0, .slice none 0 0] 38 38
  exact ⟨⟨k1, k2, hA.old.keep k3, k3⟩, Nat.le_of_eq k4.symm⟩
/-- A copy: the same fields, lists elsewhere. -/
def CpPost (A : Ad) (w : World) (e : Ending) (w' : World) : Prop :=
  ∃ pL cL pC cC, e = .returned (.agg #[.int .i64 A.r, .int .i64 A.q, .bool A.cp, .slice pL A.L.length cL, .slice pC A.C.length cC]) ∧ AdOk w' (w.heap.size ≤ ·) ⟨A.r, A.q, A.cp, A.L, A.C, pL, cL, pC, cC⟩ ∧ AdNl ⟨A.r, A.q, A.cp, A.L, A.C, pL, cL, pC, cC⟩ ∧ w.grownBy w' none
set_option maxRecDepth 100000 in
set_option maxHeartbeats 3200000 in
theorem dcopied_any (A : Ad) (q : Nat → Prop) (w : World) (hA : AdOk w q A) (hn : AdNl A) (hm : A.L.length ≤ 1000 ∧ A.C.length ≤ 1000) :
    Calls Try.prog 54 #[.agg #[.int .i64 A.r, .int .i64 A.q, .bool A.cp, .slice A.pL A.L.length A.cL, .slice A.pC A.C.length A.cC]] w fun e w' => CpPost A w e w' := by
  have H0 := Lib.hid (cp_start hA).1
  have HS := Lib.hid (cp_start hA).2
  clear hA
  go_enter Try.func54, Try.ntmps54
  go_upto_region 1 with fail
  generalize (w.alloc _).alloc _ = wa at *
  obtain ⟨c0, c1, c2, c3, c4⟩ := row5 H0.out.ab
  go_wp2_with fail
  refine (dclR_any A.L A.pL A.cL _ wa H0.out.ok.l hn.1 H0.out.ok.hl hm.1).mono ?_
  rintro e w1 ⟨v, rfl, hown, hg⟩
  obtain ⟨pL, cL, rfl, n1, m1⟩ := own_shape hown
  have H1 := Lib.hid (H0.out.keep hg)
  have HL : Hid (RdF w1 (w.heap.size + 2 ≤ ·) (.slice pL A.L.length cL) A.L.length (A.L.flatMap t3C) ∧ (A.L.length ≤ cL ∧ cL ≤ 9223372036854775807) ∧ (pL = none → cL = 0)) := Lib.hid ⟨(rdf_of_own hown).mono (fun b hb => Nat.le_trans HS.out hb), ⟨n1, m1⟩, own_nl hown⟩
  clear hown hg n1 m1 H0 HS c0 c1 c2 c3 c4
  obtain ⟨c0, c1, c2, c3, c4⟩ := row5 H1.out.ab
  have f3 := frozen_of_row _ _ 3 _ _ H1.out.ab
  have H2 := Lib.hid (H1.out.set3 (.slice pL A.L.length cL))
  have HL2 := Lib.hid (HL.out.1.grown (grown_setCell w1 ⟨w.heap.size, 3, none⟩ (.slice pL A.L.length cL)) (fun b hb e => by have : b = w.heap.size := Option.some.inj e; omega))
  go_upto_region 2 with fail
  clear c0 c1 c2 c3 c4 f3 H1
  generalize w1.setCell _ _ = w2 at *
  obtain ⟨c0, c1, c2, c3, c4⟩ := row5 H2.out.ab
  go_wp2_with fail
  refine (dclC_any A.C A.pC A.cC _ w2 H2.out.ok.c hn.2 H2.out.ok.hc hm.2).mono ?_
  rintro e w3 ⟨v, rfl, hown, hg⟩
  obtain ⟨pC, cC, rfl, n1, m1⟩ := own_shape hown
  have hsz : w.heap.size + 2 ≤ w2.heap.size := World.lt_of_row' H2.out.rb
  have H3 := Lib.hid (H2.out.keep hg)
  have HL3 := Lib.hid (HL2.out.grown hg (fun _ _ => by simp))
  have HC : Hid (RdF w3 (w.heap.size + 2 ≤ ·) (.slice pC A.C.length cC) A.C.length (A.C.flatMap t3C) ∧ (A.C.length ≤ cC ∧ cC ≤ 9223372036854775807) ∧ (pC = none → cC = 0)) := Lib.hid ⟨(rdf_of_own hown).mono (fun b hb => Nat.le_trans hsz hb), ⟨n1, m1⟩, own_nl hown⟩
  clear hown hg n1 m1 hsz H2 HL2 c0 c1 c2 c3 c4
  obtain ⟨c0, c1, c2, c3, c4⟩ := row5 H3.out.ab
  have f4 := frozen_of_row _ _ 4 _ _ H3.out.ab
  have H4 := Lib.hid (H3.out.set4 (.slice pC A.C.length cC))
  have gs := grown_setCell w3 ⟨w.heap.size, 4, none⟩ (.slice pC A.C.length cC)
  have HO : Hid (RdF (w3.setCell ⟨w.heap.size, 4, none⟩ (.slice pC A.C.length cC)) (w.heap.size + 2 ≤ ·) (.slice pL A.L.length cL) A.L.length (A.L.flatMap t3C) ∧ RdF (w3.setCell ⟨w.heap.size, 4, none⟩ (.slice pC A.C.length cC)) (w.heap.size + 2 ≤ ·) (.slice pC A.C.length cC) A.C.length (A.C.flatMap t3C)) := Lib.hid ⟨HL3.out.grown gs (fun b hb e => by have : b = w.heap.size := Option.some.inj e; omega), HC.out.1.grown gs (fun b hb e => by have : b = w.heap.size := Option.some.inj e; omega)⟩
  clear gs
  go_upto_region 3 with fail
  clear c0 c1 c2 c3 c4 f4 H3
  generalize w3.setCell _ _ = w4 at *
  obtain ⟨c0, c1, c2, c3, c4⟩ := row5 H4.out.ab
  obtain ⟨z0, z1, z2, z3, z4⟩ := row5 H4.out.rb
  have f0 := frozen_of_row _ _ 0 _ _ H4.out.rb
  have f1 := frozen_of_row _ _ 1 _ _ H4.out.rb
  have f2 := frozen_of_row _ _ 2 _ _ H4.out.rb
  have f3 := frozen_of_row _ _ 3 _ _ H4.out.rb
  have f4 := frozen_of_row _ _ 4 _ _ H4.out.rb
  obtain ⟨t1, t2⟩ := store5 (.int .i64 A.r) (.int .i64 A.q) (.bool A.cp) (.slice pL A.L.length cL) (.slice pC A.C.length cC) H4.out.rb
  have hq : ∀ b, w.heap.size + 2 ≤ b → some b ≠ some (w.heap.size + 1) := fun b hb e => by have := Option.some.inj e; omega
  have HT := Lib.hid (And.intro t1 (And.intro (grown_new H4.out.gr t2 (by omega)) (And.intro (HO.out.1.grown t2 hq) (HO.out.2.grown t2 hq))))
  clear t1 t2 H4 HO hq
  go_wp2_with fail
  refine bodyPost_ret (res_adv rfl _ _ (w.heap.size + 1) _ _ _ _ _ rfl HT.out.1) rfl ?_
  exact ⟨pL, cL, pC, cC, rfl, ⟨HT.out.2.2.1.mono (fun b hb => by omega), HT.out.2.2.2.mono (fun b hb => by omega), HL.out.2.1, HC.out.2.1⟩, ⟨HL.out.2.2, HC.out.2.2⟩, HT.out.2.1⟩
end Go.Proofs.Ytnpkihioklpnmaa

/- database: Find. -/
namespace Go.Proofs.Ytnpkihioklpnmaa
open Go.RowKit Bs
set_option maxRecDepth 100000 in
theorem rdf_and {w : World} {q : Nat → Prop} {v : Value} {n : Nat} {xs : List Value} (h : RdF w q v n xs) : RdF w (fun b => q b ∧ b < w.heap.size) v n xs := by
  obtain ⟨p, c, hv, hc⟩ := h
  refine ⟨p, c, hv, fun hne => ?_⟩
  obtain ⟨b, off, hp, hb, hx⟩ := hc hne
  obtain ⟨x, hx0⟩ : ∃ x, xs[0]? = some x := by
    cases xs with
    | nil => exact absurd rfl hne
    | cons a t => exact ⟨a, rfl⟩
  exact ⟨b, off, hp, ⟨hb, World.block_lt_of_cell? w ⟨b, off + 0, none⟩ (hx 0 x hx0)⟩, hx⟩
set_option maxRecDepth 100000 in
theorem AdOk.and {w : World} {q : Nat → Prop} {A : Ad} (h : AdOk w q A) : AdOk w (fun b => q b ∧ b < w.heap.size) A := ⟨rdf_and h.l, rdf_and h.c, h.hl, h.hc⟩
end Go.Proofs.Ytnpkihioklpnmaa

/- database: Same (slices.EqualFunc of adverts). -/
namespace Go.Proofs.Ytnpkihioklpnmaa
open Go.RowKit Bs
end Go.Proofs.Ytnpkihioklpnmaa

/- Two links compared, two claims compared. -/
namespace Go.Proofs.Ytnpkihioklpnmaa
open Go.RowKit Bs
end Go.Proofs.Ytnpkihioklpnmaa

/- The reference's Same. -/
namespace Go.Proofs.Ytnpkihioklpnmaa
open Go.RowKit Bs
end Go.Proofs.Ytnpkihioklpnmaa

/- The reference: when the claims of an advert are valid, and when an advert is. -/
namespace Go.Proofs.Ytnpkihioklpnmaa
open Go.RowKit Bs
set_option maxRecDepth 100000 in
theorem rin_any (n lo hi : Int) (w : World) :
    Calls Try.prog 82 #[.int .i64 n, .int .i64 lo, .int .i64 hi] w fun e w' => e = .returned (.bool (decide (lo ≤ n ∧ n ≤ hi))) ∧ w = w' := by
  by_cases h1 : lo ≤ n
  · by_cases h2 : n ≤ hi
    · rw [decide_eq_true (show lo ≤ n ∧ n ≤ hi from ⟨h1, h2⟩)]
      go_enter Try.func82, Try.ntmps82
      go_wp2_with fail
      go_ret
      exact ⟨rfl, rfl⟩
    · rw [decide_eq_false (show ¬ (lo ≤ n ∧ n ≤ hi) from fun h => h2 h.2)]
      go_enter Try.func82, Try.ntmps82
      go_wp2_with fail
      go_ret
      exact ⟨rfl, rfl⟩
  · rw [decide_eq_false (show ¬ (lo ≤ n ∧ n ≤ hi) from fun h => h1 h.1)]
    go_enter Try.func82, Try.ntmps82
    go_wp2_with fail
    go_ret
    exact ⟨rfl, rfl⟩
set_option maxRecDepth 100000 in
theorem rin_lit (n lo hi : Int) (b : Bool) (h : decide (lo ≤ n ∧ n ≤ hi) = b) (w : World) :
    Calls Try.prog 82 #[.int .i64 n, .int .i64 lo, .int .i64 hi] w fun e w' => e = .returned (.bool b) ∧ w = w' := by
  rw [← h]; exact rin_any n lo hi w
set_option maxRecDepth 100000 in
theorem vlr_lit (n : Int) (b : Bool) (h : vl n = b) (w : World) :
    Calls Try.prog 110 #[.int .i64 n] w fun e w' => e = .returned (.bool b) ∧ w = w' := by
  rw [← h]; exact vlr_any n w
set_option maxRecDepth 100000 in
set_option maxHeartbeats 6400000 in
theorem rvc_any (L : List T3) (p : Option Addr) (c : Nat) (q : Nat → Prop) (w : World) (hR : Rd3 w q (.slice p L.length c) L) (hm : L.length ≤ 9223372036854775807) :
    Calls Try.prog 83 #[.slice p L.length c] w fun e w' => e = .returned (.bool (vClaims L)) ∧ w.grownBy w' none := by
  have HR := Lib.hid hR
  clear hR
  by_cases h8 : 8 < L.length
  · have hX : vClaims L = false := by unfold vClaims; rw [decide_eq_false (by omega)]; rfl
    rw [hX]
    clear hX
    go_enter Try.func83, Try.ntmps83
    go_wp2_with fail
    go_ret
    exact ⟨rfl, grown_refl _ _⟩
  · obtain ⟨X, hX⟩ : ∃ X, vClaims L = X := ⟨_, rfl⟩
    rw [hX]
    have I0 : Hid (vCm (lastA (-1) L 0) (L.drop 0) = X ∧ -1 ≤ lastA (-1) L 0) := Lib.hid (by
      rw [lastA_zero]
      refine ⟨?_, by omega⟩
      unfold vClaims at hX
      rw [decide_eq_true (by omega)] at hX
      exact hX)
    have G0 : Hid (w.grownBy w none) := Lib.hid (grown_refl _ _)
    clear hX
    go_enter Try.func83, Try.ntmps83
    go_wp2_with fail
    go_loopw [3] (fun a wr => ∃ k : Nat, k ≤ L.length ∧ a = .int .i64 (k : Int) ∧ Hid (vCm (lastA (-1) L k) (L.drop k) = X ∧ -1 ≤ lastA (-1) L k) ∧ Hid (w.grownBy wr none)) (fun a _ => L.length - (RowKit.intOf a).toNat)
    case atStart => exact ⟨0, Nat.zero_le _, rfl, I0, G0⟩
    case round =>
      obtain ⟨k, hk, rfl, HI, HG⟩ := hrel
      clear I0 G0
      by_cases hlt : k < L.length
      · have hlti : (k : Int) < (L.length : Int) := by omega
        obtain ⟨-, b, off, rfl, -, -⟩ := rd3_cells HR.out (by omega)
        obtain ⟨x, hx⟩ : ∃ x, L[k]? = some x := ⟨_, List.getElem?_eq_getElem hlt⟩
        have HXX := Lib.hid hx
        have HS := Lib.hid (HI.out.1.symm.trans (vCm_step (d := -1) hx))
        have HLA := Lib.hid (lastA_succ (d := -1) hx)
        have hlo := HI.out.2
        obtain ⟨t, ht⟩ : ∃ t, lastA (-1) L k = t := ⟨_, rfl⟩
        rw [ht] at HS hlo
        have HTT := Lib.hid ht
        obtain ⟨v1, hv1⟩ : ∃ v1, decide ((0 : Int) ≤ x.a ∧ x.a ≤ 7) = v1 := ⟨_, rfl⟩
        obtain ⟨v2, hv2⟩ : ∃ v2, decide ((1 : Int) ≤ x.b ∧ x.b ≤ 256) = v2 := ⟨_, rfl⟩
        obtain ⟨v3, hv3⟩ : ∃ v3, decide (x.c = 8 ∨ x.c = 16 ∨ x.c = 32 ∨ x.c = 64) = v3 := ⟨_, rfl⟩
        have HV1 := Lib.hid hv1
        have HV2 := Lib.hid hv2
        have HV3 : Hid (vl x.c = v3) := Lib.hid (by rw [← hv3]; exact vl_dec x.c)
        have HO : Hid (okCm t x = (v1 && (v2 && (v3 && decide (t < x.a))))) := Lib.hid (by
          rw [← hv1, ← hv2, ← hv3, ← Bool.decide_and, ← Bool.decide_and, ← Bool.decide_and]
          unfold okCm
          exact decide_eq_decide.2 ⟨fun h => ⟨⟨by omega, h.2.1⟩, h.2.2.1, h.2.2.2, h.1⟩, fun h => ⟨h.2.2.2, h.1.2, h.2.1, h.2.2.1⟩⟩)
        clear hx ht hv1 hv2 hv3 HI
        obtain ⟨a0, a1, a2⟩ := rd3_at (HR.out.keep HG.out) HXX.out
        cases v1 with
        | false =>
          have hX : X = false := by rw [HS.out, HO.out]; rfl
          subst hX
          go_wp2_with fail
          go_big_quiet ((first | (go_at_call 82; first | with_reducible exact qt1 (rin_lit x.a 0 7 _ HV1.out _) | with_reducible exact qt1 (rin_lit x.b 1 256 _ HV2.out _)) | (go_at_call 110; first | with_reducible exact qt1 (vlr_lit x.c _ HV3.out _))))
          go_wp2_with fail
          go_ret
          exact ⟨rfl, grown_trans HG.out (grown_drewN _ _ _)⟩
        | true =>
        cases v2 with
        | false =>
          have hX : X = false := by rw [HS.out, HO.out]; rfl
          subst hX
          go_wp2_with fail
          go_big_quiet ((first | (go_at_call 82; first | with_reducible exact qt1 (rin_lit x.a 0 7 _ HV1.out _) | with_reducible exact qt1 (rin_lit x.b 1 256 _ HV2.out _)) | (go_at_call 110; first | with_reducible exact qt1 (vlr_lit x.c _ HV3.out _))))
          go_wp2_with fail
          go_ret
          exact ⟨rfl, grown_trans HG.out (grown_drewN _ _ _)⟩
        | true =>
        cases v3 with
        | false =>
          have hX : X = false := by rw [HS.out, HO.out]; rfl
          subst hX
          go_wp2_with fail
          go_big_quiet ((first | (go_at_call 82; first | with_reducible exact qt1 (rin_lit x.a 0 7 _ HV1.out _) | with_reducible exact qt1 (rin_lit x.b 1 256 _ HV2.out _)) | (go_at_call 110; first | with_reducible exact qt1 (vlr_lit x.c _ HV3.out _))))
          go_wp2_with fail
          go_ret
          exact ⟨rfl, grown_trans HG.out (grown_drewN _ _ _)⟩
        | true =>
        have hxa : 0 ≤ x.a ∧ x.a ≤ 7 := of_decide_eq_true HV1.out
        by_cases hk0 : k = 0
        · have ht0 : t = -1 := by rw [← HTT.out, hk0, lastA_zero]
          have hta : t < x.a := by omega
          have hkb : decide (0 < k) = false := decide_eq_false (by omega)
          clear hk0
          have HN : Hid (vCm (lastA (-1) L (k + 1)) (L.drop (k + 1)) = X ∧ -1 ≤ lastA (-1) L (k + 1)) := Lib.hid ⟨by rw [HS.out, HO.out, decide_eq_true hta]; rfl, by rw [HLA.out]; omega⟩
          go_wp2_with fail
          go_big_quiet ((first | (go_at_call 82; first | with_reducible exact qt1 (rin_lit x.a 0 7 _ HV1.out _) | with_reducible exact qt1 (rin_lit x.b 1 256 _ HV2.out _)) | (go_at_call 110; first | with_reducible exact qt1 (vlr_lit x.c _ HV3.out _))))
          go_wp2_with fail
          exact ⟨⟨k + 1, by omega, congrArg _ (by omega), HN, Lib.hid (grown_trans HG.out (grown_drewN _ _ _))⟩, by simp only [RowKit.intOf]; omega⟩
        · obtain ⟨j, rfl⟩ : ∃ j, k = j + 1 := ⟨k - 1, by omega⟩
          obtain ⟨y, hy⟩ : ∃ y, L[j]? = some y := ⟨_, List.getElem?_eq_getElem (by omega)⟩
          have hty : t = y.a := by rw [← HTT.out, lastA_succ hy]
          obtain ⟨z0, z1, z2⟩ := rd3_at (HR.out.keep HG.out) hy
          have hjp : (0 : Int) < ((j + 1 : Nat) : Int) := by omega
          have hjl : (j : Int) < (L.length : Int) := by omega
          have hj2 : ((j + 1 : Nat) : Int) - 1 = (j : Int) := by omega
          clear hy
          by_cases hta : t < x.a
          · have hc1 : ¬ x.a ≤ y.a := by omega
            have hc2 : decide (x.a ≤ y.a) = false := decide_eq_false hc1
            have HN : Hid (vCm (lastA (-1) L (j + 1 + 1)) (L.drop (j + 1 + 1)) = X ∧ -1 ≤ lastA (-1) L (j + 1 + 1)) := Lib.hid ⟨by rw [HS.out, HO.out, decide_eq_true hta]; rfl, by rw [HLA.out]; omega⟩
            go_wp2_with fail
            go_big_quiet ((first | (go_at_call 82; first | with_reducible exact qt1 (rin_lit x.a 0 7 _ HV1.out _) | with_reducible exact qt1 (rin_lit x.b 1 256 _ HV2.out _)) | (go_at_call 110; first | with_reducible exact qt1 (vlr_lit x.c _ HV3.out _))))
            go_wp2_with fail
            exact ⟨⟨j + 1 + 1, by omega, congrArg _ (by omega), HN, Lib.hid (grown_trans HG.out (grown_drewN _ _ _))⟩, by simp only [RowKit.intOf]; omega⟩
          · have hc1 : x.a ≤ y.a := by omega
            have hc2 : decide (x.a ≤ y.a) = true := decide_eq_true hc1
            have hX : X = false := by rw [HS.out, HO.out, decide_eq_false hta]; rfl
            subst hX
            go_wp2_with fail
            go_big_quiet ((first | (go_at_call 82; first | with_reducible exact qt1 (rin_lit x.a 0 7 _ HV1.out _) | with_reducible exact qt1 (rin_lit x.b 1 256 _ HV2.out _)) | (go_at_call 110; first | with_reducible exact qt1 (vlr_lit x.c _ HV3.out _))))
            go_wp2_with fail
            go_ret
            exact ⟨rfl, grown_trans HG.out (grown_drewN _ _ _)⟩
      · obtain rfl : k = L.length := by omega
        obtain rfl : X = true := by rw [← HI.out.1]; exact vCm_end
        go_wp2_with fail
        go_ret
        exact ⟨rfl, HG.out⟩
set_option maxRecDepth 100000 in
set_option maxHeartbeats 6400000 in
theorem rvalidA_any (A : Ad) (q : Nat → Prop) (w : World) (hA : AdOk w q A) :
    Calls Try.prog 51 #[A.val] w fun e w' => e = .returned (.bool (vAd A)) ∧ w.grownBy w' none := by
  have hm1 := Nat.le_trans hA.hl.1 hA.hl.2
  have hm2 := Nat.le_trans hA.hc.1 hA.hc.2
  obtain ⟨X, hX⟩ : ∃ X, vAd A = X := ⟨_, rfl⟩
  rw [hX]
  obtain ⟨r, q2, cp, L, C, pL, cL, pC, cC⟩ := A
  have hb := heap_alloc_new w (.cells #[.int .i64 r, .int .i64 q2, .bool cp, .slice pL L.length cL, .slice pC C.length cC] 38)
  have hg := World.grownBy_alloc w (.cells #[.int .i64 r, .int .i64 q2, .bool cp, .slice pL L.length cL, .slice pC C.length cC] 38) none
  have HL : Hid (Rd3 _ q (.slice pL L.length cL) L) := Lib.hid (hA.l.keep hg)
  have HC : Hid (Rd3 _ q (.slice pC C.length cC) C) := Lib.hid (hA.c.keep hg)
  have HB := Lib.hid (And.intro hb hg)
  simp only at hm1 hm2
  obtain ⟨v1, hv1⟩ : ∃ v1, decide ((1 : Int) ≤ r ∧ r ≤ 99) = v1 := ⟨_, rfl⟩
  obtain ⟨v2, hv2⟩ : ∃ v2, decide ((1 : Int) ≤ q2 ∧ q2 ≤ 1000000) = v2 := ⟨_, rfl⟩
  have HV1 := Lib.hid hv1
  have HV2 := Lib.hid hv2
  have HX : Hid (X = (v1 && (v2 && (decide (L.length ≤ 23) && (vRe r 0 L && vClaims C))))) := Lib.hid (by
    rw [← hX, ← hv1, ← hv2]
    unfold vAd vHd
    simp only [Bool.decide_and, Bool.and_assoc])
  clear hX hb hg hA hv1 hv2
  unfold Ad.val
  go_enter Try.func51, Try.ntmps51
  go_upto_region 1 with fail
  generalize w.alloc _ = wa at *
  obtain ⟨c0, c1, c2, c3, c4⟩ := row5 HB.out.1
  go_wp2_with fail
  refine (rin_lit r 1 99 _ HV1.out _).mono ?_
  rintro e w' ⟨rfl, rfl⟩
  cases v1 with
  | false =>
    obtain rfl : X = false := by rw [HX.out]; rfl
    go_wp2_with fail
    go_ret
    exact ⟨rfl, HB.out.2⟩
  | true =>
  go_wp2_with fail
  refine (rin_lit q2 1 1000000 _ HV2.out _).mono ?_
  rintro e w' ⟨rfl, rfl⟩
  cases v2 with
  | false =>
    obtain rfl : X = false := by rw [HX.out]; rfl
    go_wp2_with fail
    go_ret
    exact ⟨rfl, HB.out.2⟩
  | true =>
  by_cases h23 : 23 < L.length
  · obtain rfl : X = false := by rw [HX.out, decide_eq_false (show ¬ L.length ≤ 23 by omega)]; rfl
    go_wp2_with fail
    go_ret
    exact ⟨rfl, HB.out.2⟩
  obtain ⟨Y, hY⟩ : ∃ Y, vRe r 0 L = Y := ⟨_, rfl⟩
  have HXY : Hid (X = (Y && vClaims C)) := Lib.hid (by rw [HX.out, hY, decide_eq_true (show L.length ≤ 23 by omega)]; rfl)
  have I0 : Hid (vRe r (lastA 0 L 0) (L.drop 0) = Y ∧ 0 ≤ lastA 0 L 0) := Lib.hid (by rw [lastA_zero]; exact ⟨hY, by omega⟩)
  have G0 : Hid (wa.grownBy wa none) := Lib.hid (grown_refl _ _)
  clear hY HX
  go_wp2_with fail
  go_loopw [3] (fun a wr => ∃ k : Nat, k ≤ L.length ∧ a = .int .i64 (k : Int) ∧ Hid (vRe r (lastA 0 L k) (L.drop k) = Y ∧ 0 ≤ lastA 0 L k) ∧ Hid (wa.grownBy wr none)) (fun a _ => L.length - (RowKit.intOf a).toNat)
  case atStart => exact ⟨0, Nat.zero_le _, rfl, I0, G0⟩
  case round =>
    obtain ⟨k, hk, rfl, HI, HG⟩ := hrel
    clear I0 G0 c0 c1 c2 c3 c4
    obtain ⟨c0, c1, c2, c3, c4⟩ := row5 (kept_row HB.out.1 HG.out (by simp))
    by_cases hlt : k < L.length
    · have hlti : (k : Int) < (L.length : Int) := by omega
      obtain ⟨-, b, off, rfl, -, -⟩ := rd3_cells HL.out (by omega)
      obtain ⟨x, hx⟩ : ∃ x, L[k]? = some x := ⟨_, List.getElem?_eq_getElem hlt⟩
      obtain ⟨a0, a1, a2⟩ := rd3_at (HL.out.keep HG.out) hx
      have HS := Lib.hid (HI.out.1.symm.trans (vRe_step (r := r) (d := 0) hx))
      have HLA := Lib.hid (lastA_succ (d := 0) hx)
      have hlo := HI.out.2
      obtain ⟨t, ht⟩ : ∃ t, lastA 0 L k = t := ⟨_, rfl⟩
      rw [ht] at HS hlo
      have HTT := Lib.hid ht
      obtain ⟨v1, hv1⟩ : ∃ v1, decide ((1 : Int) ≤ x.a ∧ x.a ≤ 99) = v1 := ⟨_, rfl⟩
      obtain ⟨v2, hv2⟩ : ∃ v2, decide (x.a = r) = v2 := ⟨_, rfl⟩
      obtain ⟨v3, hv3⟩ : ∃ v3, decide ((1 : Int) ≤ x.b ∧ x.b ≤ 1000) = v3 := ⟨_, rfl⟩
      obtain ⟨v4, hv4⟩ : ∃ v4, decide ((0 : Int) ≤ x.c ∧ x.c ≤ 1000) = v4 := ⟨_, rfl⟩
      have HV1 := Lib.hid hv1
      have HV3 := Lib.hid hv3
      have HV4 := Lib.hid hv4
      have HO : Hid (okRe r t x = (v1 && (!v2 && (v3 && (v4 && decide (t < x.a)))))) := Lib.hid (by
        rw [← hv1, ← hv2, ← hv3, ← hv4]
        unfold okRe
        rw [Bool.eq_iff_iff]
        simp only [Bool.and_eq_true, Bool.not_eq_true', decide_eq_true_eq, decide_eq_false_iff_not]
        exact ⟨fun h => ⟨⟨by omega, h.2.1⟩, h.2.2.1, h.2.2.2.1, h.2.2.2.2, h.1⟩, fun h => ⟨h.2.2.2.2, h.1.2, h.2.1, h.2.2.1, h.2.2.2.1⟩⟩)
      have HEQ : Hid ((x.a == r) = v2 ∧ (x.a != r) = !v2) := Lib.hid (by rw [← hv2]; exact ⟨rfl, rfl⟩)
      have HBX := Lib.hid (heap_alloc_new wr (.cells #[.int .i64 x.a, .int .i64 x.b, .int .i64 x.c] 73))
      have HGA := Lib.hid (World.grownBy_alloc wr (.cells #[.int .i64 x.a, .int .i64 x.b, .int .i64 x.c] 73) none)
      have HXX := Lib.hid hx
      clear hx ht hv1 hv2 hv3 hv4 HI
      go_upto_region 7 with fail
      clear a0 a1 a2 c0 c1 c2 c3 c4
      generalize wr.alloc _ = w3 at *
      have HG3 := Lib.hid (grown_trans HG.out HGA.out)
      obtain ⟨c0, c1, c2, c3, c4⟩ := row5 (kept_row HB.out.1 HG3.out (by simp))
      obtain ⟨d0, d1, d2⟩ := row3 HBX.out
      clear HG HGA
      cases v1 with
      | false =>
        obtain rfl : X = false := by rw [HXY.out, HS.out, HO.out]; rfl
        go_big_quiet ((first | (go_at_call 82; first | with_reducible exact qt1 (rin_lit x.a 1 99 _ HV1.out _) | with_reducible exact qt1 (rin_lit x.b 1 1000 _ HV3.out _) | with_reducible exact qt1 (rin_lit x.c 0 1000 _ HV4.out _))))
        go_wp2_with fail
        go_ret
        exact ⟨rfl, grown_trans HB.out.2 (grown_trans HG3.out (grown_drewN _ _ _))⟩
      | true =>
      cases v2 with
      | true =>
        have he1 : (x.a == r) = true := HEQ.out.1
        have he2 : (x.a != r) = false := HEQ.out.2
        obtain rfl : X = false := by rw [HXY.out, HS.out, HO.out]; rfl
        go_big_quiet ((first | (go_at_call 82; first | with_reducible exact qt1 (rin_lit x.a 1 99 _ HV1.out _) | with_reducible exact qt1 (rin_lit x.b 1 1000 _ HV3.out _) | with_reducible exact qt1 (rin_lit x.c 0 1000 _ HV4.out _))))
        go_wp2_with fail
        go_ret
        exact ⟨rfl, grown_trans HB.out.2 (grown_trans HG3.out (grown_drewN _ _ _))⟩
      | false =>
      have he1 : (x.a == r) = false := HEQ.out.1
      have he2 : (x.a != r) = true := HEQ.out.2
      cases v3 with
      | false =>
        obtain rfl : X = false := by rw [HXY.out, HS.out, HO.out]; rfl
        go_big_quiet ((first | (go_at_call 82; first | with_reducible exact qt1 (rin_lit x.a 1 99 _ HV1.out _) | with_reducible exact qt1 (rin_lit x.b 1 1000 _ HV3.out _) | with_reducible exact qt1 (rin_lit x.c 0 1000 _ HV4.out _))))
        go_wp2_with fail
        go_ret
        exact ⟨rfl, grown_trans HB.out.2 (grown_trans HG3.out (grown_drewN _ _ _))⟩
      | true =>
      cases v4 with
      | false =>
        obtain rfl : X = false := by rw [HXY.out, HS.out, HO.out]; rfl
        go_big_quiet ((first | (go_at_call 82; first | with_reducible exact qt1 (rin_lit x.a 1 99 _ HV1.out _) | with_reducible exact qt1 (rin_lit x.b 1 1000 _ HV3.out _) | with_reducible exact qt1 (rin_lit x.c 0 1000 _ HV4.out _))))
        go_wp2_with fail
        go_ret
        exact ⟨rfl, grown_trans HB.out.2 (grown_trans HG3.out (grown_drewN _ _ _))⟩
      | true =>
      have hxa : 1 ≤ x.a ∧ x.a ≤ 99 := of_decide_eq_true HV1.out
      by_cases hk0 : k = 0
      · have ht0 : t = 0 := by rw [← HTT.out, hk0, lastA_zero]
        have hta : t < x.a := by omega
        have hkb : decide (0 < k) = false := decide_eq_false (by omega)
        clear hk0
        have HN : Hid (vRe r (lastA 0 L (k + 1)) (L.drop (k + 1)) = Y ∧ 0 ≤ lastA 0 L (k + 1)) := Lib.hid ⟨by rw [HS.out, HO.out, decide_eq_true hta]; rfl, by rw [HLA.out]; omega⟩
        go_big_quiet ((first | (go_at_call 82; first | with_reducible exact qt1 (rin_lit x.a 1 99 _ HV1.out _) | with_reducible exact qt1 (rin_lit x.b 1 1000 _ HV3.out _) | with_reducible exact qt1 (rin_lit x.c 0 1000 _ HV4.out _))))
        go_wp2_with fail
        exact ⟨⟨k + 1, by omega, congrArg _ (by omega), HN, Lib.hid (grown_trans HG3.out (grown_drewN _ _ _))⟩, by simp only [RowKit.intOf]; omega⟩
      · obtain ⟨j, rfl⟩ : ∃ j, k = j + 1 := ⟨k - 1, by omega⟩
        obtain ⟨y, hy⟩ : ∃ y, L[j]? = some y := ⟨_, List.getElem?_eq_getElem (by omega)⟩
        have hty : t = y.a := by rw [← HTT.out, lastA_succ hy]
        obtain ⟨z0, z1, z2⟩ := rd3_at (HL.out.keep HG3.out) hy
        have hjp : (0 : Int) < ((j + 1 : Nat) : Int) := by omega
        have hjl : (j : Int) < (L.length : Int) := by omega
        have hj2 : ((j + 1 : Nat) : Int) - 1 = (j : Int) := by omega
        clear hy
        by_cases hta : t < x.a
        · have hc1 : ¬ x.a ≤ y.a := by omega
          have hc2 : decide (x.a ≤ y.a) = false := decide_eq_false hc1
          have HN : Hid (vRe r (lastA 0 L (j + 1 + 1)) (L.drop (j + 1 + 1)) = Y ∧ 0 ≤ lastA 0 L (j + 1 + 1)) := Lib.hid ⟨by rw [HS.out, HO.out, decide_eq_true hta]; rfl, by rw [HLA.out]; omega⟩
          go_big_quiet ((first | (go_at_call 82; first | with_reducible exact qt1 (rin_lit x.a 1 99 _ HV1.out _) | with_reducible exact qt1 (rin_lit x.b 1 1000 _ HV3.out _) | with_reducible exact qt1 (rin_lit x.c 0 1000 _ HV4.out _))))
          go_wp2_with fail
          exact ⟨⟨j + 1 + 1, by omega, congrArg _ (by omega), HN, Lib.hid (grown_trans HG3.out (grown_drewN _ _ _))⟩, by simp only [RowKit.intOf]; omega⟩
        · have hc1 : x.a ≤ y.a := by omega
          have hc2 : decide (x.a ≤ y.a) = true := decide_eq_true hc1
          obtain rfl : X = false := by rw [HXY.out, HS.out, HO.out, decide_eq_false hta]; rfl
          go_big_quiet ((first | (go_at_call 82; first | with_reducible exact qt1 (rin_lit x.a 1 99 _ HV1.out _) | with_reducible exact qt1 (rin_lit x.b 1 1000 _ HV3.out _) | with_reducible exact qt1 (rin_lit x.c 0 1000 _ HV4.out _))))
          go_wp2_with fail
          go_ret
          exact ⟨rfl, grown_trans HB.out.2 (grown_trans HG3.out (grown_drewN _ _ _))⟩
    · obtain rfl : k = L.length := by omega
      obtain rfl : Y = true := by rw [← HI.out.1]; exact vRe_end
      go_wp2_with fail
      have hC := rvc_any C pC cC q wr (HC.out.keep HG.out) hm2
      rw [show vClaims C = X by rw [HXY.out]; rfl] at hC
      refine hC.mono ?_
      rintro e w4 ⟨rfl, hg⟩
      have HF := Lib.hid (grown_trans HB.out.2 (grown_trans HG.out hg))
      clear hg hC
      go_wp2_with fail
      go_ret
      exact ⟨rfl, HF.out⟩
end Go.Proofs.Ytnpkihioklpnmaa

/- The reference's Find, Same, Check of databases; big. -/
namespace Go.Proofs.Ytnpkihioklpnmaa
open Go.RowKit Bs
end Go.Proofs.Ytnpkihioklpnmaa

/- The reference's Find of databases. -/
namespace Go.Proofs.Ytnpkihioklpnmaa
open Go.RowKit Bs
end Go.Proofs.Ytnpkihioklpnmaa

/- Put and Merge: the mathematics. -/
namespace Go.Proofs.Ytnpkihioklpnmaa
open Go.RowKit Bs
/-- An advert without the place of its lists. -/
def fz (A : Ad) : Ad := ⟨A.r, A.q, A.cp, A.L, A.C, none, 0, none, 0⟩
set_option maxRecDepth 100000 in
theorem fz_eq {A B : Ad} : fz A = fz B ↔ smA A B := by
  unfold fz smA
  simp only [Ad.mk.injEq, and_true]
set_option maxRecDepth 100000 in
theorem fnd_fz (l : List Ad) (r : Int) : fndA (l.map fz) r = (fndA l r).map fz := by
  unfold fndA
  rw [List.find?_map]
  rfl
set_option maxRecDepth 100000 in
theorem asc_fz : ∀ (l : List Ad) (k : Int), ascD k (l.map fz) = ascD k l
  | [], _ => rfl
  | A :: t, k => by rw [List.map_cons, ascD, ascD, asc_fz t]; rfl
set_option maxRecDepth 100000 in
theorem okD_fz (l : List Ad) : okD (l.map fz) = okD l := by
  unfold okD chkD
  rw [List.length_map, List.any_map, asc_fz]
  rfl
set_option maxRecDepth 100000 in
theorem okD_OkD {l : List Ad} (h : okD l = true) : OkD l := chk_OkD (by unfold okD at h; simpa using h)
/-- An advert takes the place of the one with its router, or is added. -/
def putA : List Ad → Ad → List Ad
  | [], A => [A]
  | B :: t, A => if B.r < A.r then B :: putA t A else if B.r = A.r then A :: t else A :: B :: t
set_option maxRecDepth 100000 in
theorem putA_fz : ∀ (l : List Ad) (A : Ad), putA (l.map fz) (fz A) = (putA l A).map fz
  | [], _ => rfl
  | B :: t, A => by
    rw [List.map_cons, putA, putA, putA_fz t]
    show (if B.r < A.r then _ else if B.r = A.r then _ else _) = _
    split
    · rfl
    · split <;> rfl
set_option maxRecDepth 100000 in
theorem putA_mem : ∀ {l : List Ad} {A B : Ad}, B ∈ putA l A → B = A ∨ B ∈ l
  | [], A, B, h => by rw [putA, List.mem_singleton] at h; exact .inl h
  | C :: t, A, B, h => by
    rw [putA] at h
    split at h
    · rcases List.mem_cons.1 h with h | h
      · exact .inr (h ▸ List.mem_cons_self)
      · rcases putA_mem h with h | h
        · exact .inl h
        · exact .inr (List.mem_cons_of_mem _ h)
    · split at h
      · rcases List.mem_cons.1 h with h | h
        · exact .inl h
        · exact .inr (List.mem_cons_of_mem _ h)
      · rcases List.mem_cons.1 h with h | h
        · exact .inl h
        · exact .inr h
set_option maxRecDepth 100000 in
theorem putA_asc : ∀ {l : List Ad} {A : Ad} {k : Int}, ascD k l = true → k < A.r → ascD k (putA l A) = true
  | [], A, k, _, h => by rw [putA, ascD, decide_eq_true h]; rfl
  | B :: t, A, k, hl, h => by
    rw [ascD, Bool.and_eq_true] at hl
    have h1 := of_decide_eq_true hl.1
    rw [putA]
    split
    · rename_i h2
      rw [ascD, decide_eq_true h1, putA_asc hl.2 h2]; rfl
    · rename_i h2
      split
      · rename_i h3
        rw [ascD, decide_eq_true h, ← h3, hl.2]; rfl
      · rename_i h3
        rw [ascD, decide_eq_true h, ascD, decide_eq_true (by omega), hl.2]; rfl
set_option maxRecDepth 100000 in
theorem vAd_r {A : Ad} (h : vAd A = true) : 1 ≤ A.r ∧ A.r ≤ 99 := by
  unfold vAd at h
  rw [Bool.and_eq_true] at h
  have h1 := h.1
  unfold vHd at h1
  exact (of_decide_eq_true h1).1
set_option maxRecDepth 100000 in
theorem asc_len : ∀ {l : List Ad} {k : Int}, ascD k l = true → (∀ A ∈ l, A.r ≤ 99) → l ≠ [] → k + l.length ≤ 99
  | [], _, _, _, h => absurd rfl h
  | [A], k, h, h99, _ => by
    rw [ascD, Bool.and_eq_true] at h
    have h1 := of_decide_eq_true h.1
    have := h99 A List.mem_cons_self
    simp only [List.length_singleton]; omega
  | A :: B :: t, k, h, h99, _ => by
    rw [ascD, Bool.and_eq_true] at h
    have h1 := of_decide_eq_true h.1
    have := asc_len h.2 (fun C hC => h99 C (List.mem_cons_of_mem _ hC)) (by simp)
    simp only [List.length_cons] at *; omega
set_option maxRecDepth 100000 in
theorem OkD_of {l : List Ad} (hv : ∀ A ∈ l, vAd A = true) (ha : ascD 0 l = true) : OkD l := by
  refine ⟨?_, hv, ha⟩
  by_cases h : l = []
  · subst h; exact Nat.zero_le _
  · have := asc_len ha (fun A hA => (vAd_r (hv A hA)).2) h; omega
set_option maxRecDepth 100000 in
theorem OkD.ok {l : List Ad} (h : OkD l) : okD l = true := by
  unfold okD chkD
  have h1 := h.len
  rw [if_neg (by omega), if_neg (by
    rw [Bool.not_eq_true, List.any_eq_false]
    intro A hA
    unfold notV
    rw [h.v A hA]
    decide), h.asc]
  rfl
set_option maxRecDepth 100000 in
theorem OkD.put {l : List Ad} {A : Ad} (h : OkD l) (hA : vAd A = true) : OkD (putA l A) :=
  OkD_of (fun B hB => by
    rcases putA_mem hB with e | hB
    · rw [e]; exact hA
    · exact h.v B hB) (putA_asc h.asc (by have := (vAd_r hA).1; omega))
/-- Does an advert change a database? -/
def chg (l : List Ad) (A : Ad) : Bool := match fndA l A.r with
  | none => true
  | some B => nwA A B
/-- What put does to a valid database. -/
def put1 (l : List Ad) (A : Ad) : List Ad := if chg l A = true then putA l A else l
def pD (l : List Ad) (A : Ad) : Bool := okD l && (vAd A && chg l A)
def putV (l : List Ad) (A : Ad) : List Ad := if pD l A = true then putA l A else l
set_option maxRecDepth 100000 in
theorem chg_fz (l : List Ad) (A : Ad) : chg (l.map fz) (fz A) = chg l A := by
  unfold chg
  show (match fndA (l.map fz) A.r with | none => true | some B => nwA (fz A) B) = _
  rw [fnd_fz]
  cases fndA l A.r <;> rfl
set_option maxRecDepth 100000 in
theorem put1_fz (l : List Ad) (A : Ad) : put1 (l.map fz) (fz A) = (put1 l A).map fz := by
  unfold put1
  rw [chg_fz, putA_fz]
  split <;> rfl
set_option maxRecDepth 100000 in
theorem pD_fz (l : List Ad) (A : Ad) : pD (l.map fz) (fz A) = pD l A := by
  unfold pD
  rw [chg_fz, okD_fz]
  rfl
set_option maxRecDepth 100000 in
theorem putV_fz (l : List Ad) (A : Ad) : putV (l.map fz) (fz A) = (putV l A).map fz := by
  unfold putV
  rw [pD_fz, putA_fz]
  split <;> rfl
set_option maxRecDepth 100000 in
theorem OkD.put1 {l : List Ad} {A : Ad} (h : OkD l) (hA : vAd A = true) : OkD (put1 l A) := by
  unfold Go.Proofs.Ytnpkihioklpnmaa.put1
  split
  · exact h.put hA
  · exact h
set_option maxRecDepth 100000 in
theorem PlP.ins {l : List Ad} {A : Ad} {i : Nat} (hp : l.Pairwise (fun A B => A.r < B.r)) (h : PlP l A.r i false) : putA l A = l.take i ++ A :: l.drop i := by
  induction l generalizing i with
  | nil =>
    obtain rfl : i = 0 := Nat.le_zero.1 h.le
    rfl
  | cons B t ih =>
    obtain ⟨p1, p2⟩ := List.pairwise_cons.1 hp
    cases i with
    | zero =>
      have h1 := h.hi B rfl
      have h2 := h.eq
      simp only [List.getElem?_cons_zero] at h2
      have h3 := of_decide_eq_false h2.symm
      rw [putA, if_neg (by omega), if_neg h3]
      rfl
    | succ i =>
      have hlt : B.r < A.r := by
        cases i with
        | zero => exact h.lo B (by decide) rfl
        | succ i =>
          have hil : i < t.length := by have := h.le; simp only [List.length_cons] at this; omega
          have h1 := h.lo t[i] (by omega) (by
            show (B :: t)[i + 1]? = _
            rw [List.getElem?_cons_succ]; exact List.getElem?_eq_getElem hil)
          have := p1 t[i] (List.getElem_mem hil)
          omega
      have hq : PlP t A.r i false := by
        refine ⟨by have := h.le; simp only [List.length_cons] at this; omega, fun x hx hg => ?_, fun x hg => h.hi x (by rw [List.getElem?_cons_succ]; exact hg), by have := h.eq; rw [List.getElem?_cons_succ] at this; exact this⟩
        obtain ⟨j, rfl⟩ : ∃ j, i = j + 1 := ⟨i - 1, by omega⟩
        exact h.lo x (by omega) (by show (B :: t)[j + 1]? = _; rw [List.getElem?_cons_succ]; exact hg)
      rw [putA, if_pos hlt, ih p2 hq]
      rfl
set_option maxRecDepth 100000 in
theorem PlP.set {l : List Ad} {A : Ad} {i : Nat} (hp : l.Pairwise (fun A B => A.r < B.r)) (h : PlP l A.r i true) : putA l A = l.set i A := by
  induction l generalizing i with
  | nil => have := h.eq; simp at this
  | cons B t ih =>
    obtain ⟨p1, p2⟩ := List.pairwise_cons.1 hp
    cases i with
    | zero =>
      have h2 := h.eq
      simp only [List.getElem?_cons_zero] at h2
      have h3 := of_decide_eq_true h2.symm
      rw [putA, if_neg (by omega), if_pos h3]
      rfl
    | succ i =>
      have hlt : B.r < A.r := by
        have h2 := h.eq
        rw [List.getElem?_cons_succ] at h2
        cases hx : t[i]? with
        | none => rw [hx] at h2; cases h2
        | some x =>
          rw [hx] at h2
          simp only at h2
          have h3 := of_decide_eq_true h2.symm
          have := p1 x (List.mem_of_getElem? hx)
          omega
      have hq : PlP t A.r i true := by
        refine ⟨by have := h.le; simp only [List.length_cons] at this; omega, fun x hx hg => ?_, fun x hg => h.hi x (by rw [List.getElem?_cons_succ]; exact hg), by have := h.eq; rw [List.getElem?_cons_succ] at this; exact this⟩
        obtain ⟨j, rfl⟩ : ∃ j, i = j + 1 := ⟨i - 1, by omega⟩
        exact h.lo x (by omega) (by show (B :: t)[j + 1]? = _; rw [List.getElem?_cons_succ]; exact hg)
      rw [putA, if_pos hlt, ih p2 hq]
      rfl
/-! What is found in what Put and Merge give. -/
set_option maxRecDepth 100000 in
theorem fnd_cons (B : Ad) (t : List Ad) (r : Int) : fndA (B :: t) r = if B.r = r then some B else fndA t r := by
  unfold fndA
  rw [List.find?_cons]
  unfold isR
  by_cases h : B.r = r
  · rw [decide_eq_true h, if_pos h]
  · rw [decide_eq_false h, if_neg h]
set_option maxRecDepth 100000 in
theorem fnd_none {l : List Ad} {k r : Int} (h : ascD k l = true) (hr : r ≤ k) : fndA l r = none := by
  refine List.find?_eq_none.2 fun B hB => ?_
  have := (asc_pair l k h).1 B hB
  unfold isR
  rw [decide_eq_false (by omega)]
  decide
set_option maxRecDepth 100000 in
theorem chg_none {l : List Ad} {A : Ad} (h : fndA l A.r = none) : chg l A = true := by unfold chg; rw [h]
set_option maxRecDepth 100000 in
theorem chg_some {l : List Ad} {A B : Ad} (h : fndA l A.r = some B) : chg l A = nwA A B := by unfold chg; rw [h]
set_option maxRecDepth 100000 in
/-- Ascending adverts are what is found in them. -/
theorem fnd_ext : ∀ {l m : List Ad} {k : Int}, ascD k l = true → ascD k m = true → (∀ r, fndA l r = fndA m r) → l = m
  | [], [], _, _, _, _ => rfl
  | [], B :: t, _, _, _, h => by have := h B.r; rw [fnd_cons, if_pos rfl] at this; cases this
  | A :: s, [], _, _, _, h => by have := h A.r; rw [fnd_cons, if_pos rfl] at this; cases this
  | A :: s, B :: t, k, h1, h2, h => by
    rw [ascD, Bool.and_eq_true] at h1 h2
    have hAB : A = B := by
      rcases Int.lt_trichotomy A.r B.r with h3 | h3 | h3
      · have := h A.r
        rw [fnd_cons, if_pos rfl, fnd_cons, if_neg (by omega), fnd_none h2.2 (by omega)] at this
        cases this
      · have := h A.r
        rw [fnd_cons, if_pos rfl, fnd_cons, if_pos h3.symm] at this
        exact Option.some.inj this
      · have := h B.r
        rw [fnd_cons, if_neg (by omega), fnd_none h1.2 (by omega), fnd_cons, if_pos rfl] at this
        cases this
    subst hAB
    rw [fnd_ext h1.2 h2.2 (fun r => by
      have := h r
      rw [fnd_cons, fnd_cons] at this
      by_cases e : A.r = r
      · rw [fnd_none h1.2 (by omega), fnd_none h2.2 (by omega)]
      · rw [if_neg e, if_neg e] at this; exact this)]
/-! The newer one of two: an algebra. -/
end Go.Proofs.Ytnpkihioklpnmaa

/- The reference's Reach and linked. -/
namespace Go.Proofs.Ytnpkihioklpnmaa
open Go.RowKit Bs
section
variable {W w : World} {bu bv : Nat} {u v : T3}
end
end Go.Proofs.Ytnpkihioklpnmaa

/- View: where lists lie does not matter, nor how often one looks; a router that nobody names changes nothing. The mathematics. -/
namespace Go.Proofs.Ytnpkihioklpnmaa
open Go.RowKit Bs
set_option maxRecDepth 100000 in
theorem add_in : ∀ (M : List Ad) (st : List Int × List Ad) (y : Int), inS (M.foldl addA st).1 y = true → inS st.1 y = true ∨ ∃ B ∈ M, B.r = y
  | [], st, y, h => .inl h
  | B :: M, st, y, h => by
    rw [List.foldl_cons] at h
    rcases add_in M _ y h with h | ⟨C, h1, h2⟩
    · unfold addA at h
      split at h
      · exact .inl h
      · rw [inS_app, inS_one, Bool.or_eq_true] at h
        rcases h with h | h
        · exact .inl h
        · exact .inr ⟨B, List.mem_cons_self, of_decide_eq_true h⟩
    · exact .inr ⟨C, List.mem_cons_of_mem _ h1, h2⟩
set_option maxRecDepth 100000 in
theorem bfs_in {l : List Ad} : ∀ (n : Nat) (S : List Int) (W : List Ad) (y : Int), inS (bfs l n S W) y = true → inS S y = true ∨ ∃ B ∈ l, B.r = y
  | 0, S, W, y, h => .inl h
  | n + 1, S, [], y, h => .inl h
  | n + 1, S, A :: W, y, h => by
    rw [bfs] at h
    rcases bfs_in n _ _ y h with h | h
    · rcases add_in _ _ y h with h | ⟨B, h1, h2⟩
      · exact .inl h
      · exact .inr ⟨B, lnk_mem h1, h2⟩
    · exact .inr h
/-! A router behind all others, whom nobody names. -/
section
variable {d : List Ad} {x : Ad}
set_option maxRecDepth 100000 in
theorem putA_end : ∀ {d : List Ad} {x : Ad}, (∀ A ∈ d, A.r < x.r) → putA d x = d ++ [x]
  | [], x, _ => rfl
  | B :: t, x, h => by rw [putA, if_pos (h B List.mem_cons_self), putA_end (fun A hA => h A (List.mem_cons_of_mem _ hA))]; rfl
end
end Go.Proofs.Ytnpkihioklpnmaa

/- The reference's View: the mathematics. -/
namespace Go.Proofs.Ytnpkihioklpnmaa
open Go.RowKit Bs
/-- Two adverts name each other. -/
def lkAd (A B : Ad) : Bool := (rcA A B.r).isSome && (rcA B A.r).isSome
set_option maxRecDepth 100000 in
theorem fnd_selfV : ∀ {l : List Ad} {k : Int}, ascD k l = true → ∀ A ∈ l, fndA l A.r = some A
  | [], _, _, A, h => by cases h
  | B :: t, k, h, A, hA => by
    rw [ascD, Bool.and_eq_true] at h
    rw [fnd_cons]
    rcases List.mem_cons.1 hA with rfl | hA
    · rw [if_pos rfl]
    · have := (asc_pair t B.r h.2).1 A hA
      rw [if_neg (by omega), fnd_selfV h.2 A hA]
set_option maxRecDepth 100000 in
theorem ascD_mono : ∀ {l : List Ad} {k j : Int}, ascD k l = true → j ≤ k → ascD j l = true
  | [], _, _, _, _ => rfl
  | A :: t, k, j, h, hj => by
    rw [ascD, Bool.and_eq_true] at h
    have := of_decide_eq_true h.1
    rw [ascD, decide_eq_true (by omega), h.2]; rfl
set_option maxRecDepth 100000 in
theorem ascD_flt (f : Ad → Bool) : ∀ {l : List Ad} {k : Int}, ascD k l = true → ascD k (l.filter f) = true
  | [], _, _ => rfl
  | A :: t, k, h => by
    rw [ascD, Bool.and_eq_true] at h
    have h1 := of_decide_eq_true h.1
    rw [List.filter_cons]
    split
    · rw [ascD, h.1, ascD_flt f h.2]; rfl
    · exact ascD_mono (ascD_flt f h.2) (by omega)
set_option maxRecDepth 100000 in
theorem ascD_ext {l m : List Ad} {k : Int} (hl : ascD k l = true) (hm : ascD k m = true) (h : ∀ B, B ∈ l ↔ B ∈ m) : l = m := fnd_ext hl hm (fun r => by
  cases hf : fndA l r with
  | none =>
    cases hg : fndA m r with
    | none => rfl
    | some B =>
      obtain ⟨h1, h2⟩ := fndA_some hg
      have := fnd_selfV hl B ((h B).2 h1)
      rw [h2, hf] at this; cases this
  | some B =>
    obtain ⟨h1, h2⟩ := fndA_some hf
    have := fnd_selfV hm B ((h B).1 h1)
    rw [h2] at this
    exact this.symm)
set_option maxRecDepth 100000 in
theorem asc_lnk {l : List Ad} {A : Ad} {r : Int} : ∀ {M : List T3} {last : Int}, vRe r last M = true → ascD last (M.flatMap (lk1 l A)) = true
  | [], _, _ => rfl
  | x :: t, last, h => by
    rw [vRe, Bool.and_eq_true] at h
    have h1 : last < x.a := by have := h.1; unfold okRe at this; exact (of_decide_eq_true this).1
    have ih := asc_lnk (l := l) (A := A) h.2
    rw [List.flatMap_cons]
    have e : lk1 l A x = [] ∨ ∃ B, lk1 l A x = [B] ∧ B.r = x.a := by
      unfold lk1
      cases hf : fndA l x.a with
      | none => exact .inl rfl
      | some B =>
        simp only
        split
        · exact .inr ⟨B, rfl, (fndA_some hf).2⟩
        · exact .inl rfl
    rcases e with e | ⟨B, e, hB⟩
    · rw [e]
      exact ascD_mono ih (by omega)
    · rw [e]
      show ascD last (B :: t.flatMap (lk1 l A)) = true
      rw [ascD, decide_eq_true (by omega), hB, ih]; rfl
set_option maxRecDepth 100000 in
theorem vAd_re {A : Ad} (h : vAd A = true) : vRe A.r 0 A.L = true := by
  unfold vAd at h
  rw [Bool.and_eq_true, Bool.and_eq_true] at h
  exact h.2.1
set_option maxRecDepth 100000 in
theorem rcA_some {A : Ad} {r : Int} {x : T3} (h : rcA A r = some x) : x ∈ A.L ∧ x.a = r := by
  have h2 : isN r x = true := List.find?_some h
  exact ⟨List.mem_of_find?_eq_some h, of_decide_eq_true h2⟩
set_option maxRecDepth 100000 in
theorem lnk_flt {l : List Ad} (h : OkD l) {A : Ad} (hA : A ∈ l) : lnk l A = l.filter (lkAd A) := by
  refine ascD_ext (k := 0) (asc_lnk (vAd_re (h.v A hA))) (ascD_flt _ h.asc) (fun B => ?_)
  rw [List.mem_filter]
  constructor
  · intro hB
    refine ⟨lnk_mem hB, ?_⟩
    unfold lnk at hB
    obtain ⟨x, hx, hx2⟩ := List.mem_flatMap.1 hB
    unfold lk1 at hx2
    cases hf : fndA l x.a with
    | none => rw [hf] at hx2; cases hx2
    | some C =>
      rw [hf] at hx2
      simp only at hx2
      split at hx2
      · rename_i hs
        rw [List.mem_singleton] at hx2
        subst hx2
        unfold lkAd
        have hr := (fndA_some hf).2
        have : (rcA A B.r).isSome = true := by
          unfold rcA
          rw [List.find?_isSome]
          exact ⟨x, hx, by unfold isN; rw [decide_eq_true hr.symm]⟩
        rw [this, hs]; rfl
      · cases hx2
  · rintro ⟨hB, hk⟩
    unfold lkAd at hk
    rw [Bool.and_eq_true] at hk
    obtain ⟨x, hx⟩ := Option.isSome_iff_exists.1 hk.1
    obtain ⟨h1, h2⟩ := rcA_some hx
    unfold lnk
    refine List.mem_flatMap.2 ⟨x, h1, ?_⟩
    unfold lk1
    rw [h2, fnd_selfV h.asc B hB]
    simp only
    rw [if_pos hk.2]
    exact List.mem_singleton_self _
end Go.Proofs.Ytnpkihioklpnmaa

/- copy, clear, append within a row of structs of the call's own; append of zeros. -/
namespace Go.Proofs.Ytnpkihioklpnmaa
open Go.RowKit Bs
/-- Cells laid over others. -/
def setAt (xs : List Value) (o : Nat) : List Value → List Value
  | [] => xs
  | v :: r => setAt (xs.set o v) (o + 1) r
set_option maxRecDepth 100000 in
theorem setAt_len : ∀ (vs : List Value) (o : Nat) (xs : List Value), (setAt xs o vs).length = xs.length
  | [], _, _ => rfl
  | v :: r, o, xs => by
    show (setAt (xs.set o v) (o + 1) r).length = _
    rw [setAt_len r, List.length_set]
set_option maxRecDepth 100000 in
theorem setAt_get : ∀ (vs : List Value) (o : Nat) (xs : List Value) (j : Nat), o + vs.length ≤ xs.length → (setAt xs o vs)[j]? = if o ≤ j ∧ j < o + vs.length then vs[j - o]? else xs[j]?
  | [], o, xs, j, _ => by
    rw [if_neg (by simp only [List.length_nil]; omega)]
    rfl
  | v :: r, o, xs, j, h => by
    rw [List.length_cons] at h ⊢
    show (setAt (xs.set o v) (o + 1) r)[j]? = _
    rw [setAt_get r (o + 1) (xs.set o v) j (by rw [List.length_set]; omega), List.getElem?_set]
    by_cases h1 : j = o
    · subst h1
      rw [if_neg (by omega), if_pos rfl, if_pos (by omega), if_pos (by omega), Nat.sub_self]
      rfl
    · by_cases h2 : o + 1 ≤ j ∧ j < o + 1 + r.length
      · rw [if_pos h2, if_pos (by omega), show j - o = (j - (o + 1)) + 1 by omega]
        rfl
      · rw [if_neg h2, if_neg (by omega), if_neg (by omega)]
set_option maxRecDepth 100000 in
theorem own_setCells {base size n cap g : Nat} {e : TypeId} : ∀ (vs : List Value) (o : Nat) (w : World) (xs : List Value), w.ownsRow base e size (.slice (some ⟨g, 0, none⟩) n cap) n xs → (w.setCells g o vs).ownsRow base e size (.slice (some ⟨g, 0, none⟩) n cap) n (setAt xs o vs) ∧ w.grownBy (w.setCells g o vs) (some g)
  | [], _, w, xs, h => ⟨h, grown_refl _ _⟩
  | v :: r, o, w, xs, h => by
    obtain ⟨s1, s2⟩ := h.stored o v
    obtain ⟨i1, i2⟩ := own_setCells r (o + 1) _ _ s1
    exact ⟨i1, grown_trans s2 i2⟩
set_option maxRecDepth 100000 in
/-- A row, looked at shorter or longer. -/
theorem own_len {w : World} {base size n cap g : Nat} {e : TypeId} {xs : List Value} (h : w.ownsRow base e size (.slice (some ⟨g, 0, none⟩) n cap) n xs) (m : Nat) (hm : m ≤ cap) : ∃ ys, ys.take (min n m * size) = xs.take (min n m * size) ∧ w.ownsRow base e size (.slice (some ⟨g, 0, none⟩) m cap) m ys := by
  rcases h.2 with ⟨e1, _⟩ | ⟨g', cap', cur, e1, hb, hg, hn, hcm, hcs, ht⟩
  · cases e1
  · injection e1 with e2 e3 e4
    injection e2 with e2
    injection e2 with e5 e6
    subst e5
    subst e4
    refine ⟨cur.toList.take (m * size), ?_, ?_, .inr ⟨g, cap, cur, rfl, hb, hg, hm, hcm, hcs, rfl⟩⟩
    · rw [← ht, List.take_take, List.take_take]
      have h1 : min n m * size ≤ m * size := Nat.mul_le_mul_right _ (Nat.min_le_right _ _)
      have h2 : min n m * size ≤ n * size := Nat.mul_le_mul_right _ (Nat.min_le_left _ _)
      rw [Nat.min_eq_left h1, Nat.min_eq_left h2]
    · rw [List.length_take, Array.length_toList, hcs]
      have := Nat.mul_le_mul_right size hm
      omega
set_option maxRecDepth 100000 in
theorem own_cellOk {w : World} {base size n cap g : Nat} {e : TypeId} {xs : List Value} (h : w.ownsRow base e size (.slice (some ⟨g, 0, none⟩) n cap) n xs) (j : Nat) (hj : j < cap * size) : (w.cell? ⟨g, j, none⟩).isSome = true ∧ w.frozen? ⟨g, j, none⟩ = false := by
  obtain ⟨ys, -, hy⟩ := own_len h cap (Nat.le_refl _)
  refine ⟨?_, hy.frozenAt j⟩
  rw [hy.cellAt j hj, List.getElem?_eq_getElem (by rw [hy.1]; exact hj)]
  rfl
section
variable {e t : TypeId} {i : TypeInfo} (ht : Try.prog.underlying t = some (.slice e)) (hi : Try.prog.info? e = some i)
include ht hi
set_option maxRecDepth 100000 in
/-- copy. -/
theorem run_copy_k (w : World) (ty : TypeId) (b o dLen dCap : Nat) (a : Addr) (sLen sCap : Nat) (cs : List Value) (m : Nat) (hm : Nat.min sLen dLen = m) (hl : cs.length = m * i.size) (hsrc : ∀ j v, cs[j]? = some v → w.cell? (a.add j) = some v)
    (hc : ∀ j, j < cs.length → (w.cell? ⟨b, o + j, none⟩).isSome = true) (hf : ∀ j, j < cs.length → w.frozen? ⟨b, o + j, none⟩ = false) (h1 : ∀ v ∈ cs, v.oneCell' = true) :
    (Builtin.copy_ #[t, t] ty #[.slice (some ⟨b, o, none⟩) dLen dCap, .slice (some a) sLen sCap]).run Try.prog w = .ok (goInt m) (w.setCells b o cs) := by
  have hfc := run_firstCells_some (P := Try.prog) w i.size m a sLen sCap cs hl hsrc
  have hst := run_storeCells_cells (P := Try.prog) b o cs 0 w (by simpa using hc) (by simpa using hf) h1
  simp only [Nat.add_zero] at hst
  simp [Builtin.copy_, run_underlying ht, Builtin.lenOf, sizeOf, typeInfo, hi, hm, hfc, hst]
set_option maxRecDepth 100000 in
/-- append(s[:n], make([]T, k)...) where there is no room: a new row. -/
theorem run_append_zeros_k (w : World) (tn ty : TypeId) (htn : Try.prog.underlying tn = some (.int .i64)) (z : Value) (hz : i.zero = some z) (hs : 0 < i.size) (b : Addr) (n cap : Nat) (olds : List Value) (hlo : olds.length = n * i.size) (holds : ∀ j v, olds[j]? = some v → w.cell? (b.add j) = some v)
    (k : Nat) (hk : 0 < k) (hg : cap < n + k) (h63 : n + k ≤ 100000) (hb : i.bytes ≤ 1000) :
    (Builtin.append_ #[t, tn] ty #[.slice (some b) n cap, .int .i64 (k : Int)]).run Try.prog w =
      .ok (.slice (some ⟨w.heap.size, 0, none⟩) (n + k) (grownCap w (n + k) cap e))
        (w.drew.alloc (.cells (olds.toArray ++ Builtin.zeroCells z.cells k ++ Builtin.zeroCells z.cells (grownCap w (n + k) cap e - (n + k))) e)) := by
  have hn : ¬ (n + k ≤ cap) := by omega
  have hw : IntKind.i64.wrap (k : Int) = k := by rw [IntKind.wrap_i64]; omega
  have hkb : k * i.bytes ≤ 100000 * 1000 := Nat.mul_le_mul (by omega) hb
  have hnb : Builtin.nextslicecap (n + k) cap * i.bytes ≤ 200000 * 1000 := Nat.mul_le_mul (Nat.le_trans (nextslicecap_le hg) (by omega)) hb
  have h63' : ¬ (9223372036854775807 < ((n : Int) + (k : Int))) := by omega
  have h48' : ¬ (281474976710656 < Builtin.nextslicecap (n + k) cap * i.bytes) := by omega
  have h48i : ¬ (281474976710656 < (k : Int) * (i.bytes : Int)) := by
    rw [← Int.natCast_mul]
    omega
  have hneg : ¬ ((k : Int) < 0) := by omega
  have hk0 : k ≠ 0 := by omega
  have hns : ¬ (k * i.size = 0) := Nat.mul_ne_zero hk0 (by omega)
  have hfo := run_firstCells_some (P := Try.prog) w.drew i.size n b n cap olds hlo (by simpa using holds)
  simp [Builtin.append_, run_underlying ht, run_underlying htn, sizeOf, typeInfo, zeroValue, hi, hz, asInt, asIntOf, hw, hn, hneg, hns, h63', h48', h48i, Question.forced, hfo, newRow, grownCap]
end
section
variable {ops : Array Oper} {rest : List Oper} {o : Oper} {a : Act} {w : World} {K : Act → World → Prop} {Q : Exit → Act → World → Prop} {E : Prop}
set_option maxRecDepth 100000 in
/-- append, copy, clear whose run is known, in a walk and at a step of a drawn region. -/
theorem wpList_append_runC (hgd : o.guard = none) (s x : Operand) (t tn : TypeId) (ho : o.op = .call { callee := .builtin .append, args := #[s, x], argTypes := #[t, tn] }) (vs vx : Value) (hs : a.eval s = vs) (hx : a.eval x = vx)
    {v' : Value} {w' : World} (hr : (Builtin.append_ #[t, tn] o.type #[vs, vx]).run Try.prog w = .ok v' w') (h : wpList Try.prog ops Q rest (a.put o.dst v') w') : wpList Try.prog ops Q (o :: rest) a w := by
  refine wpList_plain hgd fun K' hK => ?_
  unfold Oper.wp execOp
  simp only [ho, resolve, invoke, builtin, Sem.run_bind, Sem.run_pure, Result.andThen_ok, List.map_toArray, List.map_cons, List.map_nil, hs, hx, hr]
  exact hK _ _ h
set_option maxRecDepth 100000 in
theorem wpList_copy_run (hgd : o.guard = none) (s x : Operand) (t tn : TypeId) (ho : o.op = .call { callee := .builtin .copy, args := #[s, x], argTypes := #[t, tn] }) (vs vx : Value) (hs : a.eval s = vs) (hx : a.eval x = vx)
    {v' : Value} {w' : World} (hr : (Builtin.copy_ #[t, tn] o.type #[vs, vx]).run Try.prog w = .ok v' w') (h : wpList Try.prog ops Q rest (a.put o.dst v') w') : wpList Try.prog ops Q (o :: rest) a w := by
  refine wpList_plain hgd fun K' hK => ?_
  unfold Oper.wp execOp
  simp only [ho, resolve, invoke, builtin, Sem.run_bind, Sem.run_pure, Result.andThen_ok, List.map_toArray, List.map_cons, List.map_nil, hs, hx, hr]
  exact hK _ _ h
set_option maxRecDepth 100000 in
theorem step_copy_run (hgd : o.guard = none) (s x : Operand) (t tn : TypeId) (ho : o.op = .call { callee := .builtin .copy, args := #[s, x], argTypes := #[t, tn] }) (vs vx : Value) (hs : a.eval s = vs) (hx : a.eval x = vx)
    {v' : Value} {w' : World} (hr : (Builtin.copy_ #[t, tn] o.type #[vs, vx]).run Try.prog w = .ok v' w') (h : K (a.put o.dst v') w') : if Region.wanted o (yielded ops a.tmps) = true then Oper.wp Try.prog o a w K Q else E := by
  have hw : Region.wanted o (yielded ops a.tmps) = true := by simp [Region.wanted, hgd]
  rw [if_pos hw]
  unfold Oper.wp execOp
  simp only [ho, resolve, invoke, builtin, Sem.run_bind, Sem.run_pure, Result.andThen_ok, List.map_toArray, List.map_cons, List.map_nil, hs, hx, hr]
  exact h
end
end Go.Proofs.Ytnpkihioklpnmaa

/- Parts of the proof, packed: ShNear, ShMap, ToHasF, ToWiW, ToSort. -/
import Derived.Test.YtlefjdglcdopeaaGreatCo7
import Derived.Test.YtlefjdglcdopeaaGreatCo5
import Derived.Test.YtlefjdglcdopeaaGreatCo3
import Derived.Maps.OwnSet
import Derived.Maps.OwnOps
import Derived.Lib.SlKeysI
import Derived.BigQuiet
/- shortest.nearby. -/
namespace Go.Proofs.YtlefjdglcdopeaaGreat
open Go.RowKit Bs
def dsC (d : Int × Int) : List Value := [.int .i64 d.1, .int .i64 d.2]
set_option maxRecDepth 100000 in
theorem info_dst : (Tryz.prog.info? 34).map (fun i => (i.zero, i.size, i.bytes)) = some (some (.agg #[.int .i64 0, .int .i64 0]), 2, 16) := by kernel_rfl
def nb1D (x : Int) (l : Lk) : List (Int × Int) := (if l.b = x then [(l.a, l.cb)] else []) ++ (if l.a = x then [(l.b, l.ca)] else [])
set_option maxRecDepth 100000 in
theorem nbD_snoc {L : List Lk} {k : Nat} {l : Lk} (x : Int) (h : L[k]? = some l) : nbD (L.take (k + 1)) x = nbD (L.take k) x ++ nb1D x l := by
  unfold nbD nb1D
  rw [List.take_add_one, h]
  simp
set_option maxRecDepth 100000 in
theorem nbD_len (x : Int) : ∀ L : List Lk, (nbD L x).length ≤ 2 * L.length
  | [] => by simp [nbD]
  | l :: L => by
    have h1 : (nb1D x l).length ≤ 2 := by unfold nb1D; split <;> split <;> simp
    have h2 := nbD_len x L
    unfold nbD at *
    unfold nb1D at h1
    rw [List.flatMap_cons, List.length_append, List.length_cons]
    omega
/-- Distances in a row of the call's own. -/
structure ND (w : World) (v : Value) (l : List (Int × Int)) (wr : World) : Prop where
  own : wr.ownsRow w.heap.size 34 2 v l.length (l.flatMap dsC)
  gr : w.grownBy wr none
set_option maxRecDepth 100000 in
theorem ND.keep {w wr w' : World} {v : Value} {l : List (Int × Int)} (h : ND w v l wr) (g : wr.grownBy w' none) : ND w v l w' :=
  ⟨h.own.kept g (by cases hv : v.ownBlock <;> simp), grown_trans h.gr g⟩
set_option maxRecDepth 100000 in
theorem ND.more {w wr wy w1 : World} {v v' : Value} {l : List (Int × Int)} {x : Int × Int} {o : Obj} (h : ND w v l wr) (g : wr.grownBy wy none) (hown' : w1.ownsRow w.heap.size 34 2 v' (l.length + 1) (l.flatMap dsC ++ dsC x)) (hg : (wy.alloc o).grownBy w1 v.ownBlock) :
    ND w v' (l ++ [x]) w1 ∧ (∀ b ob, wr.heap.size ≤ b → wy.heap[b]? = some ob → w1.heap[b]? = some ob) := by
  have hy := h.keep g
  have k0 := World.grownBy_alloc wy o none
  refine ⟨⟨?_, grown_any (grown_trans hy.gr k0) hg (fun b hb e => by have := (hy.own.lt b e.symm).1; omega)⟩, fun b ob hb he => ?_⟩
  · rw [List.length_append, List.flatMap_append, List.flatMap_singleton]; exact hown'
  · refine kept_row (kept_row he k0 (by simp)) hg (fun e => ?_)
    have := (h.own.lt b e.symm).2
    omega
/-- What returns distances that can be read. -/
def TRetD (l : List (Int × Int)) (w : World) (e : Ending) (w' : World) : Prop := ∃ v, e = .returned v ∧ w'.ownsRow w.heap.size 34 2 v l.length (l.flatMap dsC) ∧ w.grownBy w' none
set_option maxRecDepth 100000 in
set_option maxHeartbeats 6400000 in
theorem tnearby_any (L : List Lk) (x : Int) (p : Option Addr) (c : Nat) (q : Nat → Prop) (w : World) (hR : RdL5 w q (.slice p L.length c) L) (hm : L.length ≤ 1000) :
    Calls Tryz.prog 35 #[.slice p L.length c, .int .i64 x] w fun e w' => TRetD (nbD L x) w e w' := by
  obtain ⟨i0, hi, hz0, hz1, hz2⟩ := info_parts info_dst
  have HR := Lib.hid hR
  clear hR
  have N0 : Hid (ND w (.slice none 0 0) (nbD (L.take 0) x) w) := Lib.hid ⟨World.ownsRow_nil _ _ _ _, grown_refl _ _⟩
  go_enter Tryz.func35, Tryz.ntmps35
  go_wp2_with fail
  go_loopw [5, 10] (fun v a wr => ∃ k : Nat, k ≤ L.length ∧ a = .int .i64 (k : Int) ∧ Hid (ND w v (nbD (L.take k) x) wr)) (fun _ a _ => L.length - (RowKit.intOf a).toNat)
  case atStart => exact ⟨0, Nat.zero_le _, rfl, N0⟩
  case round =>
    obtain ⟨k, hk, rfl, N⟩ := hrel
    clear N0
    by_cases hlt : k < L.length
    · obtain ⟨-, b, off, rfl, hq, hc⟩ := rdl_cells (HR.out.keep N.out.gr) (by omega)
      obtain ⟨y, hy⟩ : ∃ y, L[k]? = some y := ⟨_, List.getElem?_eq_getElem hlt⟩
      obtain ⟨a0, a1, a2, a3, a4⟩ := hc k y hy
      have gal := World.grownBy_alloc wr (.cells #[.int .i64 y.a, .int .i64 y.b, .int .i64 y.ca, .int .i64 y.cb, .int .i64 y.cp] 48) none
      have hbx := heap_alloc_new wr (.cells #[.int .i64 y.a, .int .i64 y.b, .int .i64 y.ca, .int .i64 y.cb, .int .i64 y.cp] 48)
      have HG := Lib.hid gal
      have HB := Lib.hid hbx
      have HL : Hid (nbD (L.take (k + 1)) x = nbD (L.take k) x ++ nb1D x y) := Lib.hid (nbD_snoc x hy)
      have hln := nbD_len x (L.take k)
      have hlt2 : (L.take k).length ≤ k := List.length_take_le _ _
      clear hc hy gal hbx
      go_upto_region 5 with fail
      clear a0 a1 a2 a3 a4
      generalize wr.alloc _ = wy at *
      have hsz : w.heap.size ≤ wy.heap.size := Nat.le_trans N.out.gr.size HG.out.size
      have hown := (N.out.keep HG.out).own
      obtain ⟨d0, d1, d2, d3, d4⟩ := lk_facts HB.out
      obtain ⟨M, hM⟩ : ∃ M, nbD (L.take k) x = M := ⟨_, rfl⟩
      rw [hM] at N HL hln hown
      have hMl : M.length ≤ 2000 := by omega
      clear hM hln hlt2
      by_cases e1 : y.b = x
      · have e1' : (y.b == x) = true := by simpa using e1
        have HE1 := Lib.hid e1
        clear e1
        go_wp2_with (at_builtin; refine hold_on ?_)
        refine Lib.hid ?_
        refine wpList_append_lies _ rfl _ _ 31 rfl w.heap.size 34 i0 (.agg #[.int .i64 0, .int .i64 0]) 2 16 Tryz.underlying31 hi hz0 hz1 hz2 rfl (by decide) _ _ _ rfl (hown.alloc _) ⟨wy.heap.size, 0, none⟩ 1 1 [.int .i64 y.a, .int .i64 y.cb] rfl rfl ?c1 ?c2 (by decide) ?c3 ?c4 ?c5 _ rfl ?_
        try (case c1 => exact cells2 _ _ _ _)
        case c2 => (intro u hu; simp at hu; rcases hu with rfl | rfl <;> rfl)
        case c3 => first | omega | (unfold maxLen; omega)
        case c4 => omega
        case c5 => first | omega | (simp; omega)
        intro gq capq w1 hown' hg hat6 hlt6
        obtain ⟨v', hvq⟩ : ∃ vq, Value.slice (some ⟨gq, 0, none⟩) (M.length + 1) capq = vq := ⟨_, rfl⟩
        rw [hvq] at hown' ⊢
        clear hvq hat6 hlt6
        obtain ⟨n1, n2⟩ := N.out.more (x := (y.a, y.cb)) HG.out hown' hg
        have N1 := Lib.hid n1
        have HB1 := Lib.hid (n2 wr.heap.size _ (Nat.le_refl _) HB.out)
        clear hown' hg n1 n2 hown d0 d1 d2 d3 d4
        obtain ⟨d0, d1, d2, d3, d4⟩ := lk_facts HB1.out
        by_cases e2 : y.a = x
        · have e2' : (y.a == x) = true := by simpa using e2
          have HE2 := Lib.hid e2
          have hown := N1.out.own
          have hsz1 := N1.out.gr.size
          have hMl1 : (M ++ [(y.a, y.cb)]).length ≤ 2001 := by rw [List.length_append]; simp; omega
          clear e2
          obtain ⟨M1, hM1⟩ : ∃ M1, M ++ [(y.a, y.cb)] = M1 := ⟨_, rfl⟩
          have HM1 := Lib.hid hM1
          rw [hM1] at N1 hown hMl1
          clear hM1
          go_wp2_with (at_builtin; refine hold_on ?_)
          refine Lib.hid ?_
          refine wpList_append_lies _ rfl _ _ 31 rfl w.heap.size 34 i0 (.agg #[.int .i64 0, .int .i64 0]) 2 16 Tryz.underlying31 hi hz0 hz1 hz2 rfl (by decide) _ _ _ rfl (hown.alloc _) ⟨w1.heap.size, 0, none⟩ 1 1 [.int .i64 y.b, .int .i64 y.ca] rfl rfl ?c1 ?c2 (by decide) ?c3 ?c4 ?c5 _ rfl ?_
          try (case c1 => exact cells2 _ _ _ _)
          case c2 => (intro u hu; simp at hu; rcases hu with rfl | rfl <;> rfl)
          case c3 => first | omega | (unfold maxLen; omega)
          case c4 => omega
          case c5 => first | omega | (simp; omega)
          intro gq capq w2 hown' hg hat6 hlt6
          obtain ⟨v2, hv2⟩ : ∃ vq, Value.slice (some ⟨gq, 0, none⟩) (M1.length + 1) capq = vq := ⟨_, rfl⟩
          rw [hv2] at hown' ⊢
          clear hv2 hat6 hlt6
          obtain ⟨n1, -⟩ := N1.out.more (x := (y.b, y.ca)) (grown_refl _ _) hown' hg
          have N2 : Hid (ND w v2 (nbD (L.take (k + 1)) x) w2) := Lib.hid (by rw [HL.out]; unfold nb1D; rw [if_pos HE1.out, if_pos HE2.out, ← List.append_assoc, HM1.out]; exact n1)
          clear hown' hg n1 hown d0 d1 d2 d3 d4
          go_wp2_with fail
          exact ⟨⟨k + 1, by omega, congrArg _ (by omega), N2⟩, by simp only [RowKit.intOf]; omega⟩
        · have e2' : (y.a == x) = false := by simpa using e2
          have N2 : Hid (ND w v' (nbD (L.take (k + 1)) x) w1) := Lib.hid (by rw [HL.out]; unfold nb1D; rw [if_pos HE1.out, if_neg e2, List.append_nil]; exact N1.out)
          clear e2
          go_wp2_with fail
          exact ⟨⟨k + 1, by omega, congrArg _ (by omega), N2⟩, by simp only [RowKit.intOf]; omega⟩
      · have e1' : (y.b == x) = false := by simpa using e1
        have HE1 := Lib.hid e1
        clear e1
        by_cases e2 : y.a = x
        · have e2' : (y.a == x) = true := by simpa using e2
          have HE2 := Lib.hid e2
          clear e2
          go_wp2_with (at_builtin; refine hold_on ?_)
          refine Lib.hid ?_
          refine wpList_append_lies _ rfl _ _ 31 rfl w.heap.size 34 i0 (.agg #[.int .i64 0, .int .i64 0]) 2 16 Tryz.underlying31 hi hz0 hz1 hz2 rfl (by decide) _ _ _ rfl (hown.alloc _) ⟨wy.heap.size, 0, none⟩ 1 1 [.int .i64 y.b, .int .i64 y.ca] rfl rfl ?c1 ?c2 (by decide) ?c3 ?c4 ?c5 _ rfl ?_
          try (case c1 => exact cells2 _ _ _ _)
          case c2 => (intro u hu; simp at hu; rcases hu with rfl | rfl <;> rfl)
          case c3 => first | omega | (unfold maxLen; omega)
          case c4 => omega
          case c5 => first | omega | (simp; omega)
          intro gq capq w2 hown' hg hat6 hlt6
          obtain ⟨v2, hv2⟩ : ∃ vq, Value.slice (some ⟨gq, 0, none⟩) (M.length + 1) capq = vq := ⟨_, rfl⟩
          rw [hv2] at hown' ⊢
          clear hv2 hat6 hlt6
          obtain ⟨n1, -⟩ := N.out.more (x := (y.b, y.ca)) HG.out hown' hg
          have N2 : Hid (ND w v2 (nbD (L.take (k + 1)) x) w2) := Lib.hid (by rw [HL.out]; unfold nb1D; rw [if_neg HE1.out, if_pos HE2.out, List.nil_append]; exact n1)
          clear hown' hg n1 hown d0 d1 d2 d3 d4
          go_wp2_with fail
          exact ⟨⟨k + 1, by omega, congrArg _ (by omega), N2⟩, by simp only [RowKit.intOf]; omega⟩
        · have e2' : (y.a == x) = false := by simpa using e2
          have N2 : Hid (ND w u5 (nbD (L.take (k + 1)) x) wy) := Lib.hid (by rw [HL.out]; unfold nb1D; rw [if_neg HE1.out, if_neg e2, List.append_nil, List.append_nil]; exact N.out.keep HG.out)
          clear e2
          go_wp2_with fail
          exact ⟨⟨k + 1, by omega, congrArg _ (by omega), N2⟩, by simp only [RowKit.intOf]; omega⟩
    · obtain rfl : k = L.length := by omega
      have hN := N.out
      rw [List.take_length] at hN
      have H9 := Lib.hid hN
      clear hN N
      go_wp2_with fail
      go_ret
      exact ⟨_, rfl, H9.out.own, H9.out.gr⟩
end Go.Proofs.YtlefjdglcdopeaaGreat

/- Maps of costs. -/
namespace Go.Proofs.YtlefjdglcdopeaaGreat
open Go.RowKit Go.Maps Bs
def kZ (x : Int) : Lit := .int .i64 x
set_option maxRecDepth 100000 in
theorem kZ_key (x : Int) : WideAt.IsKeyLit (kZ x) := by unfold kZ WideAt.IsKeyLit; trivial
set_option maxRecDepth 100000 in
theorem kZ_ne {x y : Int} (h : x ≠ y) : kZ x ≠ kZ y := fun e => h (by unfold kZ at e; injection e)
/-- A map that holds f. -/
structure MF (D : DataW Unit) (f : Int → Option Int) : Prop where
  td : Tidy D
  hs : ∀ x, Maps.has D (kZ x) = (f x).isSome
  at_ : ∀ x, D.atKey (kZ x) (.lit (kZ 0)) = .lit (kZ ((f x).getD 0))
def putF (f : Int → Option Int) (x d : Int) : Int → Option Int := fun u => if u = x then some d else f u
set_option maxRecDepth 100000 in
theorem putF_same (f : Int → Option Int) (x d : Int) : putF f x d x = some d := by unfold putF; rw [if_pos rfl]
set_option maxRecDepth 100000 in
theorem putF_other (f : Int → Option Int) (x d : Int) {y : Int} (h : y ≠ x) : putF f x d y = f y := by unfold putF; rw [if_neg h]
set_option maxRecDepth 100000 in
theorem MF.nil : MF (.map []) (fun _ => none) := ⟨tidy_empty, fun _ => rfl, fun _ => rfl⟩
set_option maxRecDepth 100000 in
theorem MF.put {D : DataW Unit} {f : Int → Option Int} (h : MF D f) (x d : Int) : MF (D.put (kZ x) (.lit (kZ d))) (putF f x d) := by
  refine ⟨h.td.put (kZ_key x) _, fun y => ?_, fun y => ?_⟩
  · by_cases e : y = x
    · subst e
      rw [has_put_same h.td.isMap (kZ_key y), putF_same]
      rfl
    · rw [has_put_other (kZ_ne e), h.hs, putF_other f x d e]
  · by_cases e : y = x
    · subst e
      rw [putF_same]
      exact atKey_put_same h.td.isMap (kZ_key y) _ _
    · rw [atKey_put_other (kZ_ne e), h.at_, putF_other f x d e]
set_option maxRecDepth 100000 in
theorem lawZ : Keyed Tryz.prog 3 := int_keyed Tryz.underlying3
set_option maxRecDepth 100000 in
theorem zeroZ (w : World) : (zeroValue 3).run Tryz.prog w = .ok (.int .i64 0) w := by kernel_rfl
set_option maxRecDepth 100000 in
theorem wfZ {x : Int} (h : I64 x) : (Lit.int .i64 x).wf = true := by
  unfold I64 at h
  simp [Lit.wf, IntKind.min, IntKind.max, IntKind.bits, IntKind.signed]
  omega
/-- Block b is a map that holds f, written at most n times. -/
def OMp (w : World) (b n : Nat) (f : Int → Option Int) : Prop := ∃ D : DataW Unit, w.ownsMap Tryz.prog 3 (plainElem Tryz.prog 3) b n D ∧ MF D f
set_option maxRecDepth 100000 in
theorem OMp.kept {w w' : World} {b n : Nat} {f : Int → Option Int} {r : Option Nat} (h : OMp w b n f) (g : w.grownBy w' r) (hr : some b ≠ r) : OMp w' b n f := by
  obtain ⟨D, h1, h2⟩ := h
  exact ⟨D, h1.kept g hr, h2⟩
set_option maxRecDepth 100000 in
theorem OMp.lt {w : World} {b n : Nat} {f : Int → Option Int} (h : OMp w b n f) : b < w.heap.size := by
  obtain ⟨D, h1, h2⟩ := h
  exact h1.lt
set_option maxRecDepth 100000 in
theorem OMp.mono {w : World} {b n m : Nat} {f : Int → Option Int} (h : OMp w b n f) (hn : n ≤ m) : OMp w b m f := by
  obtain ⟨D, h1, h2⟩ := h
  exact ⟨D, h1.mono hn, h2⟩
set_option maxRecDepth 100000 in
theorem OMp.made (w : World) : OMp (w.alloc (.map #[] 0)) w.heap.size 0 (fun _ => none) := ⟨_, World.ownsMap_made w _ _ _, MF.nil⟩
set_option maxRecDepth 100000 in
theorem OMp.put {w : World} {b n : Nat} {f : Int → Option Int} (h : OMp w b n f) (hn : n ≤ 1000000) {x d : Int} (hx : I64 x) (hd : I64 d) :
    ∃ w', (Instr.mapUpdate 51 (.map (some b)) (.int .i64 x) (.int .i64 d)).run Tryz.prog w = .ok () w' ∧ OMp w' b (n + 1) (putF f x d) ∧ w.grownBy w' (some b) := by
  obtain ⟨D, h1, h2⟩ := h
  obtain ⟨w', r1, r2, r3⟩ := h1.update (t := 51) lawZ Tryz.underlying51 (by unfold maxLen; omega) (keyOf_int_mk Tryz.underlying3 (wfZ hx)) (plainElem_int Tryz.underlying3 (wfZ hd))
  exact ⟨w', r1, ⟨_, r2, h2.put x d⟩, r3⟩
/-- A map value: nil, or a block that meets q. -/
def MV (w : World) (q : Nat → Prop) (v : Value) (f : Int → Option Int) : Prop :=
  (v = .map none ∧ ∀ x, f x = none) ∨ ∃ b n, v = .map (some b) ∧ q b ∧ n ≤ 1000000 ∧ OMp w b n f
set_option maxRecDepth 100000 in
theorem MV.grown {w w' : World} {q : Nat → Prop} {v : Value} {f : Int → Option Int} {r : Option Nat} (h : MV w q v f) (g : w.grownBy w' r) (hr : ∀ b, q b → some b ≠ r) : MV w' q v f := by
  rcases h with h | ⟨b, n, e, hq, hn, h⟩
  · exact .inl h
  · exact .inr ⟨b, n, e, hq, hn, h.kept g (hr b hq)⟩
set_option maxRecDepth 100000 in
theorem MV.keep {w w' : World} {q : Nat → Prop} {v : Value} {f : Int → Option Int} (h : MV w q v f) (g : w.grownBy w' none) : MV w' q v f := h.grown g (fun _ _ => by simp)
set_option maxRecDepth 100000 in
theorem MV.mono {w : World} {q q' : Nat → Prop} {v : Value} {f : Int → Option Int} (h : MV w q v f) (hq : ∀ b, q b → b < w.heap.size → q' b) : MV w q' v f := by
  rcases h with h | ⟨b, n, e, h1, hn, h⟩
  · exact .inl h
  · exact .inr ⟨b, n, e, hq b h1 h.lt, hn, h⟩
set_option maxRecDepth 100000 in
theorem OMp.look {w : World} {b n : Nat} {f : Int → Option Int} (h : OMp w b n f) {x : Int} (hx : I64 x) :
    (Instr.lookup 51 (.map (some b)) (.int .i64 x) false).run Tryz.prog w = .ok (.int .i64 ((f x).getD 0)) w ∧ (Instr.lookup 51 (.map (some b)) (.int .i64 x) true).run Tryz.prog w = .ok (.tuple #[.int .i64 ((f x).getD 0), .bool (f x).isSome]) w := by
  obtain ⟨D, h1, h2⟩ := h
  have hk := keyOf_int_mk Tryz.underlying3 (wfZ hx)
  have ha := h2.at_ x
  constructor
  · obtain ⟨c, hrun, hat, -⟩ := h1.lookup_int (t := 51) lawZ Tryz.underlying51 Tryz.underlying3 (zeroZ _) hk
    rw [show (DataW.lit (kZ 0) : DataW Unit) = .lit (.int .i64 0) from rfl, show kZ x = .int .i64 x from rfl, hat] at ha
    unfold kZ at ha
    injection ha with ha
    injection ha with _ ha
    rw [hrun, ha]
  · obtain ⟨v, ps, hrun, hv⟩ := h1.look_ok (t := 51) lawZ Tryz.underlying51 (zeroZ _) (plainElem_int Tryz.underlying3 (q := .i64) (a := 0) (by decide)) hk
    obtain ⟨c, rfl, hc, -⟩ := plainElem_int_inv Tryz.underlying3 hv
    have hc1 := congrArg Prod.fst hc
    simp only at hc1
    rw [show (DataW.lit (kZ 0) : DataW Unit) = .lit (.int .i64 0) from rfl, show kZ x = .int .i64 x from rfl, hc1] at ha
    unfold kZ at ha
    injection ha with ha
    injection ha with _ ha
    rw [hrun, ← ha, ← h2.hs x]
    rfl
set_option maxRecDepth 100000 in
theorem MV.look {w : World} {q : Nat → Prop} {v : Value} {f : Int → Option Int} (h : MV w q v f) {x : Int} (hx : I64 x) :
    (Instr.lookup 51 v (.int .i64 x) false).run Tryz.prog w = .ok (.int .i64 ((f x).getD 0)) w ∧ (Instr.lookup 51 v (.int .i64 x) true).run Tryz.prog w = .ok (.tuple #[.int .i64 ((f x).getD 0), .bool (f x).isSome]) w := by
  rcases h with ⟨rfl, hn⟩ | ⟨b, n, rfl, -, -, h⟩
  · have hk := keyOf_int_mk Tryz.underlying3 (wfZ hx)
    rw [hn x]
    exact ⟨look_nil false lawZ Tryz.underlying51 (zeroZ w) hk, look_nil true lawZ Tryz.underlying51 (zeroZ w) hk⟩
  · exact h.look hx
set_option maxRecDepth 100000 in
/-- The map's keys, in whatever order they come. -/
theorem OMp.keys {w : World} {b n : Nat} {f : Int → Option Int} {D : DataW Unit} (h1 : w.ownsMap Tryz.prog 3 (plainElem Tryz.prog 3) b n D) (h2 : MF D f) {ss : List Int} (hp : ss.Perm (intKeys D)) : ss.Nodup ∧ ∀ x, x ∈ ss ↔ (f x).isSome = true := by
  obtain ⟨es, hD, hpw, _⟩ := h1.entries lawZ
  obtain ⟨es', hD', hko⟩ := h1.keysOf
  obtain rfl : es = es' := by rw [hD] at hD'; simpa using hD'
  subst hD
  have hk : ∀ p ∈ es, ∃ x, p.1 = .int .i64 x := fun p hp => by
    obtain ⟨v, hv⟩ := hko p hp
    obtain ⟨x, _, hx, _⟩ := Maps.keyOf_i64 Tryz.underlying3 hv
    exact ⟨x, hx⟩
  have hnd : (intKeys (.map es)).Nodup := by
    show (es.map fun p => Go.intOf p.1).Nodup
    refine List.pairwise_map.2 (hpw.imp_of_mem fun {p q} hp' hq' hne e => hne ?_)
    obtain ⟨a, ha⟩ := hk p hp'
    obtain ⟨b, hb⟩ := hk q hq'
    rw [ha, hb] at e ⊢
    exact congrArg _ e
  refine ⟨(hp.nodup_iff).2 hnd, fun x => ?_⟩
  rw [hp.mem_iff, ← h2.hs x, has_eq, List.any_eq_true]
  show x ∈ es.map (fun p => Go.intOf p.1) ↔ _
  rw [List.mem_map]
  constructor
  · rintro ⟨p, hp', rfl⟩
    obtain ⟨a, ha⟩ := hk p hp'
    exact ⟨p, hp', by rw [ha]; simp [Lit.sameKey, Go.intOf, kZ]⟩
  · rintro ⟨p, hp', hs⟩
    obtain ⟨a, ha⟩ := hk p hp'
    rw [ha] at hs
    exact ⟨p, hp', by rw [ha]; simpa [Lit.sameKey, Go.intOf, kZ] using hs⟩
end Go.Proofs.YtlefjdglcdopeaaGreat

/- The reference's Has and Named; Same of equal topologies. -/
namespace Go.Proofs.YtlefjdglcdopeaaGreat
open Go.RowKit Bs
/-- A hop names the ends, in either direction. -/
def isB (a b : Int) (h : Hp) : Bool := isH a b h || isH b a h
def nmH (H : List Hp) (a b : Int) : Bool := H.any (isB a b)
set_option maxRecDepth 100000 in
theorem nmH_eq (a b : Int) : ∀ H : List Hp, nmH H a b = (H.any (isH a b) || H.any (isH b a))
  | [] => rfl
  | h :: t => by
    have := nmH_eq a b t
    unfold nmH at this ⊢
    rw [List.any_cons, List.any_cons, List.any_cons, this]
    unfold isB
    cases isH a b h <;> cases isH b a h <;> simp
end Go.Proofs.YtlefjdglcdopeaaGreat

/- topology: Without, the walk. -/
namespace Go.Proofs.YtlefjdglcdopeaaGreat
open Go.RowKit Bs
end Go.Proofs.YtlefjdglcdopeaaGreat

/- slices.Sort of at most twelve numbers of the call's own. -/
namespace Go.Proofs.YtlefjdglcdopeaaGreat
open Go.RowKit Bs
set_option maxRecDepth 100000 in
theorem tless_any (x y : Int) (w : World) :
    Calls Tryz.prog 67 #[.int .i64 x, .int .i64 y] w fun e w' => e = .returned (.bool (decide (x < y))) ∧ w = w' := by
  have N : ∀ (z : Int) (w : World), Calls Tryz.prog 72 #[.int .i64 z] w fun e w' => e = .returned (.bool false) ∧ w = w' := by
    intro z w
    go_enter Tryz.func72, Tryz.ntmps72
    go_wp2_with fail
    go_ret
    first | exact ⟨rfl, rfl⟩ | exact ⟨by simp, rfl⟩
  go_enter Tryz.func67, Tryz.ntmps67
  go_wp2_with (go_at_call 72; refine (N _ _).mono ?_; rintro e w' ⟨rfl, rfl⟩)
  go_ret
  exact ⟨by simp, rfl⟩
set_option maxRecDepth 100000 in
theorem getD_set (l : List Int) (i j : Nat) (a : Int) (hi : i < l.length) : (l.set i a).getD j 0 = if i = j then a else l.getD j 0 := by
  rw [List.getD_eq_getElem?_getD, List.getElem?_set, List.getD_eq_getElem?_getD]
  by_cases e : i = j
  · subst e
    simp [hi]
  · simp [e]
/-- While numbers are sorted. -/
structure SK (w : World) (base g c n : Nat) (l d : List Int) (wr : World) : Prop where
  own : wr.ownsRow base 3 1 (.slice (some ⟨g, 0, none⟩) n c) n (d.map tv)
  gr : w.grownBy wr (some g)
  len : d.length = n
  perm : d.Perm l
set_option maxRecDepth 100000 in
theorem SK.drew {w wr : World} {base g c n : Nat} {l d : List Int} (h : SK w base g c n l d wr) : SK w base g c n l d wr.drew := ⟨h.own.drew, grown_drew h.gr, h.len, h.perm⟩
set_option maxRecDepth 100000 in
theorem SK.at_ {w wr : World} {base g c n : Nat} {l d : List Int} (h : SK w base g c n l d wr) {j : Nat} (hj : j < n) : wr.cell? ⟨g, j, none⟩ = some (.int .i64 (d.getD j 0)) := by
  have h1 := h.own.cellAt j (by omega)
  rw [h1]
  have hl := h.len
  rw [List.getElem?_map, List.getD_eq_getElem?_getD, List.getElem?_eq_getElem (by omega)]
  rfl
def toS (d : List Int) (i : Nat) : Prop := ∀ p q, p < q → q < i → d.getD p 0 ≤ d.getD q 0
def almS (d : List Int) (i j : Nat) : Prop := ∀ p q, p < q → q ≤ i → q ≠ j → d.getD p 0 ≤ d.getD q 0
def swp (d : List Int) (j : Nat) : List Int := (d.set (j + 1) (d.getD j 0)).set j (d.getD (j + 1) 0)
set_option maxRecDepth 100000 in
theorem swp_len (d : List Int) (j : Nat) : (swp d j).length = d.length := by unfold swp; simp
set_option maxRecDepth 100000 in
theorem swp_getD {d : List Int} {j : Nat} (hj : j + 1 < d.length) (k : Nat) : (swp d j).getD k 0 = if j = k then d.getD (j + 1) 0 else if j + 1 = k then d.getD j 0 else d.getD k 0 := by
  unfold swp
  rw [getD_set _ _ _ _ (by rw [List.length_set]; omega), getD_set _ _ _ _ hj]
set_option maxRecDepth 100000 in
theorem swp_perm {d : List Int} {j : Nat} (hj : j + 1 < d.length) : (swp d j).Perm d := by
  unfold swp
  have e1 : d.getD j 0 = d[j]'(by omega) := by rw [List.getD_eq_getElem?_getD, List.getElem?_eq_getElem (by omega)]; rfl
  have e2 : d.getD (j + 1) 0 = d[j + 1]'hj := by rw [List.getD_eq_getElem?_getD, List.getElem?_eq_getElem hj]; rfl
  rw [e1, e2]
  exact List.set_set_perm hj (by omega)
set_option maxRecDepth 100000 in
theorem swp_alm {d : List Int} {i j : Nat} (hj : j + 1 ≤ i) (hi : i < d.length) (h : almS d i (j + 1)) (hlt : d.getD (j + 1) 0 < d.getD j 0) : almS (swp d j) i j := by
  intro p q hpq hq hqj
  have hjl : j + 1 < d.length := by omega
  have hP := swp_getD hjl p
  have hQ := swp_getD hjl q
  have hPQ : (swp d j).getD p 0 = (if p = j then d.getD (j + 1) 0 else if p = j + 1 then d.getD j 0 else d.getD p 0) := by
    rw [hP]
    by_cases e2 : j = p
    · rw [if_pos e2, if_pos e2.symm]
    · rw [if_neg e2, if_neg (show ¬ p = j from fun e => e2 e.symm)]
      by_cases e3 : j + 1 = p
      · rw [if_pos e3, if_pos e3.symm]
      · rw [if_neg e3, if_neg (show ¬ p = j + 1 from fun e => e3 e.symm)]
  rw [hPQ]
  clear hP hPQ
  by_cases e1 : j + 1 = q
  · rw [if_neg (fun e => hqj e.symm), if_pos e1] at hQ
    rw [hQ]
    by_cases e2 : p = j
    · rw [if_pos e2]; omega
    · rw [if_neg e2, if_neg (by omega)]
      exact h p j (by omega) (by omega) (by omega)
  · rw [if_neg (fun e => hqj e.symm), if_neg e1] at hQ
    rw [hQ]
    by_cases e2 : p = j
    · rw [if_pos e2]
      exact h (j + 1) q (by omega) hq (fun e => e1 e.symm)
    · rw [if_neg e2]
      by_cases e3 : p = j + 1
      · rw [if_pos e3]
        exact h j q (by omega) hq (fun e => e1 e.symm)
      · rw [if_neg e3]
        exact h p q hpq hq (fun e => e1 e.symm)
set_option maxRecDepth 100000 in
theorem alm_end {d : List Int} {i j : Nat} (h : almS d i j) (he : j = 0 ∨ d.getD (j - 1) 0 ≤ d.getD j 0) : toS d (i + 1) := by
  intro p q hpq hq
  by_cases e : q = j
  · subst e
    rcases he with he | he
    · omega
    · by_cases e2 : p = q - 1
      · rw [e2]; exact he
      · exact Int.le_trans (h p (q - 1) (by omega) (by omega) (by omega)) he
  · exact h p q hpq (by omega) e
set_option maxRecDepth 100000 in
theorem SK.swap {w wr : World} {base g c n : Nat} {l d : List Int} (h : SK w base g c n l d wr) {j : Nat} (hj : j + 1 < n) :
    SK w base g c n l (swp d j) ((wr.setCell ⟨g, j + 1, none⟩ (.int .i64 (d.getD j 0))).setCell ⟨g, j, none⟩ (.int .i64 (d.getD (j + 1) 0))) := by
  obtain ⟨k1, k2⟩ := h.own.stored (j + 1) (.int .i64 (d.getD j 0))
  obtain ⟨k3, k4⟩ := k1.stored j (.int .i64 (d.getD (j + 1) 0))
  refine ⟨?_, grown_trans (grown_trans h.gr k2) k4, by rw [swp_len]; exact h.len, (swp_perm (by rw [h.len]; exact hj)).trans h.perm⟩
  unfold swp
  rw [List.map_set, List.map_set]
  exact k3
def SrtPost (base g c n : Nat) (l : List Int) (w : World) (e : Ending) (w' : World) : Prop := ∃ d, Hid (SK w base g c n l d w' ∧ toS d n) ∧ e = .returned (.tuple #[])
set_option maxRecDepth 100000 in
set_option maxHeartbeats 6400000 in
theorem tins_any (base g c n : Nat) (l : List Int) (w : World) (hO : w.ownsRow base 3 1 (.slice (some ⟨g, 0, none⟩) n c) n (l.map tv)) (hl : l.length = n) (hn : n ≤ 12) :
    Calls Tryz.prog 61 #[.slice (some ⟨g, 0, none⟩) n c, .int .i64 0, .int .i64 (n : Int)] w fun e w' => SrtPost base g c n l w e w' := by
  have K0 : Hid (SK w base g c n l l w ∧ toS l 1) := Lib.hid ⟨⟨hO, grown_refl _ _, hl, List.Perm.refl _⟩, fun p q h1 h2 => by omega⟩
  clear hO hl
  go_enter Tryz.func61, Tryz.ntmps61
  go_wp2_with fail
  go_loopw [6] (fun a wr => ∃ i : Nat, 1 ≤ i ∧ (i ≤ n ∨ i = 1) ∧ a = .int .i64 (i : Int) ∧ ∃ d, Hid (SK w base g c n l d wr ∧ toS d i)) (fun a _ => n - (RowKit.intOf a).toNat)
  case atStart => exact ⟨1, by omega, Or.inr rfl, rfl, l, K0⟩
  case round =>
  obtain ⟨i, hi1, hi, rfl, d0, K⟩ := hrel
  clear K0
  by_cases hlt : i < n
  case neg =>
    have hz : ¬ (i : Int) < (n : Int) := by omega
    have K9 : Hid (SK w base g c n l d0 wr ∧ toS d0 n) := Lib.hid ⟨K.out.1, fun p q h1 h2 => K.out.2 p q h1 (by omega)⟩
    go_wp2_with fail
    exact bodyPost_end (results_none rfl _ _ _) rfl ⟨d0, K9, rfl⟩
  have KI : Hid (SK w base g c n l d0 wr ∧ almS d0 i i) := Lib.hid ⟨K.out.1, fun p q h1 h2 h3 => K.out.2 p q h1 (by omega)⟩
  clear K
  obtain ⟨wo, rfl⟩ : ∃ wo : World, wo = wr := ⟨_, rfl⟩
  go_wp2_with fail
  go_loopw [7] (fun a wr => ∃ j : Nat, j ≤ i ∧ a = .int .i64 (j : Int) ∧ ∃ d, Hid (SK w base g c n l d wr ∧ almS d i j)) (fun a _ => (RowKit.intOf a).toNat)
  case atStart => exact ⟨i, Nat.le_refl _, rfl, d0, KI⟩
  case round =>
  clear KI
  obtain ⟨j, hj, rfl, d, K⟩ := hrel
  have fin : Hid ((j = 0 ∨ d.getD (j - 1) 0 ≤ d.getD j 0)) → ∀ wz, Hid (SK w base g c n l d wz) → Hid (SK w base g c n l d wz ∧ toS d (i + 1)) := fun h wz k => Lib.hid ⟨k.out, alm_end K.out.2 h.out⟩
  have FIN := Lib.hid fin
  clear fin
  by_cases hj0 : j = 0
  · subst hj0
    have H := FIN.out (Lib.hid (Or.inl rfl)) wr.drew (Lib.hid K.out.1.drew)
    have SD := Lib.hid K.out.1.drew
    clear K FIN
    go_upto_region 4 with fail
    refine wp_region_held_drew (S := fun w' => Hid (SK w base g c n l d w')) (by kernel_rfl) (SD) (fun hHeld => ?_)
    refine wpAnyH_take (i := 0) (oi := { dst := some 16, op := Op.move (Operand.tmp 7), type := 3, pos := "zsortordered.go:14", after := #[], guard := none }) (v := ?_) rfl (by kernel_rfl) (by kernel_rfl) (by kernel_rfl) (fun _ _ _ h => h) (Or.inl ⟨by rfl, ?_⟩) hHeld ?_
    rotate_left 1
    · intro u hSu
      skip
      go_simp
      first | done | with_reducible rfl
    (try simp only [Act.put, List.setIfInBounds_toArray, List.set_cons_zero, List.set_cons_succ])
    refine wpAnyH_take (i := 1) (oi := { dst := some 17, op := Op.move (Operand.tmp 1), type := 3, pos := "zsortordered.go:14", after := #[], guard := none }) (v := ?_) rfl (by kernel_rfl) (by kernel_rfl) (by kernel_rfl) (fun _ _ _ h => h) (Or.inl ⟨by rfl, ?_⟩) hHeld ?_
    rotate_left 1
    · intro u hSu
      skip
      go_simp
      first | done | with_reducible rfl
    (try simp only [Act.put, List.setIfInBounds_toArray, List.set_cons_zero, List.set_cons_succ])
    refine wpAnyH_take (i := 2) (oi := { dst := some 18, op := Op.binOp BinOp.gtr 3 (Operand.tmp 16) (Operand.tmp 17) 3, type := 4, pos := "zsortordered.go:14", after := #[{ on := 0, ground := Ground.data }, { on := 1, ground := Ground.data }], guard := none }) (v := ?_) rfl (by kernel_rfl) (by kernel_rfl) (by kernel_rfl) (fun _ _ _ h => h) (Or.inl ⟨by rfl, ?_⟩) hHeld ?_
    rotate_left 1
    · intro u hSu
      skip
      go_simp
      first | done | with_reducible rfl
    (try simp only [Act.put, List.setIfInBounds_toArray, List.set_cons_zero, List.set_cons_succ])
    refine wpAnyH_take (i := 3) (oi := { dst := some 19, op := Op.move (Operand.tmp 18), type := 4, pos := "zsortordered.go:14", after := #[{ on := 2, ground := Ground.data }], guard := none }) (v := ?_) rfl (by kernel_rfl) (by kernel_rfl) (by kernel_rfl) (fun _ _ _ h => h) (Or.inl ⟨by rfl, ?_⟩) hHeld ?_
    rotate_left 1
    · intro u hSu
      skip
      go_simp
      first | done | with_reducible rfl
    (try simp only [Act.put, List.setIfInBounds_toArray, List.set_cons_zero, List.set_cons_succ])
    refine wpAnyH_take (i := 4) (oi := { dst := some 20, op := Op.move (Operand.tmp 0), type := 22, pos := "zsortordered.go:14", after := #[{ on := 3, ground := Ground.guard }], guard := some (3, true) }) (v := undef) rfl (by kernel_rfl) (by kernel_rfl) (by kernel_rfl) (fun _ _ _ h => h) (Or.inr ⟨by rfl, rfl⟩) hHeld ?_
    (try simp only [Act.put, List.setIfInBounds_toArray, List.set_cons_zero, List.set_cons_succ])
    refine wpAnyH_take (i := 5) (oi := { dst := some 21, op := Op.move (Operand.tmp 7), type := 3, pos := "zsortordered.go:14", after := #[{ on := 3, ground := Ground.guard }], guard := some (3, true) }) (v := undef) rfl (by kernel_rfl) (by kernel_rfl) (by kernel_rfl) (fun _ _ _ h => h) (Or.inr ⟨by rfl, rfl⟩) hHeld ?_
    (try simp only [Act.put, List.setIfInBounds_toArray, List.set_cons_zero, List.set_cons_succ])
    refine wpAnyH_take (i := 6) (oi := { dst := some 22, op := Op.indexAddr 22 (Operand.tmp 20) (Operand.tmp 21), type := 0, pos := "zsortordered.go:14", after := #[{ on := 4, ground := Ground.data }, { on := 5, ground := Ground.data }, { on := 3, ground := Ground.guard }], guard := some (3, true) }) (v := undef) rfl (by kernel_rfl) (by kernel_rfl) (by kernel_rfl) (fun _ _ _ h => h) (Or.inr ⟨by rfl, rfl⟩) hHeld ?_
    (try simp only [Act.put, List.setIfInBounds_toArray, List.set_cons_zero, List.set_cons_succ])
    refine wpAnyH_take (i := 7) (oi := { dst := some 23, op := Op.load 3 (Operand.tmp 22), type := 3, pos := "zsortordered.go:14", after := #[{ on := 6, ground := Ground.data }, { on := 3, ground := Ground.guard }], guard := some (3, true) }) (v := undef) rfl (by kernel_rfl) (by kernel_rfl) (by kernel_rfl) (fun _ _ _ h => h) (Or.inr ⟨by rfl, rfl⟩) hHeld ?_
    (try simp only [Act.put, List.setIfInBounds_toArray, List.set_cons_zero, List.set_cons_succ])
    refine wpAnyH_take (i := 8) (oi := { dst := some 24, op := Op.move (Operand.tmp 0), type := 22, pos := "zsortordered.go:14", after := #[{ on := 3, ground := Ground.guard }], guard := some (3, true) }) (v := undef) rfl (by kernel_rfl) (by kernel_rfl) (by kernel_rfl) (fun _ _ _ h => h) (Or.inr ⟨by rfl, rfl⟩) hHeld ?_
    (try simp only [Act.put, List.setIfInBounds_toArray, List.set_cons_zero, List.set_cons_succ])
    refine wpAnyH_take (i := 9) (oi := { dst := some 25, op := Op.move (Operand.tmp 7), type := 3, pos := "zsortordered.go:14", after := #[{ on := 3, ground := Ground.guard }], guard := some (3, true) }) (v := undef) rfl (by kernel_rfl) (by kernel_rfl) (by kernel_rfl) (fun _ _ _ h => h) (Or.inr ⟨by rfl, rfl⟩) hHeld ?_
    (try simp only [Act.put, List.setIfInBounds_toArray, List.set_cons_zero, List.set_cons_succ])
    refine wpAnyH_take (i := 10) (oi := { dst := some 26, op := Op.binOp BinOp.sub 3 (Operand.tmp 25) (Operand.const (Value.int IntKind.i64 1)) 3, type := 3, pos := "zsortordered.go:14", after := #[{ on := 9, ground := Ground.data }, { on := 3, ground := Ground.guard }], guard := some (3, true) }) (v := undef) rfl (by kernel_rfl) (by kernel_rfl) (by kernel_rfl) (fun _ _ _ h => h) (Or.inr ⟨by rfl, rfl⟩) hHeld ?_
    (try simp only [Act.put, List.setIfInBounds_toArray, List.set_cons_zero, List.set_cons_succ])
    refine wpAnyH_take (i := 11) (oi := { dst := some 27, op := Op.indexAddr 22 (Operand.tmp 24) (Operand.tmp 26), type := 0, pos := "zsortordered.go:14", after := #[{ on := 8, ground := Ground.data }, { on := 10, ground := Ground.data }, { on := 3, ground := Ground.guard }], guard := some (3, true) }) (v := undef) rfl (by kernel_rfl) (by kernel_rfl) (by kernel_rfl) (fun _ _ _ h => h) (Or.inr ⟨by rfl, rfl⟩) hHeld ?_
    (try simp only [Act.put, List.setIfInBounds_toArray, List.set_cons_zero, List.set_cons_succ])
    refine wpAnyH_take (i := 12) (oi := { dst := some 28, op := Op.load 3 (Operand.tmp 27), type := 3, pos := "zsortordered.go:14", after := #[{ on := 11, ground := Ground.data }, { on := 3, ground := Ground.guard }], guard := some (3, true) }) (v := undef) rfl (by kernel_rfl) (by kernel_rfl) (by kernel_rfl) (fun _ _ _ h => h) (Or.inr ⟨by rfl, rfl⟩) hHeld ?_
    (try simp only [Act.put, List.setIfInBounds_toArray, List.set_cons_zero, List.set_cons_succ])
    refine wpAnyH_take (i := 13) (oi := { dst := some 29, op := Op.call { callee := Callee.value (Operand.func 67), args := #[Operand.tmp 23, Operand.tmp 28], argTypes := #[3, 3] }, type := 4, pos := "zsortordered.go:14", after := #[{ on := 7, ground := Ground.data }, { on := 12, ground := Ground.data }, { on := 3, ground := Ground.chain }, { on := 3, ground := Ground.guard }], guard := some (3, true) }) (v := undef) rfl (by kernel_rfl) (by kernel_rfl) (by kernel_rfl) (fun _ _ _ h => h) (Or.inr ⟨by rfl, rfl⟩) hHeld ?_
    (try simp only [Act.put, List.setIfInBounds_toArray, List.set_cons_zero, List.set_cons_succ])
    refine wpAnyH_take (i := 14) (oi := { dst := some 30, op := Op.pick (Operand.tmp 19) (Operand.tmp 29) (Operand.const (Value.bool false)), type := 4, pos := "zsortordered.go:14", after := #[{ on := 3, ground := Ground.data }, { on := 13, ground := Ground.data }], guard := none }) (v := ?_) rfl (by kernel_rfl) (by kernel_rfl) (by kernel_rfl) (fun _ _ _ h => h) (Or.inl ⟨by rfl, ?_⟩) hHeld ?_
    rotate_left 1
    · intro u hSu
      skip
      go_simp
      first | done | with_reducible rfl
    (try simp only [Act.put, List.setIfInBounds_toArray, List.set_cons_zero, List.set_cons_succ])
    refine wpAnyH_done (by kernel_rfl) ?_ _
    clear hHeld
    go_wp2_with fail
    exact ⟨⟨i + 1, by omega, Or.inl (by omega), congrArg _ (by omega), d, H⟩, by simp only [RowKit.intOf]; omega⟩
  · obtain ⟨j, rfl⟩ : ∃ k, j = k + 1 := ⟨j - 1, by omega⟩
    have hcast : ((j + 1 : Nat) : Int) = (j : Int) + 1 := by omega
    have hj1 : j + 1 < n := by omega
    have hj0 : j < n := by omega
    have ew1 : ((j : Int) + 1 - 1) = (j : Int) := by omega
    have ew3 : IntKind.i64.wrap (j : Int) = (j : Int) := IntWalk.i64_in _ (by omega)
    have i0 : (0 : Int) ≤ (j : Int) := by omega
    have i1 : (0 : Int) ≤ (j : Int) + 1 := by omega
    have i2 : (j : Int) < (n : Int) := by omega
    have i3 : (j : Int) + 1 < (n : Int) := by omega
    have i4 : ((j : Int) + 1).toNat = j + 1 := by omega
    have i5 : (0 : Int) < (j : Int) + 1 := by omega
    rw [hcast]
    obtain ⟨x, hx⟩ : ∃ x, d.getD (j + 1) 0 = x := ⟨_, rfl⟩
    obtain ⟨y, hy⟩ : ∃ y, d.getD j 0 = y := ⟨_, rfl⟩
    have HX := Lib.hid (And.intro hx hy)
    have SD := Lib.hid K.out.1.drew
    clear hx hy
    by_cases hxy : x < y
    · go_upto_region 4 with fail
      refine wp_region_held_drew (S := fun w' => Hid (SK w base g c n l d w')) (by kernel_rfl) (SD) (fun hHeld => ?_)
      refine wpAnyH_take (i := 0) (oi := { dst := some 16, op := Op.move (Operand.tmp 7), type := 3, pos := "zsortordered.go:14", after := #[], guard := none }) (v := ?_) rfl (by kernel_rfl) (by kernel_rfl) (by kernel_rfl) (fun _ _ _ h => h) (Or.inl ⟨by rfl, ?_⟩) hHeld ?_
      rotate_left 1
      · intro u hSu
        have y0 := hSu.out.at_ hj1
        have y1 := hSu.out.at_ hj0
        rw [HX.out.1] at y0
        rw [HX.out.2] at y1
        go_simp
        first | done | with_reducible rfl
      (try simp only [Act.put, List.setIfInBounds_toArray, List.set_cons_zero, List.set_cons_succ])
      refine wpAnyH_take (i := 1) (oi := { dst := some 17, op := Op.move (Operand.tmp 1), type := 3, pos := "zsortordered.go:14", after := #[], guard := none }) (v := ?_) rfl (by kernel_rfl) (by kernel_rfl) (by kernel_rfl) (fun _ _ _ h => h) (Or.inl ⟨by rfl, ?_⟩) hHeld ?_
      rotate_left 1
      · intro u hSu
        have y0 := hSu.out.at_ hj1
        have y1 := hSu.out.at_ hj0
        rw [HX.out.1] at y0
        rw [HX.out.2] at y1
        go_simp
        first | done | with_reducible rfl
      (try simp only [Act.put, List.setIfInBounds_toArray, List.set_cons_zero, List.set_cons_succ])
      refine wpAnyH_take (i := 2) (oi := { dst := some 18, op := Op.binOp BinOp.gtr 3 (Operand.tmp 16) (Operand.tmp 17) 3, type := 4, pos := "zsortordered.go:14", after := #[{ on := 0, ground := Ground.data }, { on := 1, ground := Ground.data }], guard := none }) (v := ?_) rfl (by kernel_rfl) (by kernel_rfl) (by kernel_rfl) (fun _ _ _ h => h) (Or.inl ⟨by rfl, ?_⟩) hHeld ?_
      rotate_left 1
      · intro u hSu
        have y0 := hSu.out.at_ hj1
        have y1 := hSu.out.at_ hj0
        rw [HX.out.1] at y0
        rw [HX.out.2] at y1
        go_simp
        first | done | with_reducible rfl
      (try simp only [Act.put, List.setIfInBounds_toArray, List.set_cons_zero, List.set_cons_succ])
      refine wpAnyH_take (i := 3) (oi := { dst := some 19, op := Op.move (Operand.tmp 18), type := 4, pos := "zsortordered.go:14", after := #[{ on := 2, ground := Ground.data }], guard := none }) (v := ?_) rfl (by kernel_rfl) (by kernel_rfl) (by kernel_rfl) (fun _ _ _ h => h) (Or.inl ⟨by rfl, ?_⟩) hHeld ?_
      rotate_left 1
      · intro u hSu
        have y0 := hSu.out.at_ hj1
        have y1 := hSu.out.at_ hj0
        rw [HX.out.1] at y0
        rw [HX.out.2] at y1
        go_simp
        first | done | with_reducible rfl
      (try simp only [Act.put, List.setIfInBounds_toArray, List.set_cons_zero, List.set_cons_succ])
      refine wpAnyH_take (i := 4) (oi := { dst := some 20, op := Op.move (Operand.tmp 0), type := 22, pos := "zsortordered.go:14", after := #[{ on := 3, ground := Ground.guard }], guard := some (3, true) }) (v := ?_) rfl (by kernel_rfl) (by kernel_rfl) (by kernel_rfl) (fun _ _ _ h => h) (Or.inl ⟨by rfl, ?_⟩) hHeld ?_
      rotate_left 1
      · intro u hSu
        have y0 := hSu.out.at_ hj1
        have y1 := hSu.out.at_ hj0
        rw [HX.out.1] at y0
        rw [HX.out.2] at y1
        go_simp
        first | done | with_reducible rfl
      (try simp only [Act.put, List.setIfInBounds_toArray, List.set_cons_zero, List.set_cons_succ])
      refine wpAnyH_take (i := 5) (oi := { dst := some 21, op := Op.move (Operand.tmp 7), type := 3, pos := "zsortordered.go:14", after := #[{ on := 3, ground := Ground.guard }], guard := some (3, true) }) (v := ?_) rfl (by kernel_rfl) (by kernel_rfl) (by kernel_rfl) (fun _ _ _ h => h) (Or.inl ⟨by rfl, ?_⟩) hHeld ?_
      rotate_left 1
      · intro u hSu
        have y0 := hSu.out.at_ hj1
        have y1 := hSu.out.at_ hj0
        rw [HX.out.1] at y0
        rw [HX.out.2] at y1
        go_simp
        first | done | with_reducible rfl
      (try simp only [Act.put, List.setIfInBounds_toArray, List.set_cons_zero, List.set_cons_succ])
      refine wpAnyH_take (i := 6) (oi := { dst := some 22, op := Op.indexAddr 22 (Operand.tmp 20) (Operand.tmp 21), type := 0, pos := "zsortordered.go:14", after := #[{ on := 4, ground := Ground.data }, { on := 5, ground := Ground.data }, { on := 3, ground := Ground.guard }], guard := some (3, true) }) (v := ?_) rfl (by kernel_rfl) (by kernel_rfl) (by kernel_rfl) (fun _ _ _ h => h) (Or.inl ⟨by rfl, ?_⟩) hHeld ?_
      rotate_left 1
      · intro u hSu
        have y0 := hSu.out.at_ hj1
        have y1 := hSu.out.at_ hj0
        rw [HX.out.1] at y0
        rw [HX.out.2] at y1
        go_simp
        first | done | with_reducible rfl
      (try simp only [Act.put, List.setIfInBounds_toArray, List.set_cons_zero, List.set_cons_succ])
      refine wpAnyH_take (i := 7) (oi := { dst := some 23, op := Op.load 3 (Operand.tmp 22), type := 3, pos := "zsortordered.go:14", after := #[{ on := 6, ground := Ground.data }, { on := 3, ground := Ground.guard }], guard := some (3, true) }) (v := ?_) rfl (by kernel_rfl) (by kernel_rfl) (by kernel_rfl) (fun _ _ _ h => h) (Or.inl ⟨by rfl, ?_⟩) hHeld ?_
      rotate_left 1
      · intro u hSu
        have y0 := hSu.out.at_ hj1
        have y1 := hSu.out.at_ hj0
        rw [HX.out.1] at y0
        rw [HX.out.2] at y1
        go_simp
        first | done | with_reducible rfl
      (try simp only [Act.put, List.setIfInBounds_toArray, List.set_cons_zero, List.set_cons_succ])
      refine wpAnyH_take (i := 8) (oi := { dst := some 24, op := Op.move (Operand.tmp 0), type := 22, pos := "zsortordered.go:14", after := #[{ on := 3, ground := Ground.guard }], guard := some (3, true) }) (v := ?_) rfl (by kernel_rfl) (by kernel_rfl) (by kernel_rfl) (fun _ _ _ h => h) (Or.inl ⟨by rfl, ?_⟩) hHeld ?_
      rotate_left 1
      · intro u hSu
        have y0 := hSu.out.at_ hj1
        have y1 := hSu.out.at_ hj0
        rw [HX.out.1] at y0
        rw [HX.out.2] at y1
        go_simp
        first | done | with_reducible rfl
      (try simp only [Act.put, List.setIfInBounds_toArray, List.set_cons_zero, List.set_cons_succ])
      refine wpAnyH_take (i := 9) (oi := { dst := some 25, op := Op.move (Operand.tmp 7), type := 3, pos := "zsortordered.go:14", after := #[{ on := 3, ground := Ground.guard }], guard := some (3, true) }) (v := ?_) rfl (by kernel_rfl) (by kernel_rfl) (by kernel_rfl) (fun _ _ _ h => h) (Or.inl ⟨by rfl, ?_⟩) hHeld ?_
      rotate_left 1
      · intro u hSu
        have y0 := hSu.out.at_ hj1
        have y1 := hSu.out.at_ hj0
        rw [HX.out.1] at y0
        rw [HX.out.2] at y1
        go_simp
        first | done | with_reducible rfl
      (try simp only [Act.put, List.setIfInBounds_toArray, List.set_cons_zero, List.set_cons_succ])
      refine wpAnyH_take (i := 10) (oi := { dst := some 26, op := Op.binOp BinOp.sub 3 (Operand.tmp 25) (Operand.const (Value.int IntKind.i64 1)) 3, type := 3, pos := "zsortordered.go:14", after := #[{ on := 9, ground := Ground.data }, { on := 3, ground := Ground.guard }], guard := some (3, true) }) (v := ?_) rfl (by kernel_rfl) (by kernel_rfl) (by kernel_rfl) (fun _ _ _ h => h) (Or.inl ⟨by rfl, ?_⟩) hHeld ?_
      rotate_left 1
      · intro u hSu
        have y0 := hSu.out.at_ hj1
        have y1 := hSu.out.at_ hj0
        rw [HX.out.1] at y0
        rw [HX.out.2] at y1
        go_simp
        first | done | with_reducible rfl
      (try simp only [Act.put, List.setIfInBounds_toArray, List.set_cons_zero, List.set_cons_succ])
      refine wpAnyH_take (i := 11) (oi := { dst := some 27, op := Op.indexAddr 22 (Operand.tmp 24) (Operand.tmp 26), type := 0, pos := "zsortordered.go:14", after := #[{ on := 8, ground := Ground.data }, { on := 10, ground := Ground.data }, { on := 3, ground := Ground.guard }], guard := some (3, true) }) (v := ?_) rfl (by kernel_rfl) (by kernel_rfl) (by kernel_rfl) (fun _ _ _ h => h) (Or.inl ⟨by rfl, ?_⟩) hHeld ?_
      rotate_left 1
      · intro u hSu
        have y0 := hSu.out.at_ hj1
        have y1 := hSu.out.at_ hj0
        rw [HX.out.1] at y0
        rw [HX.out.2] at y1
        go_simp
        first | done | with_reducible rfl
      (try simp only [Act.put, List.setIfInBounds_toArray, List.set_cons_zero, List.set_cons_succ])
      refine wpAnyH_take (i := 12) (oi := { dst := some 28, op := Op.load 3 (Operand.tmp 27), type := 3, pos := "zsortordered.go:14", after := #[{ on := 11, ground := Ground.data }, { on := 3, ground := Ground.guard }], guard := some (3, true) }) (v := ?_) rfl (by kernel_rfl) (by kernel_rfl) (by kernel_rfl) (fun _ _ _ h => h) (Or.inl ⟨by rfl, ?_⟩) hHeld ?_
      rotate_left 1
      · intro u hSu
        have y0 := hSu.out.at_ hj1
        have y1 := hSu.out.at_ hj0
        rw [HX.out.1] at y0
        rw [HX.out.2] at y1
        go_simp
        first | done | with_reducible rfl
      (try simp only [Act.put, List.setIfInBounds_toArray, List.set_cons_zero, List.set_cons_succ])
      refine wpAnyH_ready (rs := [13]) (by kernel_rfl) (by simp) ?_
      refine AllReadyH.cons (o := { dst := some 29, op := Op.call { callee := Callee.value (Operand.func 67), args := #[Operand.tmp 23, Operand.tmp 28], argTypes := #[3, 3] }, type := 4, pos := "zsortordered.go:14", after := #[{ on := 7, ground := Ground.data }, { on := 12, ground := Ground.data }, { on := 3, ground := Ground.chain }, { on := 3, ground := Ground.guard }], guard := some (3, true) }) rfl (fun K hK => ?_) AllReadyH.nil
      go_simp
      go_at_call 67
      refine (tless_any x y _).mono ?_
      rintro e w' ⟨rfl, rfl⟩
      refine hK.out _ _ (hHeld) (fun hH2 => ?_)
      clear hK K hHeld
      have hHeld := hH2
      clear hH2
      (try simp only [Act.put, List.setIfInBounds_toArray, List.set_cons_zero, List.set_cons_succ])
      refine wpAnyH_take (i := 14) (oi := { dst := some 30, op := Op.pick (Operand.tmp 19) (Operand.tmp 29) (Operand.const (Value.bool false)), type := 4, pos := "zsortordered.go:14", after := #[{ on := 3, ground := Ground.data }, { on := 13, ground := Ground.data }], guard := none }) (v := ?_) rfl (by kernel_rfl) (by kernel_rfl) (by kernel_rfl) (fun _ _ _ h => h) (Or.inl ⟨by rfl, ?_⟩) hHeld ?_
      rotate_left 1
      · intro u hSu
        have y0 := hSu.out.at_ hj1
        have y1 := hSu.out.at_ hj0
        rw [HX.out.1] at y0
        rw [HX.out.2] at y1
        go_simp
        first | done | with_reducible rfl
      (try simp only [Act.put, List.setIfInBounds_toArray, List.set_cons_zero, List.set_cons_succ])
      refine wpAnyH_done (by kernel_rfl) ?_ _
      have SE := hHeld
      clear hHeld
      rw [decide_eq_true hxy]
      have y0 := K.out.1.at_ hj1
      have y1 := K.out.1.at_ hj0
      rw [HX.out.1] at y0
      rw [HX.out.2] at y1
      have z0 := K.out.1.own.frozenAt (j + 1)
      have z1 := K.out.1.own.frozenAt j
      go_upto_region 6 with fail
      have SW : Hid (SK w base g c n l (swp d j) ((wr.setCell ⟨g, j + 1, none⟩ (.int .i64 y)).setCell ⟨g, j, none⟩ (.int .i64 x)).drew.drew ∧ almS (swp d j) i j) := Lib.hid ⟨by have h := K.out.1.swap hj1; rw [HX.out.1, HX.out.2] at h; exact h.drew.drew, swp_alm (by omega) (by have := K.out.1.len; omega) K.out.2 (by rw [HX.out.1, HX.out.2]; exact hxy)⟩
      clear K SE
      go_region_law fail
      all_goals
        clear y0 y1 z0 z1
        go_wp2_with fail
        exact ⟨⟨j, by omega, rfl, swp d j, SW⟩, by simp only [RowKit.intOf]; omega⟩
    · have hnd : decide (x < y) = false := decide_eq_false hxy
      have H := FIN.out (Lib.hid (Or.inr (by show d.getD j 0 ≤ d.getD (j + 1) 0; rw [HX.out.1, HX.out.2]; omega)))
      clear FIN
      go_upto_region 4 with fail
      refine wp_region_held_drew (S := fun w' => Hid (SK w base g c n l d w')) (by kernel_rfl) (SD) (fun hHeld => ?_)
      refine wpAnyH_take (i := 0) (oi := { dst := some 16, op := Op.move (Operand.tmp 7), type := 3, pos := "zsortordered.go:14", after := #[], guard := none }) (v := ?_) rfl (by kernel_rfl) (by kernel_rfl) (by kernel_rfl) (fun _ _ _ h => h) (Or.inl ⟨by rfl, ?_⟩) hHeld ?_
      rotate_left 1
      · intro u hSu
        have y0 := hSu.out.at_ hj1
        have y1 := hSu.out.at_ hj0
        rw [HX.out.1] at y0
        rw [HX.out.2] at y1
        go_simp
        first | done | with_reducible rfl
      (try simp only [Act.put, List.setIfInBounds_toArray, List.set_cons_zero, List.set_cons_succ])
      refine wpAnyH_take (i := 1) (oi := { dst := some 17, op := Op.move (Operand.tmp 1), type := 3, pos := "zsortordered.go:14", after := #[], guard := none }) (v := ?_) rfl (by kernel_rfl) (by kernel_rfl) (by kernel_rfl) (fun _ _ _ h => h) (Or.inl ⟨by rfl, ?_⟩) hHeld ?_
      rotate_left 1
      · intro u hSu
        have y0 := hSu.out.at_ hj1
        have y1 := hSu.out.at_ hj0
        rw [HX.out.1] at y0
        rw [HX.out.2] at y1
        go_simp
        first | done | with_reducible rfl
      (try simp only [Act.put, List.setIfInBounds_toArray, List.set_cons_zero, List.set_cons_succ])
      refine wpAnyH_take (i := 2) (oi := { dst := some 18, op := Op.binOp BinOp.gtr 3 (Operand.tmp 16) (Operand.tmp 17) 3, type := 4, pos := "zsortordered.go:14", after := #[{ on := 0, ground := Ground.data }, { on := 1, ground := Ground.data }], guard := none }) (v := ?_) rfl (by kernel_rfl) (by kernel_rfl) (by kernel_rfl) (fun _ _ _ h => h) (Or.inl ⟨by rfl, ?_⟩) hHeld ?_
      rotate_left 1
      · intro u hSu
        have y0 := hSu.out.at_ hj1
        have y1 := hSu.out.at_ hj0
        rw [HX.out.1] at y0
        rw [HX.out.2] at y1
        go_simp
        first | done | with_reducible rfl
      (try simp only [Act.put, List.setIfInBounds_toArray, List.set_cons_zero, List.set_cons_succ])
      refine wpAnyH_take (i := 3) (oi := { dst := some 19, op := Op.move (Operand.tmp 18), type := 4, pos := "zsortordered.go:14", after := #[{ on := 2, ground := Ground.data }], guard := none }) (v := ?_) rfl (by kernel_rfl) (by kernel_rfl) (by kernel_rfl) (fun _ _ _ h => h) (Or.inl ⟨by rfl, ?_⟩) hHeld ?_
      rotate_left 1
      · intro u hSu
        have y0 := hSu.out.at_ hj1
        have y1 := hSu.out.at_ hj0
        rw [HX.out.1] at y0
        rw [HX.out.2] at y1
        go_simp
        first | done | with_reducible rfl
      (try simp only [Act.put, List.setIfInBounds_toArray, List.set_cons_zero, List.set_cons_succ])
      refine wpAnyH_take (i := 4) (oi := { dst := some 20, op := Op.move (Operand.tmp 0), type := 22, pos := "zsortordered.go:14", after := #[{ on := 3, ground := Ground.guard }], guard := some (3, true) }) (v := ?_) rfl (by kernel_rfl) (by kernel_rfl) (by kernel_rfl) (fun _ _ _ h => h) (Or.inl ⟨by rfl, ?_⟩) hHeld ?_
      rotate_left 1
      · intro u hSu
        have y0 := hSu.out.at_ hj1
        have y1 := hSu.out.at_ hj0
        rw [HX.out.1] at y0
        rw [HX.out.2] at y1
        go_simp
        first | done | with_reducible rfl
      (try simp only [Act.put, List.setIfInBounds_toArray, List.set_cons_zero, List.set_cons_succ])
      refine wpAnyH_take (i := 5) (oi := { dst := some 21, op := Op.move (Operand.tmp 7), type := 3, pos := "zsortordered.go:14", after := #[{ on := 3, ground := Ground.guard }], guard := some (3, true) }) (v := ?_) rfl (by kernel_rfl) (by kernel_rfl) (by kernel_rfl) (fun _ _ _ h => h) (Or.inl ⟨by rfl, ?_⟩) hHeld ?_
      rotate_left 1
      · intro u hSu
        have y0 := hSu.out.at_ hj1
        have y1 := hSu.out.at_ hj0
        rw [HX.out.1] at y0
        rw [HX.out.2] at y1
        go_simp
        first | done | with_reducible rfl
      (try simp only [Act.put, List.setIfInBounds_toArray, List.set_cons_zero, List.set_cons_succ])
      refine wpAnyH_take (i := 6) (oi := { dst := some 22, op := Op.indexAddr 22 (Operand.tmp 20) (Operand.tmp 21), type := 0, pos := "zsortordered.go:14", after := #[{ on := 4, ground := Ground.data }, { on := 5, ground := Ground.data }, { on := 3, ground := Ground.guard }], guard := some (3, true) }) (v := ?_) rfl (by kernel_rfl) (by kernel_rfl) (by kernel_rfl) (fun _ _ _ h => h) (Or.inl ⟨by rfl, ?_⟩) hHeld ?_
      rotate_left 1
      · intro u hSu
        have y0 := hSu.out.at_ hj1
        have y1 := hSu.out.at_ hj0
        rw [HX.out.1] at y0
        rw [HX.out.2] at y1
        go_simp
        first | done | with_reducible rfl
      (try simp only [Act.put, List.setIfInBounds_toArray, List.set_cons_zero, List.set_cons_succ])
      refine wpAnyH_take (i := 7) (oi := { dst := some 23, op := Op.load 3 (Operand.tmp 22), type := 3, pos := "zsortordered.go:14", after := #[{ on := 6, ground := Ground.data }, { on := 3, ground := Ground.guard }], guard := some (3, true) }) (v := ?_) rfl (by kernel_rfl) (by kernel_rfl) (by kernel_rfl) (fun _ _ _ h => h) (Or.inl ⟨by rfl, ?_⟩) hHeld ?_
      rotate_left 1
      · intro u hSu
        have y0 := hSu.out.at_ hj1
        have y1 := hSu.out.at_ hj0
        rw [HX.out.1] at y0
        rw [HX.out.2] at y1
        go_simp
        first | done | with_reducible rfl
      (try simp only [Act.put, List.setIfInBounds_toArray, List.set_cons_zero, List.set_cons_succ])
      refine wpAnyH_take (i := 8) (oi := { dst := some 24, op := Op.move (Operand.tmp 0), type := 22, pos := "zsortordered.go:14", after := #[{ on := 3, ground := Ground.guard }], guard := some (3, true) }) (v := ?_) rfl (by kernel_rfl) (by kernel_rfl) (by kernel_rfl) (fun _ _ _ h => h) (Or.inl ⟨by rfl, ?_⟩) hHeld ?_
      rotate_left 1
      · intro u hSu
        have y0 := hSu.out.at_ hj1
        have y1 := hSu.out.at_ hj0
        rw [HX.out.1] at y0
        rw [HX.out.2] at y1
        go_simp
        first | done | with_reducible rfl
      (try simp only [Act.put, List.setIfInBounds_toArray, List.set_cons_zero, List.set_cons_succ])
      refine wpAnyH_take (i := 9) (oi := { dst := some 25, op := Op.move (Operand.tmp 7), type := 3, pos := "zsortordered.go:14", after := #[{ on := 3, ground := Ground.guard }], guard := some (3, true) }) (v := ?_) rfl (by kernel_rfl) (by kernel_rfl) (by kernel_rfl) (fun _ _ _ h => h) (Or.inl ⟨by rfl, ?_⟩) hHeld ?_
      rotate_left 1
      · intro u hSu
        have y0 := hSu.out.at_ hj1
        have y1 := hSu.out.at_ hj0
        rw [HX.out.1] at y0
        rw [HX.out.2] at y1
        go_simp
        first | done | with_reducible rfl
      (try simp only [Act.put, List.setIfInBounds_toArray, List.set_cons_zero, List.set_cons_succ])
      refine wpAnyH_take (i := 10) (oi := { dst := some 26, op := Op.binOp BinOp.sub 3 (Operand.tmp 25) (Operand.const (Value.int IntKind.i64 1)) 3, type := 3, pos := "zsortordered.go:14", after := #[{ on := 9, ground := Ground.data }, { on := 3, ground := Ground.guard }], guard := some (3, true) }) (v := ?_) rfl (by kernel_rfl) (by kernel_rfl) (by kernel_rfl) (fun _ _ _ h => h) (Or.inl ⟨by rfl, ?_⟩) hHeld ?_
      rotate_left 1
      · intro u hSu
        have y0 := hSu.out.at_ hj1
        have y1 := hSu.out.at_ hj0
        rw [HX.out.1] at y0
        rw [HX.out.2] at y1
        go_simp
        first | done | with_reducible rfl
      (try simp only [Act.put, List.setIfInBounds_toArray, List.set_cons_zero, List.set_cons_succ])
      refine wpAnyH_take (i := 11) (oi := { dst := some 27, op := Op.indexAddr 22 (Operand.tmp 24) (Operand.tmp 26), type := 0, pos := "zsortordered.go:14", after := #[{ on := 8, ground := Ground.data }, { on := 10, ground := Ground.data }, { on := 3, ground := Ground.guard }], guard := some (3, true) }) (v := ?_) rfl (by kernel_rfl) (by kernel_rfl) (by kernel_rfl) (fun _ _ _ h => h) (Or.inl ⟨by rfl, ?_⟩) hHeld ?_
      rotate_left 1
      · intro u hSu
        have y0 := hSu.out.at_ hj1
        have y1 := hSu.out.at_ hj0
        rw [HX.out.1] at y0
        rw [HX.out.2] at y1
        go_simp
        first | done | with_reducible rfl
      (try simp only [Act.put, List.setIfInBounds_toArray, List.set_cons_zero, List.set_cons_succ])
      refine wpAnyH_take (i := 12) (oi := { dst := some 28, op := Op.load 3 (Operand.tmp 27), type := 3, pos := "zsortordered.go:14", after := #[{ on := 11, ground := Ground.data }, { on := 3, ground := Ground.guard }], guard := some (3, true) }) (v := ?_) rfl (by kernel_rfl) (by kernel_rfl) (by kernel_rfl) (fun _ _ _ h => h) (Or.inl ⟨by rfl, ?_⟩) hHeld ?_
      rotate_left 1
      · intro u hSu
        have y0 := hSu.out.at_ hj1
        have y1 := hSu.out.at_ hj0
        rw [HX.out.1] at y0
        rw [HX.out.2] at y1
        go_simp
        first | done | with_reducible rfl
      (try simp only [Act.put, List.setIfInBounds_toArray, List.set_cons_zero, List.set_cons_succ])
      refine wpAnyH_ready (rs := [13]) (by kernel_rfl) (by simp) ?_
      refine AllReadyH.cons (o := { dst := some 29, op := Op.call { callee := Callee.value (Operand.func 67), args := #[Operand.tmp 23, Operand.tmp 28], argTypes := #[3, 3] }, type := 4, pos := "zsortordered.go:14", after := #[{ on := 7, ground := Ground.data }, { on := 12, ground := Ground.data }, { on := 3, ground := Ground.chain }, { on := 3, ground := Ground.guard }], guard := some (3, true) }) rfl (fun K hK => ?_) AllReadyH.nil
      go_simp
      go_at_call 67
      refine (tless_any x y _).mono ?_
      rintro e w' ⟨rfl, rfl⟩
      refine hK.out _ _ (hHeld) (fun hH2 => ?_)
      clear hK K hHeld
      have hHeld := hH2
      clear hH2
      (try simp only [Act.put, List.setIfInBounds_toArray, List.set_cons_zero, List.set_cons_succ])
      refine wpAnyH_take (i := 14) (oi := { dst := some 30, op := Op.pick (Operand.tmp 19) (Operand.tmp 29) (Operand.const (Value.bool false)), type := 4, pos := "zsortordered.go:14", after := #[{ on := 3, ground := Ground.data }, { on := 13, ground := Ground.data }], guard := none }) (v := ?_) rfl (by kernel_rfl) (by kernel_rfl) (by kernel_rfl) (fun _ _ _ h => h) (Or.inl ⟨by rfl, ?_⟩) hHeld ?_
      rotate_left 1
      · intro u hSu
        have y0 := hSu.out.at_ hj1
        have y1 := hSu.out.at_ hj0
        rw [HX.out.1] at y0
        rw [HX.out.2] at y1
        go_simp
        first | done | with_reducible rfl
      (try simp only [Act.put, List.setIfInBounds_toArray, List.set_cons_zero, List.set_cons_succ])
      refine wpAnyH_done (by kernel_rfl) ?_ _
      have H2 := H _ hHeld
      clear hHeld H
      rw [hnd]
      go_wp2_with fail
      exact ⟨⟨i + 1, by omega, Or.inl (by omega), congrArg _ (by omega), d, H2⟩, by simp only [RowKit.intOf]; omega⟩
end Go.Proofs.YtlefjdglcdopeaaGreat

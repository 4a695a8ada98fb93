/- Parts of the proof, packed: ShNear, ShMap, ToHasF, ToWiW, ToSort, ToSrt2, ShNst, ShDel, ShStp. -/
import Derived.Test.YtlefjdglcdopeaaAv7
import Derived.Test.YtlefjdglcdopeaaAv5
import Derived.Test.YtlefjdglcdopeaaAv3
import Derived.Maps.OwnSet
import Derived.Maps.OwnOps
import Derived.Lib.SlKeysI
import Derived.BigQuiet
import Derived.WalkMore
/- shortest.nearby. -/
namespace Go.Proofs.Ytlefjdglcdopeaa
open Go.RowKit Bs
def dsC (d : Int × Int) : List Value := [.int .i64 d.1, .int .i64 d.2]
set_option maxRecDepth 100000 in
theorem info_dst : (Try.prog.info? 80).map (fun i => (i.zero, i.size, i.bytes)) = some (some (.agg #[.int .i64 0, .int .i64 0]), 2, 16) := by kernel_rfl
def nb1D (x : Int) (l : Lk) : List (Int × Int) := (if l.b = x then [(l.a, l.cb)] else []) ++ (if l.a = x then [(l.b, l.ca)] else [])
set_option maxRecDepth 100000 in
theorem nbD_snoc {L : List Lk} {k : Nat} {l : Lk} (x : Int) (h : L[k]? = some l) : nbD (L.take (k + 1)) x = nbD (L.take k) x ++ nb1D x l := by
  unfold nbD nb1D
  rw [List.take_add_one, h]
  simp
set_option maxRecDepth 100000 in
theorem nbD_len (x : Int) : ∀ L : List Lk, (nbD L x).length ≤ 2 * L.length
  | [] => by simp [nbD]
  | l :: L => by
    have h1 : (nb1D x l).length ≤ 2 := by unfold nb1D; split <;> split <;> simp
    have h2 := nbD_len x L
    unfold nbD at *
    unfold nb1D at h1
    rw [List.flatMap_cons, List.length_append, List.length_cons]
    omega
/-- Distances in a row of the call's own. -/
structure ND (w : World) (v : Value) (l : List (Int × Int)) (wr : World) : Prop where
  own : wr.ownsRow w.heap.size 80 2 v l.length (l.flatMap dsC)
  gr : w.grownBy wr none
set_option maxRecDepth 100000 in
theorem ND.keep {w wr w' : World} {v : Value} {l : List (Int × Int)} (h : ND w v l wr) (g : wr.grownBy w' none) : ND w v l w' :=
  ⟨h.own.kept g (by cases hv : v.ownBlock <;> simp), grown_trans h.gr g⟩
set_option maxRecDepth 100000 in
theorem ND.more {w wr wy w1 : World} {v v' : Value} {l : List (Int × Int)} {x : Int × Int} {o : Obj} (h : ND w v l wr) (g : wr.grownBy wy none) (hown' : w1.ownsRow w.heap.size 80 2 v' (l.length + 1) (l.flatMap dsC ++ dsC x)) (hg : (wy.alloc o).grownBy w1 v.ownBlock) :
    ND w v' (l ++ [x]) w1 ∧ (∀ b ob, wr.heap.size ≤ b → wy.heap[b]? = some ob → w1.heap[b]? = some ob) := by
  have hy := h.keep g
  have k0 := World.grownBy_alloc wy o none
  refine ⟨⟨?_, grown_any (grown_trans hy.gr k0) hg (fun b hb e => by have := (hy.own.lt b e.symm).1; omega)⟩, fun b ob hb he => ?_⟩
  · rw [List.length_append, List.flatMap_append, List.flatMap_singleton]; exact hown'
  · refine kept_row (kept_row he k0 (by simp)) hg (fun e => ?_)
    have := (h.own.lt b e.symm).2
    omega
/-- What returns distances that can be read. -/
def TRetD (l : List (Int × Int)) (w : World) (e : Ending) (w' : World) : Prop := ∃ v, e = .returned v ∧ w'.ownsRow w.heap.size 80 2 v l.length (l.flatMap dsC) ∧ w.grownBy w' none
set_option maxRecDepth 100000 in
set_option maxHeartbeats 6400000 in
theorem tnearby_any (L : List Lk) (x : Int) (p : Option Addr) (c : Nat) (q : Nat → Prop) (w : World) (hR : RdL5 w q (.slice p L.length c) L) (hm : L.length ≤ 1000) :
    Calls Try.prog 60 #[.slice p L.length c, .int .i64 x] w fun e w' => TRetD (nbD L x) w e w' := by
  obtain ⟨i0, hi, hz0, hz1, hz2⟩ := info_parts info_dst
  have HR := Lib.hid hR
  clear hR
  have N0 : Hid (ND w (.slice none 0 0) (nbD (L.take 0) x) w) := Lib.hid ⟨World.ownsRow_nil _ _ _ _, grown_refl _ _⟩
  go_enter Try.func60, Try.ntmps60
  go_wp2_with fail
  go_loopw [5, 10] (fun v a wr => ∃ k : Nat, k ≤ L.length ∧ a = .int .i64 (k : Int) ∧ Hid (ND w v (nbD (L.take k) x) wr)) (fun _ a _ => L.length - (RowKit.intOf a).toNat)
  case atStart => exact ⟨0, Nat.zero_le _, rfl, N0⟩
  case round =>
    obtain ⟨k, hk, rfl, N⟩ := hrel
    clear N0
    by_cases hlt : k < L.length
    · obtain ⟨-, b, off, rfl, hq, hc⟩ := rdl_cells (HR.out.keep N.out.gr) (by omega)
      obtain ⟨y, hy⟩ : ∃ y, L[k]? = some y := ⟨_, List.getElem?_eq_getElem hlt⟩
      obtain ⟨a0, a1, a2, a3, a4⟩ := hc k y hy
      have gal := World.grownBy_alloc wr (.cells #[.int .i64 y.a, .int .i64 y.b, .int .i64 y.ca, .int .i64 y.cb, .int .i64 y.cp] 44) none
      have hbx := heap_alloc_new wr (.cells #[.int .i64 y.a, .int .i64 y.b, .int .i64 y.ca, .int .i64 y.cb, .int .i64 y.cp] 44)
      have HG := Lib.hid gal
      have HB := Lib.hid hbx
      have HL : Hid (nbD (L.take (k + 1)) x = nbD (L.take k) x ++ nb1D x y) := Lib.hid (nbD_snoc x hy)
      have hln := nbD_len x (L.take k)
      have hlt2 : (L.take k).length ≤ k := List.length_take_le _ _
      clear hc hy gal hbx
      go_upto_region 5 with fail
      clear a0 a1 a2 a3 a4
      generalize wr.alloc _ = wy at *
      have hsz : w.heap.size ≤ wy.heap.size := Nat.le_trans N.out.gr.size HG.out.size
      have hown := (N.out.keep HG.out).own
      obtain ⟨d0, d1, d2, d3, d4⟩ := lk_facts HB.out
      obtain ⟨M, hM⟩ : ∃ M, nbD (L.take k) x = M := ⟨_, rfl⟩
      rw [hM] at N HL hln hown
      have hMl : M.length ≤ 2000 := by omega
      clear hM hln hlt2
      by_cases e1 : y.b = x
      · have e1' : (y.b == x) = true := by simpa using e1
        have HE1 := Lib.hid e1
        clear e1
        go_wp2_with (at_builtin; refine hold_on ?_)
        refine Lib.hid ?_
        refine wpList_append_lies _ rfl _ _ 77 rfl w.heap.size 80 i0 (.agg #[.int .i64 0, .int .i64 0]) 2 16 Try.underlying77 hi hz0 hz1 hz2 rfl (by decide) _ _ _ rfl (hown.alloc _) ⟨wy.heap.size, 0, none⟩ 1 1 [.int .i64 y.a, .int .i64 y.cb] rfl rfl ?c1 ?c2 (by decide) ?c3 ?c4 ?c5 _ rfl ?_
        try (case c1 => exact cells2 _ _ _ _)
        case c2 => (intro u hu; simp at hu; rcases hu with rfl | rfl <;> rfl)
        case c3 => first | omega | (unfold maxLen; omega)
        case c4 => omega
        case c5 => first | omega | (simp; omega)
        intro gq capq w1 hown' hg hat6 hlt6
        obtain ⟨v', hvq⟩ : ∃ vq, Value.slice (some ⟨gq, 0, none⟩) (M.length + 1) capq = vq := ⟨_, rfl⟩
        rw [hvq] at hown' ⊢
        clear hvq hat6 hlt6
        obtain ⟨n1, n2⟩ := N.out.more (x := (y.a, y.cb)) HG.out hown' hg
        have N1 := Lib.hid n1
        have HB1 := Lib.hid (n2 wr.heap.size _ (Nat.le_refl _) HB.out)
        clear hown' hg n1 n2 hown d0 d1 d2 d3 d4
        obtain ⟨d0, d1, d2, d3, d4⟩ := lk_facts HB1.out
        by_cases e2 : y.a = x
        · have e2' : (y.a == x) = true := by simpa using e2
          have HE2 := Lib.hid e2
          have hown := N1.out.own
          have hsz1 := N1.out.gr.size
          have hMl1 : (M ++ [(y.a, y.cb)]).length ≤ 2001 := by rw [List.length_append]; simp; omega
          clear e2
          obtain ⟨M1, hM1⟩ : ∃ M1, M ++ [(y.a, y.cb)] = M1 := ⟨_, rfl⟩
          have HM1 := Lib.hid hM1
          rw [hM1] at N1 hown hMl1
          clear hM1
          go_wp2_with (at_builtin; refine hold_on ?_)
          refine Lib.hid ?_
          refine wpList_append_lies _ rfl _ _ 77 rfl w.heap.size 80 i0 (.agg #[.int .i64 0, .int .i64 0]) 2 16 Try.underlying77 hi hz0 hz1 hz2 rfl (by decide) _ _ _ rfl (hown.alloc _) ⟨w1.heap.size, 0, none⟩ 1 1 [.int .i64 y.b, .int .i64 y.ca] rfl rfl ?c1 ?c2 (by decide) ?c3 ?c4 ?c5 _ rfl ?_
          try (case c1 => exact cells2 _ _ _ _)
          case c2 => (intro u hu; simp at hu; rcases hu with rfl | rfl <;> rfl)
          case c3 => first | omega | (unfold maxLen; omega)
          case c4 => omega
          case c5 => first | omega | (simp; omega)
          intro gq capq w2 hown' hg hat6 hlt6
          obtain ⟨v2, hv2⟩ : ∃ vq, Value.slice (some ⟨gq, 0, none⟩) (M1.length + 1) capq = vq := ⟨_, rfl⟩
          rw [hv2] at hown' ⊢
          clear hv2 hat6 hlt6
          obtain ⟨n1, -⟩ := N1.out.more (x := (y.b, y.ca)) (grown_refl _ _) hown' hg
          have N2 : Hid (ND w v2 (nbD (L.take (k + 1)) x) w2) := Lib.hid (by rw [HL.out]; unfold nb1D; rw [if_pos HE1.out, if_pos HE2.out, ← List.append_assoc, HM1.out]; exact n1)
          clear hown' hg n1 hown d0 d1 d2 d3 d4
          go_wp2_with fail
          exact ⟨⟨k + 1, by omega, congrArg _ (by omega), N2⟩, by simp only [RowKit.intOf]; omega⟩
        · have e2' : (y.a == x) = false := by simpa using e2
          have N2 : Hid (ND w v' (nbD (L.take (k + 1)) x) w1) := Lib.hid (by rw [HL.out]; unfold nb1D; rw [if_pos HE1.out, if_neg e2, List.append_nil]; exact N1.out)
          clear e2
          go_wp2_with fail
          exact ⟨⟨k + 1, by omega, congrArg _ (by omega), N2⟩, by simp only [RowKit.intOf]; omega⟩
      · have e1' : (y.b == x) = false := by simpa using e1
        have HE1 := Lib.hid e1
        clear e1
        by_cases e2 : y.a = x
        · have e2' : (y.a == x) = true := by simpa using e2
          have HE2 := Lib.hid e2
          clear e2
          go_wp2_with (at_builtin; refine hold_on ?_)
          refine Lib.hid ?_
          refine wpList_append_lies _ rfl _ _ 77 rfl w.heap.size 80 i0 (.agg #[.int .i64 0, .int .i64 0]) 2 16 Try.underlying77 hi hz0 hz1 hz2 rfl (by decide) _ _ _ rfl (hown.alloc _) ⟨wy.heap.size, 0, none⟩ 1 1 [.int .i64 y.b, .int .i64 y.ca] rfl rfl ?c1 ?c2 (by decide) ?c3 ?c4 ?c5 _ rfl ?_
          try (case c1 => exact cells2 _ _ _ _)
          case c2 => (intro u hu; simp at hu; rcases hu with rfl | rfl <;> rfl)
          case c3 => first | omega | (unfold maxLen; omega)
          case c4 => omega
          case c5 => first | omega | (simp; omega)
          intro gq capq w2 hown' hg hat6 hlt6
          obtain ⟨v2, hv2⟩ : ∃ vq, Value.slice (some ⟨gq, 0, none⟩) (M.length + 1) capq = vq := ⟨_, rfl⟩
          rw [hv2] at hown' ⊢
          clear hv2 hat6 hlt6
          obtain ⟨n1, -⟩ := N.out.more (x := (y.b, y.ca)) HG.out hown' hg
          have N2 : Hid (ND w v2 (nbD (L.take (k + 1)) x) w2) := Lib.hid (by rw [HL.out]; unfold nb1D; rw [if_neg HE1.out, if_pos HE2.out, List.nil_append]; exact n1)
          clear hown' hg n1 hown d0 d1 d2 d3 d4
          go_wp2_with fail
          exact ⟨⟨k + 1, by omega, congrArg _ (by omega), N2⟩, by simp only [RowKit.intOf]; omega⟩
        · have e2' : (y.a == x) = false := by simpa using e2
          have N2 : Hid (ND w u5 (nbD (L.take (k + 1)) x) wy) := Lib.hid (by rw [HL.out]; unfold nb1D; rw [if_neg HE1.out, if_neg e2, List.append_nil, List.append_nil]; exact N.out.keep HG.out)
          clear e2
          go_wp2_with fail
          exact ⟨⟨k + 1, by omega, congrArg _ (by omega), N2⟩, by simp only [RowKit.intOf]; omega⟩
    · obtain rfl : k = L.length := by omega
      have hN := N.out
      rw [List.take_length] at hN
      have H9 := Lib.hid hN
      clear hN N
      go_wp2_with fail
      go_ret
      exact ⟨_, rfl, H9.out.own, H9.out.gr⟩
end Go.Proofs.Ytlefjdglcdopeaa

/- Maps of costs. -/
namespace Go.Proofs.Ytlefjdglcdopeaa
open Go.RowKit Go.Maps Bs
def kZ (x : Int) : Lit := .int .i64 x
set_option maxRecDepth 100000 in
theorem kZ_key (x : Int) : WideAt.IsKeyLit (kZ x) := by unfold kZ WideAt.IsKeyLit; trivial
set_option maxRecDepth 100000 in
theorem kZ_ne {x y : Int} (h : x ≠ y) : kZ x ≠ kZ y := fun e => h (by unfold kZ at e; injection e)
/-- A map that holds f. -/
structure MF (D : DataW Unit) (f : Int → Option Int) : Prop where
  td : Tidy D
  hs : ∀ x, Maps.has D (kZ x) = (f x).isSome
  at_ : ∀ x, D.atKey (kZ x) (.lit (kZ 0)) = .lit (kZ ((f x).getD 0))
def putF (f : Int → Option Int) (x d : Int) : Int → Option Int := fun u => if u = x then some d else f u
set_option maxRecDepth 100000 in
theorem putF_same (f : Int → Option Int) (x d : Int) : putF f x d x = some d := by unfold putF; rw [if_pos rfl]
set_option maxRecDepth 100000 in
theorem putF_other (f : Int → Option Int) (x d : Int) {y : Int} (h : y ≠ x) : putF f x d y = f y := by unfold putF; rw [if_neg h]
set_option maxRecDepth 100000 in
theorem MF.nil : MF (.map []) (fun _ => none) := ⟨tidy_empty, fun _ => rfl, fun _ => rfl⟩
set_option maxRecDepth 100000 in
theorem MF.put {D : DataW Unit} {f : Int → Option Int} (h : MF D f) (x d : Int) : MF (D.put (kZ x) (.lit (kZ d))) (putF f x d) := by
  refine ⟨h.td.put (kZ_key x) _, fun y => ?_, fun y => ?_⟩
  · by_cases e : y = x
    · subst e
      rw [has_put_same h.td.isMap (kZ_key y), putF_same]
      rfl
    · rw [has_put_other (kZ_ne e), h.hs, putF_other f x d e]
  · by_cases e : y = x
    · subst e
      rw [putF_same]
      exact atKey_put_same h.td.isMap (kZ_key y) _ _
    · rw [atKey_put_other (kZ_ne e), h.at_, putF_other f x d e]
set_option maxRecDepth 100000 in
theorem lawZ : Keyed Try.prog 3 := int_keyed Try.underlying3
set_option maxRecDepth 100000 in
theorem zeroZ (w : World) : (zeroValue 3).run Try.prog w = .ok (.int .i64 0) w := by kernel_rfl
set_option maxRecDepth 100000 in
theorem wfZ {x : Int} (h : I64 x) : (Lit.int .i64 x).wf = true := by
  unfold I64 at h
  simp [Lit.wf, IntKind.min, IntKind.max, IntKind.bits, IntKind.signed]
  omega
/-- Block b is a map that holds f, written at most n times. -/
def OMp (w : World) (b n : Nat) (f : Int → Option Int) : Prop := ∃ D : DataW Unit, w.ownsMap Try.prog 3 (plainElem Try.prog 3) b n D ∧ MF D f
set_option maxRecDepth 100000 in
theorem OMp.kept {w w' : World} {b n : Nat} {f : Int → Option Int} {r : Option Nat} (h : OMp w b n f) (g : w.grownBy w' r) (hr : some b ≠ r) : OMp w' b n f := by
  obtain ⟨D, h1, h2⟩ := h
  exact ⟨D, h1.kept g hr, h2⟩
set_option maxRecDepth 100000 in
theorem OMp.lt {w : World} {b n : Nat} {f : Int → Option Int} (h : OMp w b n f) : b < w.heap.size := by
  obtain ⟨D, h1, h2⟩ := h
  exact h1.lt
set_option maxRecDepth 100000 in
theorem OMp.mono {w : World} {b n m : Nat} {f : Int → Option Int} (h : OMp w b n f) (hn : n ≤ m) : OMp w b m f := by
  obtain ⟨D, h1, h2⟩ := h
  exact ⟨D, h1.mono hn, h2⟩
set_option maxRecDepth 100000 in
theorem OMp.made (w : World) : OMp (w.alloc (.map #[] 0)) w.heap.size 0 (fun _ => none) := ⟨_, World.ownsMap_made w _ _ _, MF.nil⟩
set_option maxRecDepth 100000 in
theorem OMp.put {w : World} {b n : Nat} {f : Int → Option Int} (h : OMp w b n f) (hn : n ≤ 1000000) {x d : Int} (hx : I64 x) (hd : I64 d) :
    ∃ w', (Instr.mapUpdate 69 (.map (some b)) (.int .i64 x) (.int .i64 d)).run Try.prog w = .ok () w' ∧ OMp w' b (n + 1) (putF f x d) ∧ w.grownBy w' (some b) := by
  obtain ⟨D, h1, h2⟩ := h
  obtain ⟨w', r1, r2, r3⟩ := h1.update (t := 69) lawZ Try.underlying69 (by unfold maxLen; omega) (keyOf_int_mk Try.underlying3 (wfZ hx)) (plainElem_int Try.underlying3 (wfZ hd))
  exact ⟨w', r1, ⟨_, r2, h2.put x d⟩, r3⟩
/-- A map value: nil, or a block that meets q. -/
def MV (w : World) (q : Nat → Prop) (v : Value) (f : Int → Option Int) : Prop :=
  (v = .map none ∧ ∀ x, f x = none) ∨ ∃ b n, v = .map (some b) ∧ q b ∧ n ≤ 1000000 ∧ OMp w b n f
set_option maxRecDepth 100000 in
theorem MV.grown {w w' : World} {q : Nat → Prop} {v : Value} {f : Int → Option Int} {r : Option Nat} (h : MV w q v f) (g : w.grownBy w' r) (hr : ∀ b, q b → some b ≠ r) : MV w' q v f := by
  rcases h with h | ⟨b, n, e, hq, hn, h⟩
  · exact .inl h
  · exact .inr ⟨b, n, e, hq, hn, h.kept g (hr b hq)⟩
set_option maxRecDepth 100000 in
theorem MV.keep {w w' : World} {q : Nat → Prop} {v : Value} {f : Int → Option Int} (h : MV w q v f) (g : w.grownBy w' none) : MV w' q v f := h.grown g (fun _ _ => by simp)
set_option maxRecDepth 100000 in
theorem MV.mono {w : World} {q q' : Nat → Prop} {v : Value} {f : Int → Option Int} (h : MV w q v f) (hq : ∀ b, q b → b < w.heap.size → q' b) : MV w q' v f := by
  rcases h with h | ⟨b, n, e, h1, hn, h⟩
  · exact .inl h
  · exact .inr ⟨b, n, e, hq b h1 h.lt, hn, h⟩
set_option maxRecDepth 100000 in
theorem OMp.look {w : World} {b n : Nat} {f : Int → Option Int} (h : OMp w b n f) {x : Int} (hx : I64 x) :
    (Instr.lookup 69 (.map (some b)) (.int .i64 x) false).run Try.prog w = .ok (.int .i64 ((f x).getD 0)) w ∧ (Instr.lookup 69 (.map (some b)) (.int .i64 x) true).run Try.prog w = .ok (.tuple #[.int .i64 ((f x).getD 0), .bool (f x).isSome]) w := by
  obtain ⟨D, h1, h2⟩ := h
  have hk := keyOf_int_mk Try.underlying3 (wfZ hx)
  have ha := h2.at_ x
  constructor
  · obtain ⟨c, hrun, hat, -⟩ := h1.lookup_int (t := 69) lawZ Try.underlying69 Try.underlying3 (zeroZ _) hk
    rw [show (DataW.lit (kZ 0) : DataW Unit) = .lit (.int .i64 0) from rfl, show kZ x = .int .i64 x from rfl, hat] at ha
    unfold kZ at ha
    injection ha with ha
    injection ha with _ ha
    rw [hrun, ha]
  · obtain ⟨v, ps, hrun, hv⟩ := h1.look_ok (t := 69) lawZ Try.underlying69 (zeroZ _) (plainElem_int Try.underlying3 (q := .i64) (a := 0) (by decide)) hk
    obtain ⟨c, rfl, hc, -⟩ := plainElem_int_inv Try.underlying3 hv
    have hc1 := congrArg Prod.fst hc
    simp only at hc1
    rw [show (DataW.lit (kZ 0) : DataW Unit) = .lit (.int .i64 0) from rfl, show kZ x = .int .i64 x from rfl, hc1] at ha
    unfold kZ at ha
    injection ha with ha
    injection ha with _ ha
    rw [hrun, ← ha, ← h2.hs x]
    rfl
set_option maxRecDepth 100000 in
theorem MV.look {w : World} {q : Nat → Prop} {v : Value} {f : Int → Option Int} (h : MV w q v f) {x : Int} (hx : I64 x) :
    (Instr.lookup 69 v (.int .i64 x) false).run Try.prog w = .ok (.int .i64 ((f x).getD 0)) w ∧ (Instr.lookup 69 v (.int .i64 x) true).run Try.prog w = .ok (.tuple #[.int .i64 ((f x).getD 0), .bool (f x).isSome]) w := by
  rcases h with ⟨rfl, hn⟩ | ⟨b, n, rfl, -, -, h⟩
  · have hk := keyOf_int_mk Try.underlying3 (wfZ hx)
    rw [hn x]
    exact ⟨look_nil false lawZ Try.underlying69 (zeroZ w) hk, look_nil true lawZ Try.underlying69 (zeroZ w) hk⟩
  · exact h.look hx
set_option maxRecDepth 100000 in
/-- The map's keys, in whatever order they come. -/
theorem OMp.keys {w : World} {b n : Nat} {f : Int → Option Int} {D : DataW Unit} (h1 : w.ownsMap Try.prog 3 (plainElem Try.prog 3) b n D) (h2 : MF D f) {ss : List Int} (hp : ss.Perm (intKeys D)) : ss.Nodup ∧ ∀ x, x ∈ ss ↔ (f x).isSome = true := by
  obtain ⟨es, hD, hpw, _⟩ := h1.entries lawZ
  obtain ⟨es', hD', hko⟩ := h1.keysOf
  obtain rfl : es = es' := by rw [hD] at hD'; simpa using hD'
  subst hD
  have hk : ∀ p ∈ es, ∃ x, p.1 = .int .i64 x := fun p hp => by
    obtain ⟨v, hv⟩ := hko p hp
    obtain ⟨x, _, hx, _⟩ := Maps.keyOf_i64 Try.underlying3 hv
    exact ⟨x, hx⟩
  have hnd : (intKeys (.map es)).Nodup := by
    show (es.map fun p => Go.intOf p.1).Nodup
    refine List.pairwise_map.2 (hpw.imp_of_mem fun {p q} hp' hq' hne e => hne ?_)
    obtain ⟨a, ha⟩ := hk p hp'
    obtain ⟨b, hb⟩ := hk q hq'
    rw [ha, hb] at e ⊢
    exact congrArg _ e
  refine ⟨(hp.nodup_iff).2 hnd, fun x => ?_⟩
  rw [hp.mem_iff, ← h2.hs x, has_eq, List.any_eq_true]
  show x ∈ es.map (fun p => Go.intOf p.1) ↔ _
  rw [List.mem_map]
  constructor
  · rintro ⟨p, hp', rfl⟩
    obtain ⟨a, ha⟩ := hk p hp'
    exact ⟨p, hp', by rw [ha]; simp [Lit.sameKey, Go.intOf, kZ]⟩
  · rintro ⟨p, hp', hs⟩
    obtain ⟨a, ha⟩ := hk p hp'
    rw [ha] at hs
    exact ⟨p, hp', by rw [ha]; simpa [Lit.sameKey, Go.intOf, kZ] using hs⟩
end Go.Proofs.Ytlefjdglcdopeaa

/- The reference's Has and Named; Same of equal topologies. -/
namespace Go.Proofs.Ytlefjdglcdopeaa
open Go.RowKit Bs
set_option maxRecDepth 100000 in
set_option maxHeartbeats 1600000 in
theorem rhas4_any (X : List Int) (x : Int) (p : Option Addr) (c : Nat) (q : Nat → Prop) (w : World) (hR : Rd w q (.slice p X.length c) (X.map tv)) (hm : X.length ≤ 9223372036854775807) :
    Calls Try.prog 35 #[.slice p X.length c, .int .i64 x] w fun e w' => e = .returned (.bool (hasI X x)) ∧ w = w' := by
  have HR := Lib.hid hR
  have HN0 : Hid ((X.take 0).any (fun y => decide (y = x)) = false) := Lib.hid rfl
  clear hR
  go_enter Try.func35, Try.ntmps35
  go_wp2_with fail
  go_loopw [5] (fun a wr => ∃ k : Nat, k ≤ X.length ∧ a = .int .i64 (k : Int) ∧ Hid ((X.take k).any (fun y => decide (y = x)) = false) ∧ wr = w) (fun a _ => X.length - (RowKit.intOf a).toNat)
  case atStart => exact ⟨0, Nat.zero_le _, rfl, HN0, rfl⟩
  case round =>
    obtain ⟨k, hk, rfl, HN, rfl⟩ := hrel
    by_cases hlt : k < X.length
    · obtain ⟨-, b, off, rfl, -, hc⟩ := rdi_at HR.out (by omega)
      obtain ⟨y, hy⟩ : ∃ y, X[k]? = some y := ⟨_, List.getElem?_eq_getElem hlt⟩
      have d0 := hc k y hy
      have HY := Lib.hid hy
      clear hc hy HN0
      by_cases hyx : y = x
      · have HT : Hid (hasI X x = true) := Lib.hid (any_at HY.out (decide_eq_true hyx))
        subst hyx
        go_wp2_with fail
        go_ret
        rw [HT.out]
        exact ⟨rfl, rfl⟩
      · have HN2 := Lib.hid (any_take HN.out HY.out (decide_eq_false hyx))
        have h' : (y == x) = false := by simpa using hyx
        go_wp2_with fail
        exact ⟨⟨k + 1, by omega, congrArg _ (by omega), HN2, (by first | rfl | trivial)⟩, by simp only [RowKit.intOf]; omega⟩
    · have HT : Hid (hasI X x = false) := Lib.hid (any_end HN.out (by omega))
      obtain rfl : k = X.length := by omega
      go_wp2_with fail
      go_ret
      rw [HT.out]
      exact ⟨rfl, rfl⟩
/-- A hop names the ends, in either direction. -/
def isB (a b : Int) (h : Hp) : Bool := isH a b h || isH b a h
def nmH (H : List Hp) (a b : Int) : Bool := H.any (isB a b)
set_option maxRecDepth 100000 in
theorem nmH_eq (a b : Int) : ∀ H : List Hp, nmH H a b = (H.any (isH a b) || H.any (isH b a))
  | [] => rfl
  | h :: t => by
    have := nmH_eq a b t
    unfold nmH at this ⊢
    rw [List.any_cons, List.any_cons, List.any_cons, this]
    unfold isB
    cases isH a b h <;> cases isH b a h <;> simp
set_option maxRecDepth 100000 in
set_option maxHeartbeats 3200000 in
theorem rnamed_any (H : List Hp) (a b : Int) (p : Option Addr) (c : Nat) (q : Nat → Prop) (w : World) (hR : RdH w q (.slice p H.length c) H) (hm : H.length ≤ 9223372036854775807) :
    Calls Try.prog 59 #[.slice p H.length c, .int .i64 a, .int .i64 b] w fun e w' => e = .returned (.bool (nmH H a b)) ∧ w = w' := by
  have HR := Lib.hid hR
  have HN0 : Hid ((H.take 0).any (isB a b) = false) := Lib.hid rfl
  clear hR
  go_enter Try.func59, Try.ntmps59
  go_wp2_with fail
  go_loopw [7] (fun i wr => ∃ k : Nat, k ≤ H.length ∧ i = .int .i64 (k : Int) ∧ Hid ((H.take k).any (isB a b) = false) ∧ wr = w) (fun i _ => H.length - (RowKit.intOf i).toNat)
  case atStart => exact ⟨0, Nat.zero_le _, rfl, HN0, rfl⟩
  case round =>
    obtain ⟨k, hk, rfl, HN, rfl⟩ := hrel
    by_cases hlt : k < H.length
    · obtain ⟨-, b1, off, rfl, -, hc⟩ := rdh_cells HR.out (by omega)
      obtain ⟨y, hy⟩ : ∃ y, H[k]? = some y := ⟨_, List.getElem?_eq_getElem hlt⟩
      obtain ⟨d0, d1⟩ := hc k y hy
      have HY := Lib.hid hy
      clear hc hy HN0
      have HB : Hid (isB a b y = ((y.f == a && y.t == b) || (y.f == b && y.t == a))) := Lib.hid (by
        unfold isB isH
        simp only [Bool.decide_and]
        rfl)
      have HT : Hid (isB a b y = true → nmH H a b = true) := Lib.hid (fun h => any_at HY.out h)
      have HF : Hid (isB a b y = false → (H.take (k + 1)).any (isB a b) = false) := Lib.hid (fun h => any_take HN.out HY.out h)
      cases h1 : (y.f == a) <;> cases h2 : (y.t == b) <;> cases h3 : (y.f == b) <;> cases h4 : (y.t == a) <;>
      (rw [h1, h2, h3, h4] at HB
       go_wp2_with fail
       first
        | (have HN2 := Lib.hid (HF.out (HB.out.trans rfl)); exact ⟨⟨k + 1, by omega, congrArg _ (by omega), HN2, (by first | rfl | trivial)⟩, by simp only [RowKit.intOf]; omega⟩)
        | (go_ret; rw [HT.out (HB.out.trans rfl)]; exact ⟨rfl, rfl⟩))
    · have HT : Hid (nmH H a b = false) := Lib.hid (any_end HN.out (by omega))
      obtain rfl : k = H.length := by omega
      go_wp2_with fail
      go_ret
      rw [HT.out]
      exact ⟨rfl, rfl⟩
end Go.Proofs.Ytlefjdglcdopeaa

/- topology: Without, the walk. -/
namespace Go.Proofs.Ytlefjdglcdopeaa
open Go.RowKit Bs
end Go.Proofs.Ytlefjdglcdopeaa

/- slices.Sort of at most twelve numbers of the call's own. -/
namespace Go.Proofs.Ytlefjdglcdopeaa
open Go.RowKit Bs
set_option maxRecDepth 100000 in
theorem getD_set (l : List Int) (i j : Nat) (a : Int) (hi : i < l.length) : (l.set i a).getD j 0 = if i = j then a else l.getD j 0 := by
  rw [List.getD_eq_getElem?_getD, List.getElem?_set, List.getD_eq_getElem?_getD]
  by_cases e : i = j
  · subst e
    simp [hi]
  · simp [e]
/-- While numbers are sorted. -/
structure SK (w : World) (base g c n : Nat) (l d : List Int) (wr : World) : Prop where
  own : wr.ownsRow base 3 1 (.slice (some ⟨g, 0, none⟩) n c) n (d.map tv)
  gr : w.grownBy wr (some g)
  len : d.length = n
  perm : d.Perm l
set_option maxRecDepth 100000 in
theorem SK.drew {w wr : World} {base g c n : Nat} {l d : List Int} (h : SK w base g c n l d wr) : SK w base g c n l d wr.drew := ⟨h.own.drew, grown_drew h.gr, h.len, h.perm⟩
set_option maxRecDepth 100000 in
theorem SK.at_ {w wr : World} {base g c n : Nat} {l d : List Int} (h : SK w base g c n l d wr) {j : Nat} (hj : j < n) : wr.cell? ⟨g, j, none⟩ = some (.int .i64 (d.getD j 0)) := by
  have h1 := h.own.cellAt j (by omega)
  rw [h1]
  have hl := h.len
  rw [List.getElem?_map, List.getD_eq_getElem?_getD, List.getElem?_eq_getElem (by omega)]
  rfl
def toS (d : List Int) (i : Nat) : Prop := ∀ p q, p < q → q < i → d.getD p 0 ≤ d.getD q 0
def almS (d : List Int) (i j : Nat) : Prop := ∀ p q, p < q → q ≤ i → q ≠ j → d.getD p 0 ≤ d.getD q 0
def swp (d : List Int) (j : Nat) : List Int := (d.set (j + 1) (d.getD j 0)).set j (d.getD (j + 1) 0)
set_option maxRecDepth 100000 in
theorem swp_len (d : List Int) (j : Nat) : (swp d j).length = d.length := by unfold swp; simp
set_option maxRecDepth 100000 in
theorem swp_getD {d : List Int} {j : Nat} (hj : j + 1 < d.length) (k : Nat) : (swp d j).getD k 0 = if j = k then d.getD (j + 1) 0 else if j + 1 = k then d.getD j 0 else d.getD k 0 := by
  unfold swp
  rw [getD_set _ _ _ _ (by rw [List.length_set]; omega), getD_set _ _ _ _ hj]
set_option maxRecDepth 100000 in
theorem swp_perm {d : List Int} {j : Nat} (hj : j + 1 < d.length) : (swp d j).Perm d := by
  unfold swp
  have e1 : d.getD j 0 = d[j]'(by omega) := by rw [List.getD_eq_getElem?_getD, List.getElem?_eq_getElem (by omega)]; rfl
  have e2 : d.getD (j + 1) 0 = d[j + 1]'hj := by rw [List.getD_eq_getElem?_getD, List.getElem?_eq_getElem hj]; rfl
  rw [e1, e2]
  exact List.set_set_perm hj (by omega)
set_option maxRecDepth 100000 in
theorem swp_alm {d : List Int} {i j : Nat} (hj : j + 1 ≤ i) (hi : i < d.length) (h : almS d i (j + 1)) (hlt : d.getD (j + 1) 0 < d.getD j 0) : almS (swp d j) i j := by
  intro p q hpq hq hqj
  have hjl : j + 1 < d.length := by omega
  have hP := swp_getD hjl p
  have hQ := swp_getD hjl q
  have hPQ : (swp d j).getD p 0 = (if p = j then d.getD (j + 1) 0 else if p = j + 1 then d.getD j 0 else d.getD p 0) := by
    rw [hP]
    by_cases e2 : j = p
    · rw [if_pos e2, if_pos e2.symm]
    · rw [if_neg e2, if_neg (show ¬ p = j from fun e => e2 e.symm)]
      by_cases e3 : j + 1 = p
      · rw [if_pos e3, if_pos e3.symm]
      · rw [if_neg e3, if_neg (show ¬ p = j + 1 from fun e => e3 e.symm)]
  rw [hPQ]
  clear hP hPQ
  by_cases e1 : j + 1 = q
  · rw [if_neg (fun e => hqj e.symm), if_pos e1] at hQ
    rw [hQ]
    by_cases e2 : p = j
    · rw [if_pos e2]; omega
    · rw [if_neg e2, if_neg (by omega)]
      exact h p j (by omega) (by omega) (by omega)
  · rw [if_neg (fun e => hqj e.symm), if_neg e1] at hQ
    rw [hQ]
    by_cases e2 : p = j
    · rw [if_pos e2]
      exact h (j + 1) q (by omega) hq (fun e => e1 e.symm)
    · rw [if_neg e2]
      by_cases e3 : p = j + 1
      · rw [if_pos e3]
        exact h j q (by omega) hq (fun e => e1 e.symm)
      · rw [if_neg e3]
        exact h p q hpq hq (fun e => e1 e.symm)
set_option maxRecDepth 100000 in
theorem alm_end {d : List Int} {i j : Nat} (h : almS d i j) (he : j = 0 ∨ d.getD (j - 1) 0 ≤ d.getD j 0) : toS d (i + 1) := by
  intro p q hpq hq
  by_cases e : q = j
  · subst e
    rcases he with he | he
    · omega
    · by_cases e2 : p = q - 1
      · rw [e2]; exact he
      · exact Int.le_trans (h p (q - 1) (by omega) (by omega) (by omega)) he
  · exact h p q hpq (by omega) e
set_option maxRecDepth 100000 in
theorem SK.swap {w wr : World} {base g c n : Nat} {l d : List Int} (h : SK w base g c n l d wr) {j : Nat} (hj : j + 1 < n) :
    SK w base g c n l (swp d j) ((wr.setCell ⟨g, j + 1, none⟩ (.int .i64 (d.getD j 0))).setCell ⟨g, j, none⟩ (.int .i64 (d.getD (j + 1) 0))) := by
  obtain ⟨k1, k2⟩ := h.own.stored (j + 1) (.int .i64 (d.getD j 0))
  obtain ⟨k3, k4⟩ := k1.stored j (.int .i64 (d.getD (j + 1) 0))
  refine ⟨?_, grown_trans (grown_trans h.gr k2) k4, by rw [swp_len]; exact h.len, (swp_perm (by rw [h.len]; exact hj)).trans h.perm⟩
  unfold swp
  rw [List.map_set, List.map_set]
  exact k3
def SrtPost (base g c n : Nat) (l : List Int) (w : World) (e : Ending) (w' : World) : Prop := ∃ d, Hid (SK w base g c n l d w' ∧ toS d n) ∧ e = .returned (.tuple #[])
end Go.Proofs.Ytlefjdglcdopeaa

/- slices.Sort of at most twelve numbers. -/
namespace Go.Proofs.Ytlefjdglcdopeaa
open Go.RowKit Bs
def SomeI (w : World) (e : Ending) (w' : World) : Prop := ∃ k : Int, e = .returned (.int .i64 k) ∧ w = w'
set_option maxRecDepth 100000 in
set_option maxHeartbeats 3200000 in
theorem tlen64_any (n : Nat) (hn : n ≤ 12) (w : World) : Calls Try.prog 107 #[.int .u64 (n : Int)] w fun e w' => SomeI w e w' := by
  rcases (show n = 0 ∨ n = 1 ∨ n = 2 ∨ n = 3 ∨ n = 4 ∨ n = 5 ∨ n = 6 ∨ n = 7 ∨ n = 8 ∨ n = 9 ∨ n = 10 ∨ n = 11 ∨ n = 12 by omega) with rfl | rfl | rfl | rfl | rfl | rfl | rfl | rfl | rfl | rfl | rfl | rfl | rfl
  all_goals
    go_enter Try.func107, Try.ntmps107
    go_wp2_with fail
    go_ret
    exact ⟨_, rfl, rfl⟩
set_option maxRecDepth 100000 in
set_option maxHeartbeats 3200000 in
theorem tlen_any (n : Nat) (hn : n ≤ 12) (w : World) : Calls Try.prog 96 #[.int .u64 (n : Int)] w fun e w' => SomeI w e w' := by
  go_enter Try.func96, Try.ntmps96
  go_wp2_with fail
  refine (tlen64_any n hn w).mono ?_
  rintro e w' ⟨k, rfl, rfl⟩
  go_wp2_with fail
  go_ret
  exact ⟨k, rfl, rfl⟩
/-- Insertion sort, as a function. -/
def insI (x : Int) : List Int → List Int
  | [] => [x]
  | y :: l => if x ≤ y then x :: y :: l else y :: insI x l
def srt : List Int → List Int
  | [] => []
  | x :: l => insI x (srt l)
set_option maxRecDepth 100000 in
theorem insI_perm (x : Int) : ∀ l, (insI x l).Perm (x :: l)
  | [] => List.Perm.refl _
  | y :: l => by
    rw [insI]
    split
    · exact List.Perm.refl _
    · exact ((insI_perm x l).cons y).trans (List.Perm.swap x y l)
set_option maxRecDepth 100000 in
theorem srt_perm : ∀ l, (srt l).Perm l
  | [] => List.Perm.refl _
  | x :: l => (insI_perm x _).trans ((srt_perm l).cons x)
set_option maxRecDepth 100000 in
theorem insI_sorted (x : Int) : ∀ l : List Int, l.Pairwise (· ≤ ·) → (insI x l).Pairwise (· ≤ ·)
  | [], _ => by simp [insI]
  | y :: l, h => by
    rw [insI]
    split
    · rename_i hxy
      rw [List.pairwise_cons]
      refine ⟨fun z hz => ?_, h⟩
      rcases List.mem_cons.1 hz with rfl | hz
      · exact hxy
      · exact Int.le_trans hxy ((List.pairwise_cons.1 h).1 z hz)
    · rename_i hxy
      rw [List.pairwise_cons]
      refine ⟨fun z hz => ?_, insI_sorted x l (List.pairwise_cons.1 h).2⟩
      have := (insI_perm x l).mem_iff.1 hz
      rcases List.mem_cons.1 this with rfl | hz
      · omega
      · exact (List.pairwise_cons.1 h).1 z hz
set_option maxRecDepth 100000 in
theorem srt_sorted : ∀ l, (srt l).Pairwise (· ≤ ·)
  | [] => List.Pairwise.nil
  | x :: l => insI_sorted x _ (srt_sorted l)
set_option maxRecDepth 100000 in
theorem sorted_unique : ∀ l m : List Int, l.Pairwise (· ≤ ·) → m.Pairwise (· ≤ ·) → l.Perm m → l = m
  | [], m, _, _, h => (List.Perm.nil_eq h)
  | x :: l, [], _, _, h => by have := h.length_eq; simp at this
  | x :: l, y :: m, h1, h2, h => by
    have hx : x ∈ y :: m := h.mem_iff.1 List.mem_cons_self
    have hy : y ∈ x :: l := h.mem_iff.2 List.mem_cons_self
    have e : x = y := by
      rcases List.mem_cons.1 hx with e | hx
      · exact e
      · rcases List.mem_cons.1 hy with e | hy
        · exact e.symm
        · have a := (List.pairwise_cons.1 h1).1 y hy
          have b := (List.pairwise_cons.1 h2).1 x hx
          omega
    subst e
    rw [sorted_unique l m (List.pairwise_cons.1 h1).2 (List.pairwise_cons.1 h2).2 (List.Perm.cons_inv h)]
set_option maxRecDepth 100000 in
theorem toS_pairwise {d : List Int} (h : toS d d.length) : d.Pairwise (· ≤ ·) := by
  rw [List.pairwise_iff_getElem]
  intro i j hi hj hij
  have := h i j hij hj
  rw [List.getD_eq_getElem?_getD, List.getD_eq_getElem?_getD, List.getElem?_eq_getElem hi, List.getElem?_eq_getElem hj] at this
  exact this
set_option maxRecDepth 100000 in
theorem srt_of {l d : List Int} (h1 : d.Perm l) (h2 : toS d d.length) : d = srt l := sorted_unique _ _ (toS_pairwise h2) (srt_sorted l) (h1.trans (srt_perm l).symm)
end Go.Proofs.Ytlefjdglcdopeaa

/- shortest.nearest. -/
namespace Go.Proofs.Ytlefjdglcdopeaa
open Go.RowKit Go.Maps Bs
/-- The element at i has the least cost. -/
def LeastAt (l : List Int) (g : Int → Int) (i : Nat) : Prop := ∃ r, l[i]? = some r ∧ ∀ x ∈ l, g r ≤ g x
set_option maxRecDepth 100000 in
theorem leastq_ex (g : Int → Int) : ∀ l : List Int, l ≠ [] → ∃ r ∈ l, ∀ x ∈ l, g r ≤ g x
  | [], h => absurd rfl h
  | [a], _ => ⟨a, by simp, fun x hx => by rw [List.mem_singleton.1 hx]; exact Int.le_refl _⟩
  | a :: b :: t, _ => by
    obtain ⟨r, hr, hm⟩ := leastq_ex g (b :: t) (by simp)
    rcases Int.le_total (g a) (g r) with h | h
    · refine ⟨a, by simp, fun x hx => ?_⟩
      rcases List.mem_cons.1 hx with rfl | hx
      · exact Int.le_refl _
      · exact Int.le_trans h (hm x hx)
    · refine ⟨r, List.mem_cons_of_mem _ hr, fun x hx => ?_⟩
      rcases List.mem_cons.1 hx with rfl | hx
      · exact h
      · exact hm x hx
/-- None of the first k has the least cost. -/
def NoneLeast (l : List Int) (g : Int → Int) (k : Nat) : Prop := ∀ j x, j < k → l[j]? = some x → ∃ y ∈ l, g y < g x
set_option maxRecDepth 100000 in
theorem NoneLeast.next {l : List Int} {g : Int → Int} {k : Nat} {x y : Int} (h : NoneLeast l g k) (hx : l[k]? = some x) (hy : y ∈ l) (hlt : g y < g x) : NoneLeast l g (k + 1) := fun j z hj hz => by
  rcases Nat.lt_or_ge j k with h1 | h1
  · exact h j z h1 hz
  · obtain rfl : j = k := by omega
    rw [hx] at hz
    obtain rfl := Option.some.inj hz
    exact ⟨y, hy, hlt⟩
set_option maxRecDepth 100000 in
theorem NoneLeast.all {l : List Int} {g : Int → Int} (h : NoneLeast l g l.length) : l = [] := by
  cases hl : l with
  | nil => rfl
  | cons a t =>
    obtain ⟨r, hr, hm⟩ := leastq_ex g l (by rw [hl]; simp)
    obtain ⟨j, hj, he⟩ := List.mem_iff_getElem.1 hr
    obtain ⟨y, hy, hlt⟩ := h j r hj (by rw [List.getElem?_eq_getElem hj, he])
    have := hm y hy
    omega
def NstPost (l : List Int) (g : Int → Int) (w : World) (e : Ending) (w' : World) : Prop := w = w' ∧ ((l = [] ∧ e = .returned (.tuple #[.int .i64 0, .bool false])) ∨ ∃ i : Nat, LeastAt l g i ∧ e = .returned (.tuple #[.int .i64 (i : Int), .bool true]))
set_option maxRecDepth 100000 in
set_option maxHeartbeats 3200000 in
theorem tnst_any (l : List Int) (f : Int → Option Int) (v : Value) (p : Option Addr) (c : Nat) (q q2 : Nat → Prop) (w : World) (hR : Rd w q (.slice p l.length c) (l.map tv)) (hM : MV w q2 v f) (hI : ∀ x ∈ l, I64 x) (hm : l.length ≤ 1000) :
    Calls Try.prog 81 #[.slice p l.length c, v] w fun e w' => NstPost l (fun x => (f x).getD 0) w e w' := by
  obtain ⟨g, hg⟩ : ∃ g : Int → Int, (fun x => (f x).getD 0) = g := ⟨_, rfl⟩
  have HL : Hid (∀ x ∈ l, (Instr.lookup 69 v (.int .i64 x) false).run Try.prog w = .ok (.int .i64 (g x)) w) := Lib.hid (fun x hx => by rw [← hg]; exact (hM.look (hI x hx)).1)
  have HR := Lib.hid hR
  have HN0 : Hid (NoneLeast l g 0) := Lib.hid (fun j x hj => absurd hj (by omega))
  rw [hg]
  clear hR hM hI hg
  go_enter Try.func81, Try.ntmps81
  go_wp2_with fail
  go_step3
  go_wp2_with fail
  go_step3
  go_wp2_with fail
  go_loopw [12] (fun a wr => ∃ k : Nat, k ≤ l.length ∧ a = .int .i64 (k : Int) ∧ Hid (NoneLeast l g k) ∧ wr = w) (fun a _ => l.length - (RowKit.intOf a).toNat)
  case atStart => exact ⟨0, Nat.zero_le _, rfl, HN0, rfl⟩
  case round =>
    obtain ⟨k, hk, rfl, HN, rfl⟩ := hrel
    clear HN0
    by_cases hlt : k < l.length
    · obtain ⟨-, b, off, rfl, -, hc⟩ := rdi_at HR.out (by omega)
      obtain ⟨x, hx⟩ : ∃ x, l[k]? = some x := ⟨_, List.getElem?_eq_getElem hlt⟩
      have d0 := hc k x hx
      have HX := Lib.hid hx
      have HC := Lib.hid hc
      have q0 := HL.out x (List.mem_of_getElem? hx)
      have HJ0 : Hid (∀ j y, j < 0 → l[j]? = some y → g x ≤ g y) := Lib.hid (fun j y hj => absurd hj (by omega))
      clear hc hx
      go_wp2_with fail
      go_loopw [19] (fun a wq => ∃ j : Nat, j ≤ l.length ∧ a = .int .i64 (j : Int) ∧ Hid (∀ i y, i < j → l[i]? = some y → g x ≤ g y) ∧ wq = wr) (fun a _ => l.length - (RowKit.intOf a).toNat)
      case atStart => exact ⟨0, Nat.zero_le _, rfl, HJ0, rfl⟩
      case round =>
        obtain ⟨j, hj, rfl, HJ, rfl⟩ := hrel
        clear HJ0
        by_cases hlt2 : j < l.length
        · obtain ⟨y, hy⟩ : ∃ y, l[j]? = some y := ⟨_, List.getElem?_eq_getElem hlt2⟩
          have d1 := HC.out j y hy
          have HY := Lib.hid hy
          have q1 := HL.out y (List.mem_of_getElem? hy)
          clear hy
          by_cases hgt : g y < g x
          · have HN2 := Lib.hid (HN.out.next HX.out (List.mem_of_getElem? HY.out) hgt)
            go_wp2_with fail
            exact ⟨⟨k + 1, by omega, congrArg _ (by omega), HN2, (by first | rfl | trivial)⟩, by simp only [RowKit.intOf]; omega⟩
          · have HJ2 : Hid (∀ i y, i < j + 1 → l[i]? = some y → g x ≤ g y) := Lib.hid (fun i z hi hz => by
              rcases Nat.lt_or_ge i j with h1 | h1
              · exact HJ.out i z h1 hz
              · obtain rfl : i = j := by omega
                rw [HY.out] at hz
                obtain rfl := Option.some.inj hz
                omega)
            go_wp2_with fail
            exact ⟨⟨j + 1, by omega, congrArg _ (by omega), HJ2, (by first | rfl | trivial)⟩, by simp only [RowKit.intOf]; omega⟩
        · obtain rfl : j = l.length := by omega
          go_wp2_with fail
          rw [Exit.noGoto_ret]
          go_ret2
          exact ⟨rfl, Or.inr ⟨k, ⟨x, HX.out, fun y hy => by
            obtain ⟨i, hi, he⟩ := List.mem_iff_getElem.1 hy
            exact HJ.out i y hi (by rw [List.getElem?_eq_getElem hi, he])⟩, rfl⟩⟩
    · obtain rfl : k = l.length := by omega
      have HE := Lib.hid HN.out.all
      go_wp2_with fail
      rw [Exit.noGoto_ret]
      go_ret2
      exact ⟨rfl, Or.inl ⟨HE.out, rfl⟩⟩
end Go.Proofs.Ytlefjdglcdopeaa

/- slices.Delete of one number. -/
namespace Go.Proofs.Ytlefjdglcdopeaa
open Go.RowKit Bs
set_option maxRecDepth 100000 in
theorem zero_in : (Builtin.zeroCells (Value.int .i64 0).cells 1).toList = [.int .i64 0] := by kernel_rfl
set_option maxRecDepth 100000 in
theorem erase_map (L : List Int) (i : Nat) : (L.eraseIdx i).map tv = (L.map tv).take i ++ (L.map tv).drop (i + 1) := by
  rw [List.eraseIdx_eq_take_drop_succ, List.map_append, List.map_take, List.map_drop]
set_option maxRecDepth 100000 in
theorem deli_cells (xs zs : List Value) (N i : Nat) (hx : xs.length = N) (hz : zs.length = 1) (hi : i < N) : (setAt (setAt xs i (xs.drop (i + 1))) (N - 1) zs).take (N - 1) = xs.take i ++ xs.drop (i + 1) := by
  have hd : (xs.drop (i + 1)).length = N - (i + 1) := by rw [List.length_drop, hx]
  have hl1 : (setAt xs i (xs.drop (i + 1))).length = N := by rw [setAt_len, hx]
  refine list_eq ?_ (fun j hj => ?_)
  · rw [List.length_take, setAt_len, hl1, List.length_append, List.length_take, hd, hx]
    omega
  · rw [List.length_take, setAt_len, hl1] at hj
    rw [List.getElem?_take_of_lt (by omega), setAt_get _ _ _ _ (by rw [hl1, hz]; omega), if_neg (by omega), setAt_get _ _ _ _ (by rw [hd, hx]; omega)]
    by_cases h1 : j < i
    · rw [if_neg (by omega), List.getElem?_append_left (by rw [List.length_take, hx]; omega), List.getElem?_take_of_lt h1]
    · rw [if_pos (by rw [hd]; omega), List.getElem?_append_right (by rw [List.length_take, hx]; omega), List.length_take, hx, Nat.min_eq_left (by omega)]
set_option maxRecDepth 100000 in
set_option maxHeartbeats 3200000 in
theorem tdeli_any (L : List Int) (g cap base i : Nat) (w : World) (h : w.ownsRow base 3 1 (.slice (some ⟨g, 0, none⟩) L.length cap) L.length (L.map tv)) (hi : i < L.length) (hm : L.length ≤ 1000) :
    Calls Try.prog 82 #[.slice (some ⟨g, 0, none⟩) L.length cap, .int .i64 (i : Int), .int .i64 ((i : Int) + 1)] w fun e w' => ∃ N, N = (L.eraseIdx i).length ∧ e = .returned (.slice (some ⟨g, 0, none⟩) N cap) ∧ w'.ownsRow base 3 1 (.slice (some ⟨g, 0, none⟩) N cap) N ((L.eraseIdx i).map tv) ∧ w.grownBy w' (some g) := by
  obtain ⟨ii, hii, hi0, hi1, hi2⟩ := info_parts info_int
  have hcap : L.length ≤ cap ∧ cap ≤ 9223372036854775807 := by
    obtain ⟨p', c', e, k1, k2⟩ := own_shape h
    injection e with e1 e2 e3
    subst e3
    exact ⟨k1, k2⟩
  obtain ⟨N, hN⟩ : ∃ N, L.length = N := ⟨_, rfl⟩
  obtain ⟨K, hK⟩ : ∃ K, i + (N - (i + 1)) = K := ⟨_, rfl⟩
  have hlf : (L.map tv).length = L.length := List.length_map _
  rw [hN] at h hi hm hcap hlf ⊢
  have HN := Lib.hid (And.intro hN hK)
  have hKN : Hid (K = N - 1 ∧ N - K = 1) := Lib.hid (by omega)
  obtain ⟨xs, hxs⟩ : ∃ xs, L.map tv = xs := ⟨_, rfl⟩
  have HXS := Lib.hid (And.intro hxs (show xs.length = N by rw [← hxs]; exact hlf))
  rw [hxs] at h
  have hdl : (xs.drop (i + 1)).length = N - (i + 1) := by rw [List.length_drop, HXS.out.2]
  have H := Lib.hid h
  obtain ⟨o, HQ, HO⟩ : ∃ o, Hid ((if cap = i + 1 then some (⟨g, 0, none⟩ : Addr) else some ⟨g, (i + 1), none⟩) = some ⟨g, o, none⟩) ∧ (N - (i + 1) = 0 ∨ o = (i + 1)) := by
    by_cases hc : cap = i + 1
    · exact ⟨0, Lib.hid (by rw [if_pos hc]), Or.inl (by omega)⟩
    · exact ⟨_, Lib.hid (by rw [if_neg hc]), Or.inr rfl⟩
  -- the append
  have hone : ∀ u ∈ xs, u.oneCell' = true := fun u hu => by
    rw [← hxs] at hu
    obtain ⟨y, -, rfl⟩ := List.mem_map.1 hu
    rfl
  have hrun : ∀ ty, (Builtin.append_ #[22, 22] ty #[.slice (some ⟨g, 0, none⟩) i cap, .slice (some ⟨g, o, none⟩) (N - (i + 1)) (cap - (i + 1))]).run Try.prog w.drew = .ok (.slice (some ⟨g, 0, none⟩) (i + (N - (i + 1))) cap) (w.drew.setCells g (0 + i) (xs.drop (i + 1))) := fun ty => by
    have hr := run_append_room_cells (P := Try.prog) w.drew 22 ty 3 ii Try.underlying22 hii g 0 i cap ⟨g, o, none⟩ (N - (i + 1)) (cap - (i + 1)) (xs.drop (i + 1)) (by rw [hi1, Nat.mul_one]; exact hdl) (fun j u hj => by
      have hjl : j < N - (i + 1) := by rw [← hdl]; exact (List.getElem?_eq_some_iff.1 hj).1
      rw [add_plain, show o = (i + 1) by omega]
      rw [List.getElem?_drop] at hj
      have := h.drew.cells (g := g) rfl _ u hj
      rw [add_plain, Nat.zero_add] at this
      exact this) (fun u hu => hone u (List.mem_of_mem_drop hu)) (by omega) (fun j hj => (own_cellOk h.drew _ (by rw [hi1, hdl] at *; omega)).1) (fun j hj => (own_cellOk h.drew _ (by rw [hi1, hdl] at *; omega)).2)
    rw [hi1, Nat.mul_one] at hr
    exact hr
  obtain ⟨s1, s2⟩ := own_setCells (xs.drop (i + 1)) i w.drew xs h.drew
  have HS1 := Lib.hid (And.intro s1 (grown_trans (grown_drew (grown_refl w (some g))) s2))
  obtain ⟨w1, hw1⟩ : ∃ w1, w1 = w.drew.setCells g i (xs.drop (i + 1)) := ⟨_, rfl⟩
  rw [← hw1] at HS1
  rw [Nat.zero_add, ← hw1, hK] at hrun
  have HRUN := Lib.hid hrun
  have hclr : ∀ ty c, (Builtin.clear_ #[22] ty #[.slice (some ⟨g, K, none⟩) (N - K) c]).run Try.prog w1 = .ok (.tuple #[]) (w1.setCells g (K) (Builtin.zeroCells (Value.int .i64 0).cells 1).toList) := fun ty c => by
    rw [hKN.out.2]
    exact run_clear_k Try.underlying22 hii w1 ty _ hi0 (by rw [zero_in]; intro v hv; simp at hv; subst hv; rfl) g (K) c (fun j hj => (own_cellOk HS1.out.1 _ (by rw [zero_in] at hj; simp at hj; have := hKN.out; omega)).1) (fun j hj => (own_cellOk HS1.out.1 _ (by rw [zero_in] at hj; simp at hj; have := hKN.out; omega)).2)
  have HCLR := Lib.hid hclr
  obtain ⟨t1, t2⟩ := own_setCells (Builtin.zeroCells (Value.int .i64 0).cells 1).toList (K) w1 _ HS1.out.1
  have HT : Hid ((w1.setCells g (K) (Builtin.zeroCells (Value.int .i64 0).cells 1).toList).ownsRow base 3 1 (.slice (some ⟨g, 0, none⟩) K cap) K ((L.eraseIdx i).map tv) ∧ w.grownBy (w1.setCells g (K) (Builtin.zeroCells (Value.int .i64 0).cells 1).toList) (some g)) := Lib.hid (by
    obtain ⟨ys, hy1, hy2⟩ := own_len t1 K (by have := hKN.out; omega)
    refine ⟨?_, grown_trans HS1.out.2 t2⟩
    have e1 : min N K = K := by have := hKN.out; omega
    have hyl : ys.length = K := by have := hy2.1; omega
    rw [e1, Nat.mul_one, List.take_of_length_le (by omega), hKN.out.1, deli_cells xs _ N i HXS.out.2 (by rw [zero_in]; rfl) hi, ← HXS.out.1, ← erase_map L i] at hy1
    rw [← hy1]
    exact hy2)
  have HL : Hid (K = (L.eraseIdx i).length) := Lib.hid (by rw [List.length_eraseIdx, if_pos (by rw [HN.out.1]; exact hi), HN.out.1]; exact hKN.out.1)
  have n1 : K ≤ cap := by have := hKN.out; omega
  have n2 : (K : Int) ≤ (N : Int) := by have := hKN.out; omega
  have n3 : (N : Int) ≤ (cap : Int) := by omega
  have n4 : ¬ cap - K = 0 := by have := hKN.out; omega
  have n5 : ¬ (i : Int) = (i : Int) + 1 := by omega
  have n6 : i ≤ cap := by omega
  have n7 : (0 : Int) ≤ (i : Int) + 1 := by omega
  have n8 : (i : Int) + 1 ≤ (N : Int) := by omega
  have n9 : (i : Int) ≤ (cap : Int) := by omega
  clear HO hrun hclr s1 s2 t1 t2 hw1 h hone hdl hlf hxs hN hK
  go_enter Try.func82, Try.ntmps82
  go_upto_region 5 with fail
  refine wp_region_held_drew (S := fun _ => True) (by kernel_rfl) (trivial) (fun hHeld => ?_)
  refine wpAnyH_take (i := 0) (oi := { dst := some 20, op := Op.move (Operand.tmp 0), type := 22, pos := "slices.go:232", after := #[], guard := none }) (v := ?_) rfl (by kernel_rfl) (by kernel_rfl) (by kernel_rfl) (fun _ _ _ h => h) (Or.inl ⟨by rfl, ?_⟩) hHeld ?_
  rotate_left 1
  · intro u hSu
    go_simp
    first | done | with_reducible rfl
  (try simp only [Act.put, List.setIfInBounds_toArray, List.set_cons_zero, List.set_cons_succ])
  refine wpAnyH_take (i := 1) (oi := { dst := some 21, op := Op.move (Operand.tmp 1), type := 3, pos := "slices.go:232", after := #[], guard := none }) (v := ?_) rfl (by kernel_rfl) (by kernel_rfl) (by kernel_rfl) (fun _ _ _ h => h) (Or.inl ⟨by rfl, ?_⟩) hHeld ?_
  rotate_left 1
  · intro u hSu
    go_simp
    first | done | with_reducible rfl
  (try simp only [Act.put, List.setIfInBounds_toArray, List.set_cons_zero, List.set_cons_succ])
  refine wpAnyH_take (i := 2) (oi := { dst := some 22, op := Op.slice 22 (Operand.tmp 20) none (some (Operand.tmp 21)) none, type := 22, pos := "slices.go:232", after := #[{ on := 0, ground := Ground.data }, { on := 1, ground := Ground.data }], guard := none }) (v := ?_) rfl (by kernel_rfl) (by kernel_rfl) (by kernel_rfl) (fun _ _ _ h => h) (Or.inl ⟨by rfl, ?_⟩) hHeld ?_
  rotate_left 1
  · intro u hSu
    go_simp
    first | done | with_reducible rfl
  (try simp only [Act.put, List.setIfInBounds_toArray, List.set_cons_zero, List.set_cons_succ])
  refine wpAnyH_take (i := 3) (oi := { dst := some 23, op := Op.move (Operand.tmp 0), type := 22, pos := "slices.go:232", after := #[], guard := none }) (v := ?_) rfl (by kernel_rfl) (by kernel_rfl) (by kernel_rfl) (fun _ _ _ h => h) (Or.inl ⟨by rfl, ?_⟩) hHeld ?_
  rotate_left 1
  · intro u hSu
    go_simp
    first | done | with_reducible rfl
  (try simp only [Act.put, List.setIfInBounds_toArray, List.set_cons_zero, List.set_cons_succ])
  refine wpAnyH_take (i := 4) (oi := { dst := some 24, op := Op.move (Operand.tmp 2), type := 3, pos := "slices.go:232", after := #[], guard := none }) (v := ?_) rfl (by kernel_rfl) (by kernel_rfl) (by kernel_rfl) (fun _ _ _ h => h) (Or.inl ⟨by rfl, ?_⟩) hHeld ?_
  rotate_left 1
  · intro u hSu
    go_simp
    first | done | with_reducible rfl
  (try simp only [Act.put, List.setIfInBounds_toArray, List.set_cons_zero, List.set_cons_succ])
  refine wpAnyH_take (i := 5) (oi := { dst := some 25, op := Op.slice 22 (Operand.tmp 23) (some (Operand.tmp 24)) none none, type := 22, pos := "slices.go:232", after := #[{ on := 3, ground := Ground.data }, { on := 4, ground := Ground.data }], guard := none }) (v := (Value.slice (some ⟨g, o, none⟩) (N - (i + 1)) (cap - (i + 1)))) rfl (by kernel_rfl) (by kernel_rfl) (by kernel_rfl) (fun _ _ _ h => h) (Or.inl ⟨by rfl, ?_⟩) hHeld ?_
  · intro u hSu
    go_simp
    rw [HQ.out]
  (try simp only [Act.put, List.setIfInBounds_toArray, List.set_cons_zero, List.set_cons_succ])
  refine wpAnyH_ready (rs := [6]) (by kernel_rfl) (by simp) ?_
  refine AllReadyH.cons (o := { dst := some 26, op := Op.call { callee := Callee.builtin Builtin.append, args := #[Operand.tmp 22, Operand.tmp 25], argTypes := #[22, 22] }, type := 22, pos := "slices.go:232", after := #[{ on := 2, ground := Ground.data }, { on := 5, ground := Ground.data }], guard := none }) rfl (fun Kz hK => ?_) AllReadyH.nil
  refine step_append_run rfl _ _ _ _ rfl _ _ rfl rfl (HRUN.out _) ?_
  refine hK.out _ _ (trivial) (fun hH2 => ?_)
  clear hK Kz hHeld
  have hHeld := hH2
  clear hH2
  (try simp only [Act.put, List.setIfInBounds_toArray, List.set_cons_zero, List.set_cons_succ])
  refine wpAnyH_take (i := 7) (oi := { dst := some 0, op := Op.assign (Operand.tmp 26), type := 22, pos := "slices.go:232", after := #[{ on := 6, ground := Ground.data }, { on := 6, ground := Ground.chain }, { on := 0, ground := Ground.phase }, { on := 1, ground := Ground.phase }, { on := 2, ground := Ground.phase }, { on := 3, ground := Ground.phase }, { on := 4, ground := Ground.phase }, { on := 5, ground := Ground.phase }, { on := 6, ground := Ground.phase }], guard := none }) (v := ?_) rfl (by kernel_rfl) (by kernel_rfl) (by kernel_rfl) (fun _ _ _ h => h) (Or.inl ⟨by rfl, ?_⟩) hHeld ?_
  rotate_left 1
  · intro u hSu
    go_simp
    first | done | with_reducible rfl
  (try simp only [Act.put, List.setIfInBounds_toArray, List.set_cons_zero, List.set_cons_succ])
  refine wpAnyH_done (by kernel_rfl) ?_ _
  clear hHeld
  go_wp2_with (refine wpList_clear_run rfl _ 22 rfl _ rfl (HCLR.out _ _) ?_)
  go_wp2_with fail
  go_ret
  exact ⟨K, HL.out, rfl, HT.out⟩
end Go.Proofs.Ytlefjdglcdopeaa

/- The neighbours with which least walks go on; flipped links. -/
namespace Go.Proofs.Ytlefjdglcdopeaa
/-- Each link costs what it costs in the other direction. -/
def flipL (L : List Lk) : List Lk := L.map fun l => ⟨l.a, l.b, l.cb, l.ca, l.cp⟩
set_option maxRecDepth 100000 in
theorem edg_flip {L : List Lk} {u v c : Int} : edg (flipL L) u v c ↔ edg L v u c := by
  unfold edg flipL
  constructor
  · rintro ⟨m, hm, h⟩
    obtain ⟨l, hl, rfl⟩ := List.mem_map.1 hm
    rcases h with ⟨e1, e2, e3⟩ | ⟨e1, e2, e3⟩
    · exact ⟨l, hl, .inr ⟨e2, e1, e3⟩⟩
    · exact ⟨l, hl, .inl ⟨e2, e1, e3⟩⟩
  · rintro ⟨l, hl, h⟩
    refine ⟨_, List.mem_map.2 ⟨l, hl, rfl⟩, ?_⟩
    rcases h with ⟨e1, e2, e3⟩ | ⟨e1, e2, e3⟩
    · exact .inr ⟨e2, e1, e3⟩
    · exact .inl ⟨e2, e1, e3⟩
set_option maxRecDepth 100000 in
theorem Pos.flip {L : List Lk} (h : Pos L) : Pos (flipL L) := fun m hm => by
  obtain ⟨l, hl, rfl⟩ := List.mem_map.1 hm
  exact ⟨(h l hl).2, (h l hl).1⟩
set_option maxRecDepth 100000 in
theorem Ends.flip {L : List Lk} {V : List Int} (h : Ends L V) : Ends (flipL L) V := fun m hm => by
  obtain ⟨l, hl, rfl⟩ := List.mem_map.1 hm
  exact h l hl
/-- The program's next routers: f are the costs to the end. -/
def nextV (L : List Lk) (f : Int → Option Int) (r : Int) : List Int :=
  ((nbD L r).filter fun n => match f n.1 with
    | some x => decide (n.2 + x = (f r).getD 0)
    | none => false).map (·.1)
set_option maxRecDepth 100000 in
theorem nbD_fst (L : List Lk) (r : Int) : (nbD L r).map (·.1) = nbL L r := by
  unfold nbD nbL
  rw [List.map_flatMap]
  refine congrArg (fun g => List.flatMap g L) (funext fun l => ?_)
  unfold nb1
  rw [List.map_append]
  by_cases h1 : l.b = r <;> by_cases h2 : l.a = r <;> simp [h1, h2]
set_option maxRecDepth 100000 in
/-- A router that has a cost and is not the end goes on. -/
theorem next_some {L : List Lk} {s : Int} {f : Int → Option Int} (hf : ∀ v d, f v = some d ↔ IsD (flipL L) s v d) {r d : Int} (hr : f r = some d) (hs : r ≠ s) : nextV L f r ≠ [] := by
  rcases ((hf r d).1 hr).pred with ⟨e, -⟩ | ⟨u, x, c, hu, e, rfl⟩
  · exact absurd e hs
  · have he := edg_flip.1 e
    have hm := nbD_mem.2 he
    have : u ∈ nextV L f r := by
      unfold nextV
      refine List.mem_map.2 ⟨(u, c), List.mem_filter.2 ⟨hm, ?_⟩, rfl⟩
      simp only
      rw [(hf u x).2 hu, hr]
      exact decide_eq_true (by simp only [Option.getD_some]; omega)
    exact fun h => by rw [h] at this; cases this
set_option maxRecDepth 100000 in
/-- The next routers are nearer to the end. -/
theorem next_lt {L : List Lk} (hp : Pos L) {f : Int → Option Int} {r d u : Int} (hr : f r = some d) (hu : u ∈ nextV L f r) : ∃ x c, f u = some x ∧ edg L r u c ∧ c + x = d ∧ x < d := by
  unfold nextV at hu
  obtain ⟨⟨v, c⟩, hm, rfl⟩ := List.mem_map.1 hu
  obtain ⟨h1, h2⟩ := List.mem_filter.1 hm
  simp only at h2 ⊢
  cases hv : f v with
  | none => rw [hv] at h2; cases h2
  | some x =>
    rw [hv, hr] at h2
    have h3 := of_decide_eq_true h2
    have he := nbD_mem.1 h1
    have hc := hp.edg he
    simp only [Option.getD_some] at h3
    exact ⟨x, c, rfl, he, h3, by omega⟩
set_option maxRecDepth 100000 in
/-- The end goes nowhere. -/
theorem next_end {L : List Lk} (hp : Pos L) {f : Int → Option Int} (hf0 : ∀ v x, f v = some x → 0 ≤ x) {r : Int} (hr : f r = some 0) : nextV L f r = [] := by
  cases h : nextV L f r with
  | nil => rfl
  | cons u t =>
    obtain ⟨x, c, hx, -, -, hlt⟩ := next_lt hp hr (u := u) (by rw [h]; simp)
    have := hf0 u x hx
    omega
set_option maxRecDepth 100000 in
/-- A router without a cost goes nowhere. -/
theorem next_none {L : List Lk} (hp : Pos L) {f : Int → Option Int} (hf0 : ∀ v x, f v = some x → 0 ≤ x) {r : Int} (hr : f r = none) : nextV L f r = [] := by
  unfold nextV
  rw [List.filter_eq_nil_iff.2]
  · rfl
  · rintro ⟨v, c⟩ hm h
    simp only at h
    cases hv : f v with
    | none => rw [hv] at h; cases h
    | some x =>
      rw [hv, hr] at h
      have h3 := of_decide_eq_true h
      have hc := hp.edg (nbD_mem.1 hm)
      have := hf0 v x hv
      simp only [Option.getD_none] at h3
      omega
end Go.Proofs.Ytlefjdglcdopeaa

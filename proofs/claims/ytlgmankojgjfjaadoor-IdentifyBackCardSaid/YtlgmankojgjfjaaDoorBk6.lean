/- Parts of the proof, packed: IdSet, IdSetW, IdBkM, IdEdgR, IdRck, IdRcn, IdAwk, IdInt, IdRep, IdRvp, IdSetR, Spread, Full, Funs. -/
import Derived.Test.YtlgmankojgjfjaaDoorBk5
import Derived.Test.YtlgmankojgjfjaaDoorBk3
import Derived.Deep.AppendLies
import Derived.Deep.RegionLaw
import Derived.Deep.CutRange
import Derived.Test.YtlgmankojgjfjaaDoorBk4
import Derived.Laws.StructEq
import Derived.Deep.RegionHeld3
import Derived.Test.YtlgmankojgjfjaaDoorBk1
import Derived.Deep.LoopGhost
import Derived.OwnWalk
/- identify: Sets. -/
namespace Go.Proofs.YtlgmankojgjfjaaDoor
open Go.RowKit Bs
set_option maxRecDepth 100000 in
theorem info_sb : (Tryd.prog.info? 25).map (fun i => (i.zero, i.size, i.bytes)) = some (some (.agg #[.int .i64 0, .int .u64 0]), 2, 16) := by kernel_rfl
set_option maxRecDepth 100000 in
theorem sb_row (w : World) (x : Sb) (t : TypeId) : ∀ j u, (sbC x)[j]? = some u → (w.alloc (.cells #[.int .i64 x.s, .int .u64 (x.b : Int)] t)).cell? ((⟨w.heap.size, 0, none⟩ : Addr).add j) = some u := by
  intro j u hu
  rw [add_plain]
  have hb := heap_alloc_new w (.cells #[.int .i64 x.s, .int .u64 (x.b : Int)] t)
  rcases j with _ | _ | j
  · cases hu; exact cell_of_row _ _ _ _ _ _ hb
  · cases hu; exact cell_of_row _ _ _ _ _ _ hb
  · simp [sbC] at hu
set_option maxRecDepth 100000 in
theorem sb_set (N : List Sb) (x : Sb) (v : Nat) : ((N ++ [x]).flatMap sbC).set (N.length * 2 + 1) (.int .u64 (v : Int)) = (N ++ [(⟨x.s, v⟩ : Sb)]).flatMap sbC := by
  have hl := flat_len sbC 2 (fun _ => rfl) N
  rw [List.flatMap_append, List.flatMap_append, List.set_append_right _ _ (by omega), hl]
  rw [show N.length * 2 + 1 - N.length * 2 = 1 by omega]
  simp [sbC]
/-- What Sets returns. -/
def SePost (sub n : Int) (E : List Ed) (X : List Int) (w : World) (e : Ending) (w' : World) : Prop :=
  ∃ (p : Option Addr) (c : Nat), e = .returned (.tuple #[.slice p (seO sub n E X).length c, .int .i64 (seX sub n E X)]) ∧ w'.ownsRow w.heap.size 25 2 (.slice p (seO sub n E X).length c) (seO sub n E X).length ((seO sub n E X).flatMap sbC) ∧ w.grownBy w' none
set_option maxRecDepth 100000 in
theorem se_no {sub n : Int} {E : List Ed} {X : List Int} {x : Int} (h : seX sub n E X = x) (hx : x ≠ 0) {w w' : World} (g : w.grownBy w' none) : SePost sub n E X w (.returned (.tuple #[.slice none 0 0, .int .i64 x])) w' := by
  have h0 : seO sub n E X = [] := by unfold seO; rw [if_neg (by rw [h]; exact hx)]
  exact ⟨none, 0, by rw [h0, h]; rfl, by rw [h0]; exact World.ownsRow_nil _ _ _ _, g⟩
/-- While the sets grow. -/
structure SG (W : World) (sub n : Int) (E : List Ed) (p : Option Addr) (c : Nat) (X : List Int) (px : Option Addr) (cx : Nat) (v : Value) (M : List Sb) (w : World) : Prop where
  bx : w.heap[W.heap.size]? = some (.cells #[.int .i64 sub, .int .i64 n, .slice p E.length c] 30 (0, 0))
  rd : RdF w (· < W.heap.size) (.slice p E.length c) E.length (E.flatMap edC)
  rx : Rd w (· < W.heap.size) (.slice px X.length cx) (X.map tv)
  own : w.ownsRow (W.heap.size + 1) 25 2 v M.length (M.flatMap sbC)
  gr : W.grownBy w none
  lo : W.heap.size < w.heap.size
section
variable {W w w1 : World} {sub n : Int} {E : List Ed} {p px : Option Addr} {c cx : Nat} {X : List Int} {v v' : Value} {M N : List Sb}
set_option maxRecDepth 100000 in
theorem SG.keep (h : SG W sub n E p c X px cx v M w) (g : w.grownBy w1 none) : SG W sub n E p c X px cx v M w1 :=
  ⟨kept_row h.bx g (by simp), h.rd.keep g, h.rx.keep g, h.own.kept g (by cases v.ownBlock <;> simp), grown_trans h.gr g, Nat.lt_of_lt_of_le h.lo g.size⟩
set_option maxRecDepth 100000 in
theorem SG.put (h : SG W sub n E p c X px cx v M w) (hown : w1.ownsRow (W.heap.size + 1) 25 2 v' N.length (N.flatMap sbC)) (hg : w.grownBy w1 v.ownBlock) : SG W sub n E p c X px cx v' N w1 := by
  have hne : ∀ b, b ≤ W.heap.size → some b ≠ v.ownBlock := fun b hb e => by have := (h.own.lt b e.symm).1; omega
  exact ⟨kept_row h.bx hg (hne _ (Nat.le_refl _)), h.rd.grown hg (fun b hb => hne b (Nat.le_of_lt hb)), h.rx.grown hg (fun b hb => hne b (Nat.le_of_lt hb)), hown, grown_any h.gr hg (fun b hb => hne b (Nat.le_of_lt hb)), Nat.lt_of_lt_of_le h.lo hg.size⟩
set_option maxRecDepth 100000 in
theorem SG.last {g cap : Nat} {x : Sb} (h : SG W sub n E p c X px cx (.slice (some ⟨g, 0, none⟩) (N.length + 1) cap) (N ++ [x]) w) :
    w.cell? ⟨g, N.length * 2, none⟩ = some (.int .i64 x.s) ∧ w.cell? ⟨g, N.length * 2 + 1, none⟩ = some (.int .u64 (x.b : Int)) := by
  have ho := h.own
  rw [show (N ++ [x]).length = N.length + 1 by simp] at ho
  have hc := ho.cellAt
  have hx : (N ++ [x])[N.length]? = some x := by simp
  have hf : ∀ j y, j < 2 → (sbC x)[j]? = some y → w.cell? ⟨g, N.length * 2 + j, none⟩ = some y := fun j y hj hy => by
    rw [hc (N.length * 2 + j) (by omega)]
    exact (flat_at sbC 2 (fun _ => rfl) _ N.length j x hx hj).trans hy
  exact ⟨hf 0 _ (by omega) rfl, hf 1 _ (by omega) rfl⟩
set_option maxRecDepth 100000 in
theorem SG.frz {g cap : Nat} {x : Sb} (h : SG W sub n E p c X px cx (.slice (some ⟨g, 0, none⟩) (N.length + 1) cap) (N ++ [x]) w) (o : Nat) : w.frozen? ⟨g, o, none⟩ = false := by
  have ho := h.own
  rw [show (N ++ [x]).length = N.length + 1 by simp] at ho
  exact ho.frozenAt o
set_option maxRecDepth 100000 in
theorem SG.setLast {g cap : Nat} {x : Sb} (h : SG W sub n E p c X px cx (.slice (some ⟨g, 0, none⟩) (N.length + 1) cap) (N ++ [x]) w) (b : Nat) :
    SG W sub n E p c X px cx (.slice (some ⟨g, 0, none⟩) (N.length + 1) cap) (N ++ [(⟨x.s, b⟩ : Sb)]) (w.setCell ⟨g, N.length * 2 + 1, none⟩ (.int .u64 (b : Int))) := by
  have ho := h.own
  rw [show (N ++ [x]).length = N.length + 1 by simp] at ho
  obtain ⟨s1, s2⟩ := ho.stored (N.length * 2 + 1) (.int .u64 (b : Int))
  rw [sb_set] at s1
  exact h.put (by rw [show (N ++ [(⟨x.s, b⟩ : Sb)]).length = N.length + 1 by simp]; exact s1) s2
end
set_option maxRecDepth 100000 in
theorem kn_place {sub n : Int} {E : List Ed} {id : Int} (hv : vPl sub n E = true) (hk : knE E id = true) : plOk id n = true ∧ ∃ m : Nat, plB id n = (m : Int) ∧ m < 64 := by
  obtain ⟨e, he, hi⟩ := List.any_eq_true.1 hk
  have hi := of_decide_eq_true hi
  have hw := any_mem (vPl_asc hv).2.2 he
  have h4 : 1 ≤ e.i ∧ e.i ≤ 256 := by
    unfold wrE inV at hw
    simp only [Bool.not_eq_false', Bool.and_eq_true, decide_eq_true_eq] at hw
    exact hw.2
  have hn : vl n = true := by
    unfold vPl at hv
    simp only [Bool.and_eq_true, Bool.or_eq_true, Bool.not_eq_true', decide_eq_true_eq] at hv
    rcases hv.1.1.1.1.2 with h | h
    · exact h
    · have := h.2
      have : E = [] := List.eq_nil_of_length_eq_zero this
      subst this; cases he
  have hp : plOk id n = true := by
    unfold plOk inV
    rw [hn, decide_eq_true (show 1 ≤ id ∧ id ≤ 256 by omega)]; rfl
  obtain ⟨hl, h1, h2⟩ := pl_fields hp
  refine ⟨hp, ((id - 1) % n).toNat, ?_, ?_⟩
  · unfold plB; rw [if_pos hp]
    rcases hl with rfl | rfl | rfl | rfl <;> omega
  · rcases hl with rfl | rfl | rfl | rfl <;> omega
set_option maxRecDepth 100000 in
theorem isets1_any (g : Nat) (sub n : Int) (E : List Ed) (id : Int) (p : Option Addr) (c : Nat) (q : Nat → Prop) (w : World) (hb : w.heap[g]? = some (.cells #[.int .i64 sub, .int .i64 n, .slice p E.length c] 30 (0, 0))) (hR : RdF w q (.slice p E.length c) E.length (E.flatMap edC)) (hv : vPl sub n E = true) :
    Calls Tryd.prog 30 #[.int .i64 id, .pointer (some ⟨g, 0, none⟩)] w fun e w' => e = .returned (.bool (ukE E id)) ∧ w.grownBy w' none := by
  have HR := Lib.hid hR
  obtain ⟨⟨d0, d1, d2⟩, -⟩ := row3i hb
  clear hR hb
  go_enter Tryd.func30, Tryd.ntmps30
  go_wp2_with fail
  refine (ihas_any sub n E id p c _ w HR.out hv).mono ?_
  rintro e w1 ⟨rfl, hg⟩
  go_wp2_with fail
  go_ret
  exact ⟨rfl, hg⟩
end Go.Proofs.YtlgmankojgjfjaaDoor

/- identify: Sets, the walk. -/
namespace Go.Proofs.YtlgmankojgjfjaaDoor
open Go.RowKit Bs
set_option maxRecDepth 100000 in
theorem plB_lt (id len : Int) : (plB id len).toNat < 64 := by
  unfold plB
  split
  · rename_i h
    obtain ⟨hl, h1, h2⟩ := pl_fields h
    rcases hl with rfl | rfl | rfl | rfl <;> omega
  · decide
set_option maxRecDepth 100000 in
theorem seL_u (len : Int) (X : List Int) : ∀ y ∈ seL len X, U64 y.b := by
  suffices h : ∀ (X : List Int) (M : List Sb), (∀ y ∈ M, U64 y.b) → ∀ y ∈ X.foldl (seS len) M, U64 y.b from h X [] (fun y hy => by cases hy)
  intro X
  induction X with
  | nil => exact fun M h => h
  | cons x t ih =>
    intro M h
    rw [List.foldl_cons]
    refine ih _ ?_
    have h1 : ∀ y ∈ opS M (plS x len), U64 y.b := by
      unfold opS
      split
      · exact h
      · intro y hy
        rcases List.mem_append.1 hy with hy | hy
        · exact h y hy
        · obtain rfl : y = ⟨plS x len, 0⟩ := by simpa using hy
          show (0 : Nat) < _
          decide
    unfold seS
    obtain ⟨N, z, hz⟩ := snoc_of_ne (opS_ne M (plS x len))
    rw [hz] at h1 ⊢
    rw [orS_snoc]
    intro y hy
    rcases List.mem_append.1 hy with hy | hy
    · exact h1 y (List.mem_append_left _ hy)
    · obtain rfl : y = ⟨z.s, z.b ||| b2 (plB x len).toNat⟩ := by simpa using hy
      exact Nat.or_lt_two_pow (n := 64) (h1 z (by simp)) (b2_u64 (plB_lt x len))
set_option maxRecDepth 100000 in
theorem lastS_snoc (N : List Sb) (x : Sb) (s : Int) : lastS (N ++ [x]) s = decide (x.s = s) := by
  unfold lastS; simp
set_option maxRecDepth 100000 in
set_option maxHeartbeats 12800000 in
theorem isets_any (sub n : Int) (E : List Ed) (p : Option Addr) (c : Nat) (X : List Int) (px : Option Addr) (cx : Nat) (w : World) (hR : RdF w (· < w.heap.size) (.slice p E.length c) E.length (E.flatMap edC)) (hm : E.length ≤ 9223372036854775807) (hX : Rd w (· < w.heap.size) (.slice px X.length cx) (X.map tv)) (hxm : X.length ≤ 1000000) :
    Calls Tryd.prog 11 #[.agg #[.int .i64 sub, .int .i64 n, .slice p E.length c], .slice px X.length cx] w fun e w' => SePost sub n E X w e w' := by
  obtain ⟨ie, hie, he0, he1, he2⟩ := info_parts info_sb
  have e1 : EnterF 30 := enters_of Tryd.func30 (by kernel_rfl) rfl
  have E1 := Lib.hid e1
  obtain ⟨k1, k2⟩ := tone_box w #[.int .i64 sub, .int .i64 n, .slice p E.length c] 30
  have H0 : Hid (SG w sub n E p c X px cx (.slice none 0 0) [] _) := Lib.hid ⟨k1, hR.keep k2, hX.keep k2, World.ownsRow_nil _ _ _ _, k2, by simp⟩
  clear k1 k2 hR hX e1
  go_enter Tryd.func11, Tryd.ntmps11
  go_upto_region 1 with fail
  generalize w.alloc _ = w1 at *
  obtain ⟨⟨d0, d1, d2⟩, -⟩ := row3i H0.out.bx
  go_wp2_with fail
  refine (ivplan_any sub n E p c _ w1 H0.out.rd hm).mono ?_
  rintro e w2 ⟨rfl, hg⟩
  have H1 := Lib.hid (H0.out.keep hg)
  clear hg H0 d0 d1 d2
  cases hv : vPl sub n E
  case false =>
    have HP : Hid (seX sub n E X = 1) := Lib.hid (by unfold seX; rw [if_pos hv])
    clear hv
    go_wp2_with fail
    go_ret2
    exact se_no HP.out (by decide) H1.out.gr
  have HV := Lib.hid hv
  clear hv
  go_wp2_with fail
  refine (iascZ_any X px cx _ w2 H1.out.rx (by omega)).mono ?_
  rintro e w3 ⟨rfl, hg⟩
  have H2 := Lib.hid (H1.out.keep hg)
  clear hg H1
  cases ha : ascB ltZ X
  case false =>
    have HP : Hid (seX sub n E X = 25) := Lib.hid (by unfold seX; rw [if_neg (by rw [HV.out]; decide), if_pos ha])
    clear ha
    go_wp2_with fail
    go_ret2
    exact se_no HP.out (by decide) H2.out.gr
  have HA := Lib.hid ha
  clear ha
  go_wp2_with fail
  refine (icontZ_any 30 #[.pointer (some ⟨w.heap.size, 0, none⟩)] (ukE E) E1.out X px cx _ w3 H2.out.rx (by omega) (fun r w' g => isets1_any w.heap.size sub n E r p c _ w' (kept_row H2.out.bx g (by simp)) (H2.out.rd.keep g) HV.out)).mono ?_
  rintro e w4 ⟨rfl, hg⟩
  have H3 := Lib.hid (H2.out.keep hg)
  clear hg H2
  cases hu : X.any (ukE E)
  case true =>
    have HP : Hid (seX sub n E X = 4) := Lib.hid (by unfold seX; rw [if_neg (by rw [HV.out]; decide), if_neg (by rw [HA.out]; decide), if_pos hu])
    clear hu
    go_wp2_with fail
    go_ret2
    exact se_no HP.out (by decide) H3.out.gr
  have HU := Lib.hid hu
  have HP : Hid (seX sub n E X = 0) := Lib.hid (by unfold seX; rw [if_neg (by rw [HV.out]; decide), if_neg (by rw [HA.out]; decide), if_neg (by rw [HU.out]; decide)])
  clear hu
  go_wp2_with fail
  go_loopw [6, 27] (fun v x wr => ∃ (k : Nat) (q : Option Addr) (d : Nat), k ≤ X.length ∧ x = .int .i64 (k : Int) ∧ v = .slice q (seL n (X.take k)).length d ∧ Hid (SG w sub n E p c X px cx (.slice q (seL n (X.take k)).length d) (seL n (X.take k)) wr)) (fun _ x _ => X.length - (RowKit.intOf x).toNat)
  case atStart => exact ⟨0, none, 0, Nat.zero_le _, rfl, rfl, H3⟩
  case round =>
  obtain ⟨k, q, d, hk, rfl, rfl, S0⟩ := hrel
  clear H3
  obtain ⟨w5, hw5⟩ : ∃ w5, w5 = wr := ⟨_, rfl⟩
  rw [← hw5] at S0 ⊢
  clear hw5
  by_cases hlt : k < X.length
  case neg =>
    obtain rfl : k = X.length := by omega
    have hnl : ¬ (X.length : Int) < (X.length : Int) := by omega
    rw [List.take_length] at S0 ⊢
    have HO : Hid (seO sub n E X = seL n X) := Lib.hid (by unfold seO; rw [if_pos HP.out])
    go_wp2_with fail
    go_ret2
    refine ⟨q, d, by rw [HO.out, HP.out]; rfl, ?_, S0.out.gr⟩
    rw [HO.out]
    exact S0.out.own.mono (by omega)
  case pos =>
  have hlt' : (k : Int) < (X.length : Int) := by omega
  obtain ⟨x, hx⟩ : ∃ x, X[k]? = some x := ⟨_, List.getElem?_eq_getElem hlt⟩
  have hkn : knE E x = true := by
    have := any_mem HU.out (List.mem_of_getElem? hx)
    unfold ukE at this
    simpa using this
  obtain ⟨hpl, m, hm1, hm2⟩ := kn_place HV.out hkn
  obtain ⟨-, b, off, rfl, hq, hc⟩ := tv_at S0.out.rx hx
  have a0 := hc k x hx
  have HST : Hid (seL n (X.take (k + 1)) = orS (opS (seL n (X.take k)) (plS x n)) (b2 m)) := Lib.hid (by rw [seL_take hx]; unfold seS; rw [hm1]; rfl)
  have hML : (seL n (X.take k)).length ≤ 1000000 := by
    have h1 := seL_len n (X.take k) []
    unfold seL
    rw [List.length_take] at h1
    simp only [List.length_nil] at h1
    omega
  obtain ⟨M, hM⟩ : ∃ M, seL n (X.take k) = M := ⟨_, rfl⟩
  obtain ⟨M2, hM2⟩ : ∃ M2, seL n (X.take (k + 1)) = M2 := ⟨_, rfl⟩
  rw [hM] at HST S0 hML ⊢
  rw [hM2] at HST
  have HM2 := Lib.hid hM2
  obtain ⟨⟨d0, d1, d2⟩, -⟩ := row3i S0.out.bx
  have HM := Lib.hid hM
  clear hM hM2 hc hx hkn
  go_wp2_with fail
  refine (iplc_any x n w5).mono ?_
  rintro e w6 ⟨rfl, hg⟩
  rw [hpl, hm1]
  have S1 := Lib.hid (S0.out.keep hg)
  clear hg S0 d0 d1 d2 a0 hpl hm1
  obtain ⟨s, hs⟩ : ∃ s, plS x n = s := ⟨_, rfl⟩
  rw [hs] at HST ⊢
  clear hs
  have APP : Hid (lastS M s = false → opS M s = M ++ [(⟨s, 0⟩ : Sb)]) := Lib.hid (fun h => by unfold opS; rw [h]; rfl)
  have HUM : Hid (∀ y ∈ M, U64 y.b) := Lib.hid (by rw [← HM.out]; exact seL_u n (X.take k))
  by_cases hl : lastS M s = true
  case pos =>
    have hne : M ≠ [] := by rintro rfl; cases hl
    obtain ⟨N, y, rfl⟩ := snoc_of_ne hne
    rw [lastS_snoc] at hl
    have hys := of_decide_eq_true hl
    have HOP : Hid (opS (N ++ [y]) s = N ++ [y]) := Lib.hid (by unfold opS; rw [lastS_snoc, hl]; rfl)
    have hNl : N.length ≤ 1000000 := by rw [List.length_append] at hML; simp at hML; omega
    rw [show (N ++ [y]).length = N.length + 1 by simp] at S1 ⊢
    obtain ⟨g, rfl⟩ : ∃ g, q = some ⟨g, 0, none⟩ := by
      rcases S1.out.own.2 with ⟨e1, h0⟩ | ⟨g, cap, cur, e1, _⟩
      · simp at h0
      · injection e1 with e2; exact ⟨g, e2⟩
    obtain ⟨ys, yb⟩ := y
    have hU : U64 yb := HUM.out ⟨ys, yb⟩ (by simp)
    dsimp only at hys
    subst hys
    obtain ⟨cap, rfl⟩ : ∃ cap, d = cap := ⟨_, rfl⟩
    clear APP hl hne hML HUM HM
    have S3 := S1
    clear S1
    have fL := S3.out.frz (N.length * 2 + 1)
    have cL1 := S3.out.last.1
    have cL2 := S3.out.last.2
    have n1 : ((N.length : Int) + 1 - 1) = (N.length : Int) := by omega
    have n2 : IntKind.i64.wrap (N.length : Int) = (N.length : Int) := IntWalk.i64_in _ (by omega)
    have n3 : IntKind.i64.wrap ((N.length : Int) + 1 - 1) = (N.length : Int) := by rw [n1]; exact n2
    have n4 : (0 : Int) ≤ (N.length : Int) := by omega
    have n5 : (N.length : Int) < (N.length : Int) + 1 := by omega
    have m1 : (m : Int) < 64 := by omega
    have m0 : ¬ (m : Int) < 0 := by omega
    have HW : Hid (bits .or .u64 (yb : Int) (IntKind.u64.wrap (2 ^ m)) = ((yb ||| b2 m : Nat) : Int)) := Lib.hid (by rw [pow_word m hm2, orU _ _ hU (b2_u64 hm2)])
    have HMM : Hid (M2 = N ++ [(⟨ys, yb ||| b2 m⟩ : Sb)]) := Lib.hid (by rw [HST.out, HOP.out, orS_snoc])
    have S4 := Lib.hid ((S3.out.setLast (yb ||| b2 m)).keep (grown_drew (grown_refl _ none)))
    go_upto_region 15 with fail
    go_region
    rw [HW.out]
    clear S3 HW cL1 cL2 fL n1 n3 m1 m0 HST HOP
    generalize (World.setCell _ _ _).drew = w7 at *
    go_wp2_with fail
    exact ⟨⟨k + 1, some ⟨g, 0, none⟩, d, by omega, congrArg _ (by omega), by rw [HM2.out, HMM.out, List.length_append]; rfl, by rw [HM2.out, HMM.out, List.length_append]; exact S4⟩, by simp only [RowKit.intOf]; omega⟩
  case neg =>
    have hl : lastS M s = false := by simpa using hl
    clear HUM HM
    by_cases hM0 : M.length = 0
    · have hM00 : M = [] := List.eq_nil_of_length_eq_zero hM0
      have hM0' : ¬ 0 < M.length := by omega
      have hM2 : (M.length : Int) - 1 < 0 := by omega
      have hw1 : IntKind.i64.wrap ((M.length : Int) - 1) = (M.length : Int) - 1 := IntWalk.i64_in _ (by omega)
      clear hM0 hM00 hM0'
      have HO2 := Lib.hid S1.out.own
      have hsz : w.heap.size < w6.heap.size := S1.out.lo
      go_wp2_with (at_builtin; refine hold_on ?_)
      refine Lib.hid ?_
      refine wpList_append_lies _ rfl _ _ 43 rfl (w.heap.size + 1) 25 ie (.agg #[.int .i64 0, .int .u64 0]) 2 16 Tryd.underlying43 hie he0 he1 he2 rfl (by decide) (.slice q M.length d) M.length (M.flatMap sbC) rfl (HO2.out.alloc _) ⟨w6.heap.size, 0, none⟩ 1 1 [.int .i64 s, .int .u64 0] rfl rfl (sb_row w6 ⟨s, 0⟩ _) (sb_one ⟨s, 0⟩) (by decide) (by unfold maxLen; omega) (by omega) (by simp; omega) _ rfl ?_
      intro g cap w8 hown hgrow hat hlt8
      have S3 := Lib.hid ((S1.out.keep (World.grownBy_alloc _ _ none)).put (N := M ++ [(⟨s, 0⟩ : Sb)]) (by rw [List.length_append, List.flatMap_append]; simpa [sbC] using hown) hgrow)
      have HOP : Hid (opS M s = M ++ [(⟨s, 0⟩ : Sb)]) := Lib.hid (APP.out hl)
      have hU : U64 0 := u64_mk (by decide)
      clear hown hgrow hat hlt8 HO2 S1 APP hl hsz
      clear hM2 hw1
      have fL := S3.out.frz (M.length * 2 + 1)
      have cL1 := S3.out.last.1
      have cL2 := S3.out.last.2
      have n1 : ((M.length : Int) + 1 - 1) = (M.length : Int) := by omega
      have n2 : IntKind.i64.wrap (M.length : Int) = (M.length : Int) := IntWalk.i64_in _ (by omega)
      have n3 : IntKind.i64.wrap ((M.length : Int) + 1 - 1) = (M.length : Int) := by rw [n1]; exact n2
      have n4 : (0 : Int) ≤ (M.length : Int) := by omega
      have n5 : (M.length : Int) < (M.length : Int) + 1 := by omega
      have m1 : (m : Int) < 64 := by omega
      have m0 : ¬ (m : Int) < 0 := by omega
      have HW : Hid (bits .or .u64 0 (IntKind.u64.wrap (2 ^ m)) = ((0 ||| b2 m : Nat) : Int)) := Lib.hid (by rw [pow_word m hm2, show (0 : Int) = ((0 : Nat) : Int) by rfl, orU _ _ hU (b2_u64 hm2)])
      have HMM : Hid (M2 = M ++ [(⟨s, 0 ||| b2 m⟩ : Sb)]) := Lib.hid (by rw [HST.out, HOP.out, orS_snoc])
      have S4 := Lib.hid ((S3.out.setLast (0 ||| b2 m)).keep (grown_drew (grown_refl _ none)))
      go_upto_region 15 with fail
      go_region
      rw [HW.out]
      clear S3 HW cL1 cL2 fL n1 n3 m1 m0 HST HOP
      generalize (World.setCell _ _ _).drew = w7 at *
      go_wp2_with fail
      exact ⟨⟨k + 1, some ⟨g, 0, none⟩, cap, by omega, congrArg _ (by omega), by rw [HM2.out, HMM.out, List.length_append]; rfl, by rw [HM2.out, HMM.out, List.length_append]; exact S4⟩, by simp only [RowKit.intOf]; omega⟩
    · have hne : M ≠ [] := fun e => hM0 (by rw [e]; rfl)
      obtain ⟨N0, y, hMe⟩ := snoc_of_ne hne
      have hlen : M.length = N0.length + 1 := by rw [hMe]; simp
      obtain ⟨g0, rfl⟩ : ∃ g, q = some ⟨g, 0, none⟩ := by
        rcases S1.out.own.2 with ⟨e1, h0⟩ | ⟨g, cap, cur, e1, _⟩
        · omega
        · injection e1 with e2; exact ⟨g, e2⟩
      have hys : y.s ≠ s := by
        rw [hMe, lastS_snoc] at hl
        exact of_decide_eq_false hl
      have hc0 : w6.cell? ⟨g0, (M.length - 1) * 2, none⟩ = some (.int .i64 y.s) := by
        have h := S1.out
        rw [hMe] at h
        rw [show (N0 ++ [y]).length = N0.length + 1 by simp] at h
        rw [show M.length - 1 = N0.length by omega]
        exact h.last.1
      have hys' : (y.s != s) = true := by simpa using hys
      obtain ⟨J, hJ⟩ : ∃ J, M.length - 1 = J := ⟨_, rfl⟩
      rw [hJ] at hc0
      have hJ1 : (M.length : Int) - 1 = (J : Int) := by omega
      have hJ2 : IntKind.i64.wrap ((M.length : Int) - 1) = (J : Int) := by rw [hJ1]; exact IntWalk.i64_in _ (by omega)
      have hJ3 : (0 : Int) ≤ (J : Int) := by omega
      have hJ4 : (J : Int) < (M.length : Int) := by omega
      clear hM0 hne hMe hlen hJ
      have HO2 := Lib.hid S1.out.own
      have hsz : w.heap.size < w6.heap.size := S1.out.lo
      go_wp2_with (at_builtin; refine hold_on ?_)
      refine Lib.hid ?_
      refine wpList_append_lies _ rfl _ _ 43 rfl (w.heap.size + 1) 25 ie (.agg #[.int .i64 0, .int .u64 0]) 2 16 Tryd.underlying43 hie he0 he1 he2 rfl (by decide) (.slice (some ⟨g0, 0, none⟩) M.length d) M.length (M.flatMap sbC) rfl (HO2.out.alloc _) ⟨w6.heap.size, 0, none⟩ 1 1 [.int .i64 s, .int .u64 0] rfl rfl (sb_row w6 ⟨s, 0⟩ _) (sb_one ⟨s, 0⟩) (by decide) (by unfold maxLen; omega) (by omega) (by simp; omega) _ rfl ?_
      intro g cap w8 hown hgrow hat hlt8
      have S3 := Lib.hid ((S1.out.keep (World.grownBy_alloc _ _ none)).put (N := M ++ [(⟨s, 0⟩ : Sb)]) (by rw [List.length_append, List.flatMap_append]; simpa [sbC] using hown) hgrow)
      have HOP : Hid (opS M s = M ++ [(⟨s, 0⟩ : Sb)]) := Lib.hid (APP.out hl)
      have hU : U64 0 := u64_mk (by decide)
      clear hown hgrow hat hlt8 HO2 S1 APP hl hsz
      clear hys hys' hc0 hJ1 hJ2 hJ3 hJ4
      have fL := S3.out.frz (M.length * 2 + 1)
      have cL1 := S3.out.last.1
      have cL2 := S3.out.last.2
      have n1 : ((M.length : Int) + 1 - 1) = (M.length : Int) := by omega
      have n2 : IntKind.i64.wrap (M.length : Int) = (M.length : Int) := IntWalk.i64_in _ (by omega)
      have n3 : IntKind.i64.wrap ((M.length : Int) + 1 - 1) = (M.length : Int) := by rw [n1]; exact n2
      have n4 : (0 : Int) ≤ (M.length : Int) := by omega
      have n5 : (M.length : Int) < (M.length : Int) + 1 := by omega
      have m1 : (m : Int) < 64 := by omega
      have m0 : ¬ (m : Int) < 0 := by omega
      have HW : Hid (bits .or .u64 0 (IntKind.u64.wrap (2 ^ m)) = ((0 ||| b2 m : Nat) : Int)) := Lib.hid (by rw [pow_word m hm2, show (0 : Int) = ((0 : Nat) : Int) by rfl, orU _ _ hU (b2_u64 hm2)])
      have HMM : Hid (M2 = M ++ [(⟨s, 0 ||| b2 m⟩ : Sb)]) := Lib.hid (by rw [HST.out, HOP.out, orS_snoc])
      have S4 := Lib.hid ((S3.out.setLast (0 ||| b2 m)).keep (grown_drew (grown_refl _ none)))
      go_upto_region 15 with fail
      go_region
      rw [HW.out]
      clear S3 HW cL1 cL2 fL n1 n3 m1 m0 HST HOP
      generalize (World.setCell _ _ _).drew = w7 at *
      go_wp2_with fail
      exact ⟨⟨k + 1, some ⟨g, 0, none⟩, cap, by omega, congrArg _ (by omega), by rw [HM2.out, HMM.out, List.length_append]; rfl, by rw [HM2.out, HMM.out, List.length_append]; exact S4⟩, by simp only [RowKit.intOf]; omega⟩
end Go.Proofs.YtlgmankojgjfjaaDoor

/- identify: the names of all sets together are the IDs: the mathematics. -/
namespace Go.Proofs.YtlgmankojgjfjaaDoor
open Go.RowKit Bs
set_option maxRecDepth 100000 in
theorem blN_zeros {j b : Nat} (h : ∀ i, j ≤ i → b.testBit i = false) : ∀ d, blN (j + d) b = blN j b
  | 0 => rfl
  | d + 1 => by rw [show j + (d + 1) = (j + d) + 1 by omega, blN_snoc, h (j + d) (by omega), blN_zeros h d]; simp
set_option maxRecDepth 100000 in
theorem blN_same {b c : Nat} : ∀ j, (∀ i, i < j → b.testBit i = c.testBit i) → blN j b = blN j c
  | 0, _ => rfl
  | j + 1, h => by rw [blN_snoc, blN_snoc, blN_same j (fun i hi => h i (by omega)), h j (by omega)]
set_option maxRecDepth 100000 in
theorem test_big {b j i : Nat} (hb : b < 2 ^ j) (hi : j ≤ i) : b.testBit i = false := Nat.testBit_lt_two_pow (Nat.lt_of_lt_of_le hb (Nat.pow_le_pow_right (by decide) hi))
set_option maxRecDepth 100000 in
/-- One bit more, above all others. -/
theorem bl_more {b m : Nat} (hb : b < 2 ^ m) (hm : m < 64) : bl (b ||| b2 m) = bl b ++ [m] := by
  have e1 : bl b = blN m b := by
    unfold bl
    rw [show (64 : Nat) = m + (64 - m) by omega]
    exact blN_zeros (fun i hi => test_big hb hi) _
  have e2 : bl (b ||| b2 m) = blN (m + 1) (b ||| b2 m) := by
    unfold bl
    rw [show (64 : Nat) = (m + 1) + (64 - (m + 1)) by omega]
    refine blN_zeros (fun i hi => ?_) _
    rw [Nat.testBit_or, test_big hb (by omega)]
    unfold b2
    rw [Nat.testBit_two_pow]; simp; omega
  rw [e1, e2, blN_snoc]
  congr 1
  · refine blN_same m fun i hi => ?_
    rw [Nat.testBit_or]
    unfold b2
    rw [Nat.testBit_two_pow]
    simp; omega
  · rw [Nat.testBit_or]
    unfold b2
    rw [Nat.testBit_two_pow]; simp
set_option maxRecDepth 100000 in
theorem or_lt {b m : Nat} (hb : b < 2 ^ m) : b ||| b2 m < 2 ^ (m + 1) := Nat.or_lt_two_pow (Nat.lt_of_lt_of_le hb (Nat.pow_le_pow_right (by decide) (by omega))) (by unfold b2; exact Nat.pow_lt_pow_right (by decide) (by omega))
/-- What is kept: all names together, the sets ascend, none is without names, and the last set is that of the last ID. -/
structure BkI (n : Int) (ids : List Int) (L : List Sb) : Prop where
  all : L.flatMap (fun x => nmL x.s n x.b) = ids
  asc : L.Pairwise (fun x y => x.s < y.s)
  ne : ∀ x ∈ L, nmL x.s n x.b ≠ []
  last : ∀ id, ids.getLast? = some id → ∃ N x, L = N ++ [x] ∧ x.s = plS id n ∧ x.b < 2 ^ ((plB id n).toNat + 1)
set_option maxRecDepth 100000 in
theorem BkI.nil (n : Int) : BkI n [] [] := ⟨rfl, List.Pairwise.nil, fun x h => (by cases h), fun id h => (by cases h)⟩
set_option maxRecDepth 100000 in
theorem nm_single {id n : Int} (h : plOk id n = true) : nmL (plS id n) n (b2 (plB id n).toNat) = [id] := by
  obtain ⟨hl, h1, h2⟩ := pl_fields h
  have hB : 0 ≤ plB id n ∧ plB id n < 64 := by
    unfold plB
    rw [if_pos h]
    rcases hl with rfl | rfl | rfl | rfl <;> omega
  obtain ⟨m, hm⟩ := Int.eq_ofNat_of_zero_le hB.1
  have h3 := bl_more (b := 0) (m := m) (Nat.pow_pos (by decide)) (by omega)
  rw [Nat.zero_or, bl_zero, List.nil_append] at h3
  unfold nmL
  rw [hm]
  show (bl (b2 m)).map (nmI (plS id n) n) = [id]
  rw [h3]
  show [atI (plS id n) (m : Int) n] = [id]
  rw [← hm, (at_place h).2]
set_option maxRecDepth 100000 in
theorem BkI.add {n id : Int} {ids : List Int} {L : List Sb} (h : BkI n ids L) (hp : plOk id n = true) (ha : ∀ x ∈ ids, plOk x n = true ∧ x < id) : BkI n (ids ++ [id]) (seS n L id) := by
  obtain ⟨hl, h1, h2⟩ := pl_fields hp
  have hS : plS id n = (id - 1) / n := by unfold plS; rw [if_pos hp, Int.tdiv_eq_ediv_of_nonneg (by omega)]
  have hB : plB id n = (id - 1) % n := by unfold plB; rw [if_pos hp]
  have hB2 : 0 ≤ plB id n ∧ plB id n < 64 := by
    rw [hB]; rcases hl with rfl | rfl | rfl | rfl <;> omega
  obtain ⟨m, hm⟩ := Int.eq_ofNat_of_zero_le hB2.1
  have hmt : (plB id n).toNat = m := by omega
  have hlast : ∀ id', (ids ++ [id]).getLast? = some id' → id' = id := fun id' h => by simpa using h.symm
  unfold seS
  rw [hmt]
  by_cases hne : ids = []
  · subst hne
    have hL : L = [] := by
      cases L with
      | nil => rfl
      | cons x t =>
        have h3 := h.ne x (List.mem_cons_self ..)
        have h4 := h.all
        rw [List.flatMap_cons] at h4
        exact absurd (List.append_eq_nil_iff.1 h4).1 h3
    subst hL
    have e : opS [] (plS id n) = [] ++ [(⟨plS id n, 0⟩ : Sb)] := by unfold opS lastS; simp
    rw [e, orS_snoc]
    have hz : (0 ||| b2 m) = b2 m := Nat.zero_or _
    refine ⟨?_, List.pairwise_singleton _ _, fun x hx => ?_, fun id' h5 => ?_⟩
    · have := nm_single hp
      rw [hmt] at this
      show nmL (plS id n) n (0 ||| b2 m) ++ [] = [id]
      rw [hz, this]; rfl
    · obtain rfl : x = ⟨plS id n, 0 ||| b2 m⟩ := by simpa using hx
      have := nm_single hp
      rw [hmt] at this
      show nmL (plS id n) n (0 ||| b2 m) ≠ []
      rw [hz, this]; simp
    · obtain rfl := hlast id' h5
      refine ⟨[], _, rfl, rfl, ?_⟩
      show (0 ||| b2 m) < _
      rw [hmt]
      exact or_lt (Nat.pow_pos (by decide))
  · obtain ⟨ids0, y, rfl⟩ := snoc_of_ne hne
    obtain ⟨N, x, rfl, hxs, hxb⟩ := h.last y (by simp)
    obtain ⟨hy1, hy2⟩ := ha y (by simp)
    obtain ⟨-, g1, g2⟩ := pl_fields hy1
    have hS2 : plS y n = (y - 1) / n := by unfold plS; rw [if_pos hy1, Int.tdiv_eq_ediv_of_nonneg (by omega)]
    have hB3 : plB y n = (y - 1) % n := by unfold plB; rw [if_pos hy1]
    by_cases hs : x.s = plS id n
    · have e : opS (N ++ [x]) (plS id n) = N ++ [x] := by unfold opS; rw [lastS_snoc, decide_eq_true hs]; rfl
      rw [e, orS_snoc]
      have hlt : x.b < 2 ^ m := by
        refine Nat.lt_of_lt_of_le hxb (Nat.pow_le_pow_right (by decide) ?_)
        have hq : (y - 1) / n = (id - 1) / n := by rw [← hS2, ← hS, ← hxs, hs]
        rw [hB] at hm
        rw [hB3]
        rcases hl with rfl | rfl | rfl | rfl <;> omega
      have hbl := bl_more hlt (by omega)
      have hid : nmL x.s n (x.b ||| b2 m) = nmL x.s n x.b ++ [id] := by
        unfold nmL
        rw [hbl, List.map_append]
        show _ ++ [atI x.s (m : Int) n] = _
        rw [hs, ← hm, (at_place hp).2]
      refine ⟨?_, ?_, fun z hz => ?_, fun id' h5 => ?_⟩
      · have h4 := h.all
        rw [List.flatMap_append] at h4 ⊢
        show _ ++ (nmL x.s n (x.b ||| b2 m) ++ []) = _
        rw [hid, List.append_nil, ← List.append_assoc]
        congr 1
        rw [← h4]
        show _ = _ ++ (nmL x.s n x.b ++ [])
        rw [List.append_nil]
      · have h4 := List.pairwise_append.1 h.asc
        refine List.pairwise_append.2 ⟨h4.1, List.pairwise_singleton _ _, fun a ha2 b hb => ?_⟩
        obtain rfl : b = ⟨x.s, x.b ||| b2 m⟩ := by simpa using hb
        exact h4.2.2 a ha2 x (by simp)
      · rcases List.mem_append.1 hz with hz | hz
        · exact h.ne z (List.mem_append_left _ hz)
        · obtain rfl : z = ⟨x.s, x.b ||| b2 m⟩ := by simpa using hz
          show nmL x.s n (x.b ||| b2 m) ≠ []
          rw [hid]; simp
      · obtain rfl := hlast id' h5
        exact ⟨N, _, rfl, hs, by rw [hmt]; exact or_lt hlt⟩
    · have hlt : x.s < plS id n := by
        have hq : ¬ (y - 1) / n = (id - 1) / n := by rw [← hS2, ← hS, ← hxs]; exact hs
        rw [hxs, hS2, hS]
        rcases hl with rfl | rfl | rfl | rfl <;> omega
      have e : opS (N ++ [x]) (plS id n) = (N ++ [x]) ++ [(⟨plS id n, 0⟩ : Sb)] := by unfold opS; rw [lastS_snoc, decide_eq_false hs]; rfl
      rw [e, orS_snoc]
      have hz : (0 ||| b2 m) = b2 m := Nat.zero_or _
      have hsg := nm_single hp
      rw [hmt] at hsg
      have h4 := List.pairwise_append.1 h.asc
      refine ⟨?_, ?_, fun z hz2 => ?_, fun id' h5 => ?_⟩
      · rw [List.flatMap_append, h.all]
        show _ ++ (nmL (plS id n) n (0 ||| b2 m) ++ []) = _
        rw [hz, hsg, List.append_nil]
      · refine List.pairwise_append.2 ⟨h.asc, List.pairwise_singleton _ _, fun a ha2 b hb => ?_⟩
        obtain rfl : b = ⟨plS id n, 0 ||| b2 m⟩ := by simpa using hb
        show a.s < plS id n
        rcases List.mem_append.1 ha2 with h6 | h6
        · have := h4.2.2 a h6 x (by simp); omega
        · obtain rfl : a = x := by simpa using h6
          exact hlt
      · rcases List.mem_append.1 hz2 with h6 | h6
        · exact h.ne z h6
        · obtain rfl : z = ⟨plS id n, 0 ||| b2 m⟩ := by simpa using h6
          show nmL (plS id n) n (0 ||| b2 m) ≠ []
          rw [hz, hsg]; simp
      · obtain rfl := hlast id' h5
        refine ⟨N ++ [x], _, rfl, rfl, ?_⟩
        show (0 ||| b2 m) < _
        rw [hmt]
        exact or_lt (Nat.pow_pos (by decide))
set_option maxRecDepth 100000 in
/-- For ascending IDs in their places. -/
theorem bk_all {n : Int} : ∀ ids : List Int, (∀ x ∈ ids, plOk x n = true) → ids.Pairwise (· < ·) → BkI n ids (seL n ids) := by
  intro ids hp ha
  suffices h : ∀ k, k ≤ ids.length → BkI n (ids.take k) (seL n (ids.take k)) by
    have := h ids.length (Nat.le_refl _)
    rwa [List.take_length] at this
  intro k
  induction k with
  | zero => exact fun _ => BkI.nil n
  | succ k ih =>
    intro hk
    obtain ⟨x, hx⟩ : ∃ x, ids[k]? = some x := ⟨_, List.getElem?_eq_getElem (by omega)⟩
    rw [seL_take hx]
    have e : ids.take (k + 1) = ids.take k ++ [x] := by rw [List.take_add_one, hx]; rfl
    rw [e]
    refine (ih (by omega)).add (hp x (List.mem_of_getElem? hx)) fun y hy => ⟨hp y (List.mem_of_mem_take hy), ?_⟩
    rw [← List.take_append_drop k ids] at ha
    have h3 := (List.pairwise_append.1 ha).2.2 y hy x
    obtain ⟨hk2, rfl⟩ := List.getElem?_eq_some_iff.1 hx
    exact h3 (by rw [List.drop_eq_getElem_cons hk2]; exact List.mem_cons_self ..)
set_option maxRecDepth 100000 in
/-- The IDs of some edges of a valid plan. -/
theorem sub_ids {sub n : Int} {E : List Ed} {ids : List Int} (hv : vPl sub n E = true) (hs : ids.Sublist (E.map Ed.i)) : ids.Pairwise (· < ·) ∧ (∀ x ∈ ids, knE E x = true) := by
  constructor
  · refine List.Pairwise.sublist hs ?_
    rw [List.pairwise_map]
    exact asc_pairE E (vPl_asc hv).1
  · intro x hx
    obtain ⟨e, he, hei⟩ := List.mem_map.1 (hs.subset hx)
    exact List.any_eq_true.2 ⟨e, he, decide_eq_true hei⟩
set_option maxRecDepth 100000 in
theorem pair_ascZ : ∀ E : List Int, E.Pairwise (· < ·) → ascB ltZ E = true
  | [], _ => rfl
  | [a], _ => rfl
  | a :: b :: t, h => by
    have h1 := List.pairwise_cons.1 h
    rw [ascB, pair_ascZ (b :: t) h1.2, Bool.and_true]
    exact decide_eq_true (h1.1 b (List.mem_cons_self ..))
set_option maxRecDepth 100000 in
/-- What Sets and Names answer for them. -/
theorem bk_law {sub n : Int} {E : List Ed} {ids : List Int} (hv : vPl sub n E = true) (hs : ids.Sublist (E.map Ed.i)) :
    seX sub n E ids = 0 ∧ seO sub n E ids = seL n ids ∧ BkI n ids (seL n ids) ∧ ∀ x ∈ seL n ids, nmX sub n E x.s x.b = 0 ∧ nmO sub n E x.s x.b = nmL x.s n x.b := by
  obtain ⟨h1, h2⟩ := sub_ids hv hs
  have hx : seX sub n E ids = 0 := by
    unfold seX
    rw [if_neg (by rw [hv]; decide), if_neg (by rw [pair_ascZ ids h1]; decide), if_neg]
    intro h
    obtain ⟨x, hx, hu⟩ := List.any_eq_true.1 h
    unfold ukE at hu
    rw [h2 x hx] at hu
    cases hu
  have hb := bk_all (n := n) ids (fun x hx => (kn_place hv (h2 x hx)).1) h1
  refine ⟨hx, by unfold seO; rw [if_pos hx], hb, fun x hxm => ?_⟩
  have hn : nmX sub n E x.s x.b = 0 := by
    unfold nmX
    rw [if_neg (by rw [hv]; decide), if_neg]
    intro h
    obtain ⟨y, hy, hu⟩ := List.any_eq_true.1 h
    have : y ∈ ids := by
      rw [← hb.all]
      exact List.mem_flatMap.2 ⟨x, hxm, hy⟩
    unfold ukE at hu
    rw [h2 y this] at hu
    cases hu
  exact ⟨hn, by unfold nmO; rw [if_pos hn]⟩
end Go.Proofs.YtlgmankojgjfjaaDoor

/- The reference's Edge. -/
namespace Go.Proofs.YtlgmankojgjfjaaDoor
open Go.RowKit Bs
end Go.Proofs.YtlgmankojgjfjaaDoor

/- The reference's Check of claims. -/
namespace Go.Proofs.YtlgmankojgjfjaaDoor
open Go.RowKit Bs
end Go.Proofs.YtlgmankojgjfjaaDoor

/- The reference's claimed, Conflicts, Length, Free. -/
namespace Go.Proofs.YtlgmankojgjfjaaDoor
open Go.RowKit Bs
end Go.Proofs.YtlgmankojgjfjaaDoor

/- The laws' example. -/
namespace Go.Proofs.YtlgmankojgjfjaaDoor
open Go.RowKit Bs
set_option maxRecDepth 100000 in
set_option maxHeartbeats 1600000 in
theorem iclaim_any (r id : Int) (w : World) :
    Calls Tryd.prog 41 #[.int .i64 r, .int .i64 id] w fun e w' => e = .returned (.agg #[.int .i64 r, .int .i64 0, .int .i64 id, .int .i64 8]) ∧ w.grownBy w' none := by
  obtain ⟨n1, n2⟩ := tone_box w #[.int .i64 r, .int .i64 0, .int .i64 id, .int .i64 8] 79
  have H := Lib.hid (And.intro n1 n2)
  have hsz : (Tryd.prog.info? 79).map (·.size) = some 4 := by kernel_rfl
  have HS := Lib.hid hsz
  have HU := Lib.hid Tryd.underlying79
  clear n1 n2 hsz
  go_enter Tryd.func41, Tryd.ntmps41
  go_wp2_with fail
  refine bodyPost_ret (v := .agg #[.int .i64 r, .int .i64 0, .int .i64 id, .int .i64 8]) (results_cell_row (p := 4) (fr := (0, 0)) (by kernel_rfl) _ _ w.heap.size _ _ _ rfl H.out.1 HU.out rfl HS.out) rfl ⟨rfl, H.out.2⟩
def exL : List Od := [⟨1, 0, 5, 8⟩, ⟨2, 0, 5, 8⟩, ⟨3, 0, 1, 8⟩]
set_option maxRecDepth 100000 in
theorem ex_p0 : plnX exL 0 = 0 ∧ plnS exL 0 = 0 ∧ plnL exL 0 = 8 := ⟨by kernel_rfl, by kernel_rfl, by kernel_rfl⟩
set_option maxRecDepth 100000 in
theorem ex_p1 : plnE exL 0 = [⟨3, 1⟩] := by kernel_rfl
set_option maxRecDepth 100000 in
theorem ex_r0 : rsX exL 0 = 0 := by kernel_rfl
set_option maxRecDepth 100000 in
theorem ex_r1 : rsO exL 0 = [⟨1, 0, 5, 8⟩, ⟨2, 0, 2, 8⟩, ⟨3, 0, 1, 8⟩] := by kernel_rfl
set_option maxRecDepth 100000 in
theorem ex_l : plS 9 8 = 1 ∧ plB 9 8 = 0 ∧ plOk 9 8 = true := ⟨by kernel_rfl, by kernel_rfl, by kernel_rfl⟩
set_option maxRecDepth 100000 in
theorem rd12 (w : World) (q : Nat → Prop) (hq : q w.heap.size) : RdF (w.alloc (.cells #[.int .i64 1, .int .i64 0, .int .i64 5, .int .i64 8, .int .i64 2, .int .i64 0, .int .i64 5, .int .i64 8, .int .i64 3, .int .i64 0, .int .i64 1, .int .i64 8] 79)) q (.slice (some ⟨w.heap.size, 0, none⟩) exL.length 3) exL.length (exL.flatMap odC) := by
  refine ⟨_, 3, rfl, fun _ => ⟨_, _, rfl, hq, fun i u hi => ?_⟩⟩
  rw [Nat.zero_add, cell_of_row _ _ _ _ _ _ (heap_alloc_new w _)]
  simpa [exL, odC] using hi
set_option maxRecDepth 100000 in
theorem keepAw {w5 w' : World} {B g1 o1 g2 o2 : Nat} {c : Nat} (h : w5.cell? ⟨B, 2, none⟩ = some (.slice (some ⟨g1, o1, none⟩) 1 c) ∧ w5.cell? ⟨g1, o1, none⟩ = some (.int .i64 3) ∧ w5.cell? ⟨g1, o1 + 1, none⟩ = some (.int .i64 1) ∧ w5.cell? ⟨g2, o2 + 4, none⟩ = some (.int .i64 2) ∧ w5.cell? ⟨g2, o2 + 4 + 1, none⟩ = some (.int .i64 0) ∧ w5.cell? ⟨g2, o2 + 4 + 2, none⟩ = some (.int .i64 2) ∧ w5.cell? ⟨g2, o2 + 4 + 3, none⟩ = some (.int .i64 8)) (hg : Hid (w5.grownBy w' none)) :
    w'.cell? ⟨B, 2, none⟩ = some (.slice (some ⟨g1, o1, none⟩) 1 c) ∧ w'.cell? ⟨g1, o1, none⟩ = some (.int .i64 3) ∧ w'.cell? ⟨g1, o1 + 1, none⟩ = some (.int .i64 1) ∧ w'.cell? ⟨g2, o2 + 4, none⟩ = some (.int .i64 2) ∧ w'.cell? ⟨g2, o2 + 4 + 1, none⟩ = some (.int .i64 0) ∧ w'.cell? ⟨g2, o2 + 4 + 2, none⟩ = some (.int .i64 2) ∧ w'.cell? ⟨g2, o2 + 4 + 3, none⟩ = some (.int .i64 8) ∧ Hid (w5.grownBy w' none) := by
  obtain ⟨h0, h1, h2, h3, h4, h5, h6⟩ := h
  exact ⟨hg.out.cell h0 (by simp), hg.out.cell h1 (by simp), hg.out.cell h2 (by simp), hg.out.cell h3 (by simp), hg.out.cell h4 (by simp), hg.out.cell h5 (by simp), hg.out.cell h6 (by simp), hg⟩
set_option maxRecDepth 100000 in
set_option maxHeartbeats 6400000 in
theorem iawake_any (w : World) :
    Calls Tryd.prog 18 #[] w fun e w' => e = .returned (.bool true) ∧ w.grownBy w' none := by
  go_enter Tryd.func18, Tryd.ntmps18
  go_wp2_with fail
  refine (iclaim_any 1 5 w).mono ?_
  rintro e w1 ⟨rfl, hg⟩
  have G1 := Lib.hid hg
  clear hg
  go_wp2_with fail
  refine (iclaim_any 2 5 w1).mono ?_
  rintro e w2 ⟨rfl, hg⟩
  have G2 := Lib.hid (grown_trans G1.out hg)
  clear hg G1
  go_wp2_with fail
  refine (iclaim_any 3 1 w2).mono ?_
  rintro e w3 ⟨rfl, hg⟩
  have G3 := Lib.hid (grown_trans G2.out hg)
  have H3 := Lib.hid (rd12 w3 (fun _ => True) trivial)
  have HG3 := Lib.hid (grown_trans G3.out (World.grownBy_alloc w3 (.cells #[.int .i64 1, .int .i64 0, .int .i64 5, .int .i64 8, .int .i64 2, .int .i64 0, .int .i64 5, .int .i64 8, .int .i64 3, .int .i64 0, .int .i64 1, .int .i64 8] 79) none))
  clear hg G2 G3
  go_upto_region 2 with fail
  generalize w3.alloc _ = w4 at *
  go_wp2_with fail
  refine (iplan_any exL (some ⟨w3.heap.size, 0, none⟩) 3 0 _ w4 H3.out (by decide)).mono ?_
  rintro e w5 ⟨p5, c5, rfl, ho, hg⟩
  rw [ex_p0.1, ex_p0.2.1, ex_p0.2.2, ex_p1]
  rw [ex_p1] at ho
  obtain ⟨m1, m2⟩ := tone_box w5 #[.int .i64 0, .int .i64 8, .slice p5 1 c5] 30
  have H5 := Lib.hid (And.intro ((H3.out.keep hg).keep m2) (And.intro (grown_trans (grown_trans HG3.out hg) m2) (And.intro m1 (ho.kept m2 (by cases (Value.slice p5 [(⟨3, 1⟩ : Ed)].length c5).ownBlock <;> simp)))))
  clear m1 m2 ho hg H3 HG3
  go_upto_region 3 with fail
  generalize w5.alloc _ = w6 at *
  go_wp2_with fail
  refine (ires_any exL (some ⟨w3.heap.size, 0, none⟩) 3 0 _ w6 H5.out.1 (fun h => by cases h) (by decide)).mono ?_
  rintro e w7 ⟨p7, c7, rfl, ho, hg⟩
  rw [ex_r0, ex_r1]
  rw [ex_r1] at ho
  have H7 := Lib.hid (And.intro (kept_row H5.out.2.2.1 hg (by simp)) (And.intro (rdf_of_own (H5.out.2.2.2.kept hg (by cases (Value.slice p5 [(⟨3, 1⟩ : Ed)].length c5).ownBlock <;> simp))) (And.intro (rdf_of_own ho) (grown_trans H5.out.2.1 hg))))
  clear ho hg H5
  go_wp2_with fail
  refine (iplc_any 9 8 w7).mono ?_
  rintro e w8 ⟨rfl, hg⟩
  rw [ex_l.1, ex_l.2.1, ex_l.2.2]
  have H8 := Lib.hid (And.intro (kept_row H7.out.1 hg (by simp)) (And.intro (H7.out.2.1.keep hg) (And.intro (H7.out.2.2.1.keep hg) (grown_trans H7.out.2.2.2 hg))))
  clear hg H7
  obtain ⟨-, g1, o1, rfl, -, hE⟩ := ed_cells H8.out.2.1 (by decide)
  obtain ⟨e0, e1⟩ := hE 0 _ rfl
  obtain ⟨-, g2, o2, rfl, -, hO⟩ := od_cells H8.out.2.2.1 (by decide)
  obtain ⟨q0, q1, q2, q3⟩ := hO 1 _ rfl
  rw [Nat.zero_mul, Nat.add_zero] at e0 e1
  rw [Nat.one_mul] at q0 q1 q2 q3
  have c2 : w8.cell? ⟨w5.heap.size, 2, none⟩ = some (.slice (some ⟨g1, o1, none⟩) 1 c5) := cell_of_row _ _ 2 _ _ _ H8.out.1
  have HF := Lib.hid (And.intro c2 (And.intro e0 (And.intro e1 (And.intro q0 (And.intro q1 (And.intro q2 q3))))))
  have HGW := Lib.hid H8.out.2.2.2
  clear hE hO c2 e0 e1 q0 q1 q2 q3 H8
  have GZ : Hid (w8.grownBy w8 none) := Lib.hid (grown_refl _ _)
  go_upto_region 5 with fail
  obtain ⟨a0, a1, a2, a3, a4, a5, a6⟩ := HF.out
  go_region_held3 (fun w' => w'.cell? ⟨w5.heap.size, 2, none⟩ = some (.slice (some ⟨g1, o1, none⟩) 1 c5) ∧ w'.cell? ⟨g1, o1, none⟩ = some (.int .i64 3) ∧ w'.cell? ⟨g1, o1 + 1, none⟩ = some (.int .i64 1) ∧ w'.cell? ⟨g2, o2 + 4, none⟩ = some (.int .i64 2) ∧ w'.cell? ⟨g2, o2 + 4 + 1, none⟩ = some (.int .i64 0) ∧ w'.cell? ⟨g2, o2 + 4 + 2, none⟩ = some (.int .i64 2) ∧ w'.cell? ⟨g2, o2 + 4 + 3, none⟩ = some (.int .i64 8) ∧ Hid (w8.grownBy w' none))
    (first | with_reducible exact keepAw HF.out (hid_drew GZ) | (with_reducible exact keepAw HF.out (hid_drew (hid_more GZ hg))) | (go_split_ands; with_reducible refine keepAw HF.out ?_; with_reducible assumption) | (go_split_ands; with_reducible refine keepAw HF.out (hid_more ?_ hg); with_reducible assumption))
    ((go_at_call 41; refine (iclaim_any 2 2 _).mono ?_; rintro e w' ⟨rfl, hg⟩))
  all_goals
    go_split_ands
    go_wp2_with fail
    go_ret
    exact ⟨rfl, grown_trans HGW.out (Hid.out (by assumption))⟩
end Go.Proofs.YtlgmankojgjfjaaDoor

/- The reference's Ints at equal lists. -/
namespace Go.Proofs.YtlgmankojgjfjaaDoor
open Go.RowKit Bs
set_option maxRecDepth 100000 in
set_option maxHeartbeats 1600000 in
theorem iints_any (r : List Int) (p1 p2 : Option Addr) (c1 c2 : Nat) (q1 q2 : Nat → Prop) (w : World) (h1 : Rd w q1 (.slice p1 r.length c1) (r.map fun z => Value.int .i64 z)) (h2 : Rd w q2 (.slice p2 r.length c2) (r.map fun z => Value.int .i64 z)) (hm : r.length ≤ 9223372036854775807) :
    Calls Tryd.prog 17 #[.slice p1 r.length c1, .slice p2 r.length c2] w fun e w' => e = .returned (.bool true) ∧ w.grownBy w' none := by
  have H := Lib.hid (And.intro h1 h2)
  clear h1 h2
  go_enter Tryd.func17, Tryd.ntmps17
  go_wp2_with fail
  go_loopw [5] (fun a wr => ∃ k : Nat, k ≤ r.length ∧ a = .int .i64 (k : Int) ∧ w.grownBy wr none) (fun a _ => r.length - (RowKit.intOf a).toNat)
  case atStart => exact ⟨0, Nat.zero_le _, rfl, grown_refl _ _⟩
  case round =>
    obtain ⟨k, hk, rfl, hG⟩ := hrel
    by_cases hlt : k < r.length
    · obtain ⟨-, b1, o1, rfl, _, hc1⟩ := rdi_at (H.out.1.keep hG) (by omega)
      obtain ⟨-, b2, o2, rfl, _, hc2⟩ := rdi_at (H.out.2.keep hG) (by omega)
      obtain ⟨y, hy⟩ : ∃ y, r[k]? = some y := ⟨_, List.getElem?_eq_getElem hlt⟩
      have e1 := hc1 k y hy
      have e2 := hc2 k y hy
      clear hy
      have HG := Lib.hid hG
      clear hc1 hc2 hG
      go_wp2_with fail
      go_region
      have HG2 := Lib.hid (grown_drew HG.out)
      clear HG e1 e2
      change Exit.then _ _ _ _ wr.drew
      generalize wr.drew = w2 at *
      go_wp2_with fail
      exact ⟨⟨k + 1, by omega, congrArg _ (by omega), HG2.out⟩, by simp only [RowKit.intOf]; omega⟩
    · obtain rfl : k = r.length := by omega
      have HG := Lib.hid hG
      clear hG
      go_wp2_with fail
      go_ret
      exact ⟨rfl, HG.out⟩
end Go.Proofs.YtlgmankojgjfjaaDoor

/- The reference's Repeats. -/
namespace Go.Proofs.YtlgmankojgjfjaaDoor
open Go.RowKit Bs
end Go.Proofs.YtlgmankojgjfjaaDoor

/- The reference's ValidPlan. -/
namespace Go.Proofs.YtlgmankojgjfjaaDoor
open Go.RowKit Bs
section
variable {W w w1 : World} {sub n : Int} {E : List Ed} {p : Option Addr} {c : Nat} {v v' : Value} {M N : List Int}
end
end Go.Proofs.YtlgmankojgjfjaaDoor

/- The reference's Sets. -/
namespace Go.Proofs.YtlgmankojgjfjaaDoor
open Go.RowKit Bs
section
variable {W w w1 : World} {sub n : Int} {E : List Ed} {p px : Option Addr} {c cx : Nat} {X : List Int} {v v' : Value} {M N : List Sb}
end
end Go.Proofs.YtlgmankojgjfjaaDoor

/- Spread, Gather, Nth, Rank as plain functions of numbers. No program is named here. -/
namespace Go.Proofs.YtlgmankojgjfjaaDoor
open Go.RowKit
namespace Bs
def cnt (b : Nat) : Nat := (bl b).length
set_option maxRecDepth 100000 in
theorem cnt_le (b : Nat) : cnt b ≤ 64 := bl_length_le b
/-- A bit put to a place. -/
def put (t : Bool) (k : Nat) : Nat := if t then b2 k else 0
/-- c is b without its j lowest bits. -/
def Strip (b c j : Nat) : Prop := U64 c ∧ bl c = (bl b).drop j ∧ j ≤ cnt b
set_option maxRecDepth 100000 in
theorem Strip.start {b : Nat} (h : U64 b) : Strip b b 0 := ⟨h, rfl, Nat.zero_le _⟩
set_option maxRecDepth 100000 in
theorem Strip.step {b c j : Nat} (h : Strip b c j) (h0 : c ≠ 0) : Strip b (wo c) (j + 1) ∧ (bl b)[j]? = some (Lib.ctz 64 c) := by
  have hc := bl_wo h0 h.1.lt
  rw [h.2.1] at hc
  have h1 : (bl b)[j]? = some (Lib.ctz 64 c) := by
    have := congrArg (fun l => l[0]?) hc
    simpa using this
  refine ⟨⟨u64_wo c h.1, ?_, (List.getElem?_eq_some_iff.1 h1).1⟩, h1⟩
  have := congrArg List.tail hc
  rw [List.tail_drop] at this
  simpa using this.symm
set_option maxRecDepth 100000 in
theorem Strip.end_ {b j : Nat} (h : Strip b 0 j) : j = cnt b := by
  have h1 := h.2.1
  rw [bl_zero] at h1
  have := congrArg List.length h1
  rw [List.length_drop] at this
  have h2 := h.2.2
  unfold cnt at h2 ⊢
  simp at this
  omega
set_option maxRecDepth 100000 in
theorem Strip.more {b c j : Nat} (h : Strip b c j) (hj : j < cnt b) : c ≠ 0 := by
  rintro rfl
  have := h.end_
  omega
set_option maxRecDepth 100000 in
theorem Strip.done {b j : Nat} (h : Strip b 0 j) : (bl b).take j = bl b := by
  rw [h.end_]; exact List.take_length
set_option maxRecDepth 100000 in
theorem take_next {l : List Nat} {j x : Nat} (h : l[j]? = some x) : l.take (j + 1) = l.take j ++ [x] := by
  rw [List.take_add_one, h]; rfl
end Bs
end Go.Proofs.YtlgmankojgjfjaaDoor

/- Full, Valid, Count, First, Rank of the program; Full, Valid of the reference. -/
namespace Go.Proofs.YtlgmankojgjfjaaDoor
open Go.RowKit Bs

/-- All bits below a valid length. -/
def full (n : Int) : Nat := if vl n then lo n.toNat else 0
/-- Is the bit string valid for the length? -/
def vb (b : Nat) (n : Int) : Bool := vl n && b &&& (18446744073709551615 - full n) == 0
set_option maxRecDepth 100000 in
set_option maxHeartbeats 400000 in
theorem countp_any (b : Nat) (hb : U64 b) (w : World) :
    Calls Tryd.prog 59 #[.int .u64 (b : Int)] w fun e w' => e = .returned (.int .i64 ((cnt b : Nat) : Int)) ∧ w = w' := by
  go_enter Tryd.func59, Tryd.ntmps59
  go_wp2_with (go_at_call 71; refine (ones_any _ hb _).mono ?_; rintro e w' ⟨rfl, rfl⟩)
  go_ret
  exact ⟨rfl, rfl⟩
/-- The lowest bit, -1 if there is none. -/
def fst (b : Nat) : Int := if b = 0 then -1 else ((Lib.ctz 64 b : Nat) : Int)
set_option maxRecDepth 100000 in
set_option maxHeartbeats 400000 in
theorem firstp_any (b : Nat) (hb : U64 b) (w : World) (hT : Tb w) :
    Calls Tryd.prog 61 #[.int .u64 (b : Int)] w fun e w' => e = .returned (.int .i64 (fst b)) ∧ w = w' := by
  by_cases h0 : b = 0
  · subst h0
    go_enter Tryd.func61, Tryd.ntmps61
    go_wp2
    go_ret
    exact ⟨rfl, rfl⟩
  · have hz : ((b : Int) == 0) = false := by simp; omega
    have F : Hid (fst b = ((Lib.ctz 64 b : Nat) : Int)) := by show fst b = _; unfold fst; rw [if_neg h0]
    clear h0
    go_enter Tryd.func61, Tryd.ntmps61
    go_wp2_with (go_at_call 72; refine (tz_any _ hb _ hT).mono ?_; rintro e w' ⟨rfl, rfl⟩)
    go_ret
    exact ⟨ret_int (by rw [F.out]), rfl⟩
end Go.Proofs.YtlgmankojgjfjaaDoor

/- The program's functions on bits: List, Nth, Rank, Spread, Gather. -/
namespace Go.Proofs.YtlgmankojgjfjaaDoor
open Go.RowKit Bs

set_option maxRecDepth 100000 in
theorem Tb.grown {w w' : World} {r : Option Nat} (h : Tb w) (g : w.grownBy w' r) (hr : r ≠ some 0) : Tb w' := by
  intro j hj
  exact g.cell (h j hj) (fun e => hr e.symm)
set_option maxRecDepth 100000 in
theorem Tb.keep {w w' : World} (h : Tb w) (g : w.grownBy w' none) : Tb w' := h.grown g (by simp)

set_option maxRecDepth 100000 in
theorem fst_pos {c : Nat} (h : c ≠ 0) : fst c = ((Lib.ctz 64 c : Nat) : Int) := by unfold fst; rw [if_neg h]

/-- The j lowest bits. -/
def tk (b j : Nat) : List Nat := (bl b).take j
set_option maxRecDepth 100000 in
theorem tk_le (b j : Nat) : (tk b j).length ≤ 64 := by unfold tk; rw [List.length_take]; have := bl_length_le b; omega
def ListRel (b : Nat) (w : World) (v : Value) (c j : Nat) (wr : World) : Prop :=
  Strip b c j ∧ wr.ownsRow w.heap.size 3 1 v (tk b j).length ((tk b j).map ival) ∧ w.grownBy wr none
set_option maxRecDepth 100000 in
theorem list_hit {b c j : Nat} {w wr w1 : World} {v v' : Value} {o : Obj} (h : ListRel b w v c j wr) (h0 : c ≠ 0)
    (hown' : w1.ownsRow w.heap.size 3 1 v' ((tk b j).length + 1) ((tk b j).map ival ++ [.int .i64 (fst c)])) (hg : (wr.alloc o).grownBy w1 v.ownBlock) : ListRel b w v' (wo c) (j + 1) w1 := by
  obtain ⟨h1, h2⟩ := h.1.step h0
  refine ⟨h1, ?_, own_step h.2.2 h.2.1 hg⟩
  unfold tk at hown' ⊢
  rw [take_next h2, List.length_append, List.map_append]
  rw [fst_pos h0] at hown'
  exact hown'
set_option maxRecDepth 100000 in
set_option maxHeartbeats 800000 in
theorem listp_any (b : Nat) (hb : U64 b) (w : World) (hT : Tb w) :
    Calls Tryd.prog 37 #[.int .u64 (b : Int)] w fun e w' => ListPost ((bl b).map ival) w e w' := by
  obtain ⟨i0, hi, hz0, hz1, hz2⟩ := info_parts info_int
  have hle := cnt_le b
  go_enter Tryd.func37, Tryd.ntmps37
  go_wp2_with (first
    | (go_at_call 59; refine (countp_any _ hb _).mono ?_; rintro e w' ⟨rfl, rfl⟩)
    | (at_make; refine wpList_make_own _ rfl _ _ 22 rfl w.heap.size 3 i0 (.int .i64 0) 1 Tryd.underlying22 hi hz0 hz1 .i64 .i64 _ (cnt b) rfl rfl rfl ?c1 ?c2 ?c3 ?_))
  case c1 => rw [hz2]; omega
  case c2 => unfold maxLen; omega
  case c3 => exact Nat.le_refl _
  intro w1 hown1 hg1
  have R0 := Lib.hid (⟨Strip.start hb, hown1, hg1⟩ : ListRel b w _ b 0 w1)
  clear hown1 hg1
  go_wp2_with fail
  go_loopw [0, 3] (fun x v wr => ∃ c j : Nat, x = .int .u64 (c : Int) ∧ ListRel b w v c j wr) (fun x _ _ => (RowKit.intOf x).toNat)
  case atStart => exact ⟨b, 0, rfl, R0.out⟩
  case round =>
    obtain ⟨c, j, rfl, hR⟩ := hrel
    have hTr : Tb wr := hT.keep hR.2.2
    have hcu := hR.1.1
    have hlen := tk_le b j
    have hsz := hR.2.2.size
    by_cases h0 : c = 0
    · subst h0
      have R := Lib.hid hR
      clear hR R0
      go_wp2_with fail
      go_ret
      have hd := R.out.1.done
      have ho := R.out.2.1
      unfold tk at ho
      rw [hd] at ho
      exact ⟨_, rfl, rd_of_own ho, R.out.2.2⟩
    · have hz : (((c : Nat) : Int) != 0) = true := by simp; omega
      have hown := hR.2.1
      have hR' := Lib.hid hR
      have h0' := Lib.hid h0
      have hlt := wo_lt h0
      clear hR h0 R0
      go_wp2_with (first
        | (go_at_call 61; refine (firstp_any _ hcu _ hTr).mono ?_; rintro e w' ⟨rfl, rfl⟩)
        | (at_builtin; refine wpList_append_own _ rfl _ _ 22 rfl w.heap.size 3 i0 (.int .i64 0) 1 8 Tryd.underlying22 hi hz0 hz1 hz2 rfl (by decide) _ _ _ rfl (hown.alloc _) ⟨wr.heap.size, 0, none⟩ 1 1 [.int .i64 (fst c)] rfl rfl ?c1 ?c2 ?c3 ?c4 ?c5 ?_))
      case c1 => exact cell_one _ _ _
      case c2 => intro u hu; simp at hu; subst hu; rfl
      case c3 => unfold maxLen; omega
      case c4 => omega
      case c5 => simp; omega
      intro v' w2 hown' hg _
      have R := Lib.hid (list_hit hR'.out h0'.out hown' hg)
      clear hown' hg hown hR' h0'
      go_wp2_with (go_at_call 60; refine (wo_any _ hcu _).mono ?_; rintro e w' ⟨rfl, rfl⟩)
      go_roundw
      case rel => exact ⟨_, j + 1, rfl, R.out⟩
      case measure => simp [RowKit.intOf]; omega
end Go.Proofs.YtlgmankojgjfjaaDoor

/- Parts of the proof, packed: IdSeek, IdChk, IdFre, IdCon, IdLen, IdLay, IdSrt, IdEdg, IdRes, IdRsW, IdRtw, IdPln, IdVpl, IdRck, IdRcn, IdAwk, IdInt, IdRep, IdRvp, TaRAl, MaRHp, MaBit, MaRBt, TaRck, MaRMk, MaNxt, TaCpM, TaCpy, IoOrder, IdTpM, TaVal. -/
import Derived.Test.YtahafijpcmphaaaGreatQn14
import Derived.Test.YtahafijpcmphaaaGreatQn2
import Derived.Test.YtahafijpcmphaaaGreatQn15
import Derived.Lib.SliceRun
import Derived.Deep.CutRange
import Derived.Laws.StructEq
import Derived.Test.YtahafijpcmphaaaGreatQn3
import Derived.Test.YtahafijpcmphaaaGreatQn12
import Derived.Test.YtahafijpcmphaaaGreatQn5
import Derived.Test.YtahafijpcmphaaaGreatQn1
import Derived.Test.YtahafijpcmphaaaGreatQn11
/- identify: IndexFunc, ContainsFunc and ascending at claims and at edges. -/
namespace Go.Proofs.YtahafijpcmphaaaGreat
open Go.RowKit Bs
set_option maxRecDepth 100000 in
theorem icmpe2_any (r s : Ed) (w : World) :
    Calls Tryz.prog 150 #[.agg #[.int .i64 r.r, .int .i64 r.i], .agg #[.int .i64 s.r, .int .i64 s.i]] w fun e w' => e = .returned (.int .i64 (cmpV r.i s.i)) ∧ w.grownBy w' none := by
  refine (icmpe_any r s w).mono ?_
  rintro e w' ⟨rfl, rfl⟩
  exact ⟨rfl, grown_trans (World.grownBy_alloc w _ _) (World.grownBy_alloc _ _ _)⟩
set_option maxRecDepth 100000 in
set_option maxHeartbeats 1600000 in
theorem iidxE_any (g : Nat) (lb : Array Value) (P : Ed → Bool) (eg : EnterF g) (R : List Ed) (p : Option Addr) (c : Nat) (q : Nat → Prop) (w : World) (hR : RdF w q (.slice p R.length c) R.length (R.flatMap edC)) (hm : R.length ≤ 9223372036854775807)
    (hP : ∀ (r : Ed) (w' : World), w.grownBy w' none → Calls Tryz.prog g (#[.agg #[.int .i64 r.r, .int .i64 r.i]] ++ lb) w' fun e w2 => e = .returned (.bool (P r)) ∧ w'.grownBy w2 none) :
    Calls Tryz.prog 166 #[.slice p R.length c, .func (.func g) #[] lb] w fun e w' => ∃ i : Int, e = .returned (.int .i64 i) ∧ decide (0 ≤ i) = R.any P ∧ w.grownBy w' none := by
  have HR := Lib.hid hR
  have HP := Lib.hid hP
  clear hR hP
  go_enter Tryz.func166, Tryz.ntmps166
  go_wp2_with fail
  go_loopw [8] (fun a wr => ∃ k : Nat, k ≤ R.length ∧ a = .int .i64 (k : Int) ∧ Hid (w.grownBy wr none) ∧ Hid ((R.take k).any P = false)) (fun a _ => R.length - (RowKit.intOf a).toNat)
  case atStart => exact ⟨0, Nat.zero_le _, rfl, Lib.hid (grown_refl _ _), Lib.hid rfl⟩
  case round =>
    obtain ⟨k, hk, rfl, G, HN⟩ := hrel
    by_cases hlt : k < R.length
    · obtain ⟨-, b, off, rfl, hq, hc⟩ := ed_cells (HR.out.keep G.out) (by omega)
      obtain ⟨x, hx⟩ : ∃ x, R[k]? = some x := ⟨_, List.getElem?_eq_getElem hlt⟩
      obtain ⟨a0, a1⟩ := hc k x hx
      have HX := Lib.hid hx
      clear hc hx
      have hcall := HP.out x wr G.out
      cases hp : P x
      · rw [hp] at hcall
        have HY := Lib.hid hp
        clear hp
        go_wp2_with (go_at_fn g; refine hcall.mono ?_; rintro e w' ⟨rfl, hg⟩; have HG := Lib.hid (grown_trans G.out hg); clear hg)
        exact ⟨⟨k + 1, by omega, congrArg _ (by omega), HG, Lib.hid (any_take HN.out HX.out HY.out)⟩, by simp only [RowKit.intOf]; omega⟩
      · rw [hp] at hcall
        have HY := Lib.hid hp
        clear hp
        go_wp2_with (go_at_fn g; refine hcall.mono ?_; rintro e w' ⟨rfl, hg⟩; have HG := Lib.hid (grown_trans G.out hg); clear hg)
        go_ret
        refine ⟨_, rfl, ?_, HG.out⟩
        rw [any_at HX.out HY.out, decide_eq_true_eq]; omega
    · obtain rfl : k = R.length := by omega
      go_wp2_with fail
      go_ret
      refine ⟨_, rfl, ?_, G.out⟩
      rw [any_end HN.out (Nat.le_refl _)]; decide
set_option maxRecDepth 100000 in
set_option maxHeartbeats 1600000 in
theorem icontE_any (g : Nat) (lb : Array Value) (P : Ed → Bool) (eg : EnterF g) (R : List Ed) (p : Option Addr) (c : Nat) (q : Nat → Prop) (w : World) (hR : RdF w q (.slice p R.length c) R.length (R.flatMap edC)) (hm : R.length ≤ 9223372036854775807)
    (hP : ∀ (r : Ed) (w' : World), w.grownBy w' none → Calls Tryz.prog g (#[.agg #[.int .i64 r.r, .int .i64 r.i]] ++ lb) w' fun e w2 => e = .returned (.bool (P r)) ∧ w'.grownBy w2 none) :
    Calls Tryz.prog 147 #[.slice p R.length c, .func (.func g) #[] lb] w fun e w' => e = .returned (.bool (R.any P)) ∧ w.grownBy w' none := by
  have HR := Lib.hid hR
  have HP := Lib.hid hP
  clear hR hP
  go_enter Tryz.func147, Tryz.ntmps147
  go_wp2_with (go_at_call 166; refine (iidxE_any g lb P eg R p c q w HR.out hm HP.out).mono ?_; rintro e w' ⟨i, rfl, hi, hg⟩; have HI := Lib.hid (And.intro hi hg); clear hi hg)
  go_ret
  rw [← HI.out.1]
  exact ⟨rfl, HI.out.2⟩
set_option maxRecDepth 100000 in
theorem ascE_end {R : List Ed} (h : ∀ i x y, i + 1 < R.length → R[i]? = some x → R[i + 1]? = some y → ltE x y = true) : ascB ltE R = true :=
  (ascB_iff _ _).2 fun i x y hx hy => h i x y ((List.getElem?_eq_some_iff.1 hy).1) hx hy
set_option maxRecDepth 100000 in
theorem ascE_hit {R : List Ed} {i : Nat} {x y : Ed} (hx : R[i]? = some x) (hy : R[i + 1]? = some y) (h : ltE x y = false) : ascB ltE R = false := by
  rw [Bool.eq_false_iff]
  intro h2
  have := (ascB_iff _ _).1 h2 i x y hx hy
  rw [h] at this; cases this
set_option maxRecDepth 100000 in
theorem ltE_of_ge {x y : Ed} (h : 0 ≤ cmpV x.i y.i) : ltE x y = false := by
  exact (by have := cmpV_ge.1 h; unfold ltE; rw [decide_eq_false_iff_not]; omega)
set_option maxRecDepth 100000 in
theorem ltE_of_lt {x y : Ed} (h : ¬ 0 ≤ cmpV x.i y.i) : ltE x y = true := by
  exact (by have : ¬ y.i ≤ x.i := fun e => h (cmpV_ge.2 e); unfold ltE; rw [decide_eq_true_eq]; omega)
set_option maxRecDepth 100000 in
theorem keepAE {wr w' : World} {b i j : Nat} {x y : Ed} (h : wr.cell? ⟨b, i, none⟩ = some (.int .i64 x.r) ∧ wr.cell? ⟨b, i + 1, none⟩ = some (.int .i64 x.i) ∧ wr.cell? ⟨b, j, none⟩ = some (.int .i64 y.r) ∧ wr.cell? ⟨b, j + 1, none⟩ = some (.int .i64 y.i)) (hg : Hid (wr.grownBy w' none)) : w'.cell? ⟨b, i, none⟩ = some (.int .i64 x.r) ∧ w'.cell? ⟨b, i + 1, none⟩ = some (.int .i64 x.i) ∧ w'.cell? ⟨b, j, none⟩ = some (.int .i64 y.r) ∧ w'.cell? ⟨b, j + 1, none⟩ = some (.int .i64 y.i) ∧ Hid (wr.grownBy w' none) := by
  obtain ⟨h0, h1, h2, h3⟩ := h
  exact ⟨hg.out.cell h0 (by simp), hg.out.cell h1 (by simp), hg.out.cell h2 (by simp), hg.out.cell h3 (by simp), hg⟩
set_option maxRecDepth 100000 in
set_option maxHeartbeats 3200000 in
theorem iascE_any (R : List Ed) (p : Option Addr) (c : Nat) (q : Nat → Prop) (w : World) (hR : RdF w q (.slice p R.length c) R.length (R.flatMap edC)) (hm : R.length ≤ 9223372036854775807) :
    Calls Tryz.prog 149 #[.slice p R.length c, .func (.func 150) #[] #[]] w fun e w' => e = .returned (.bool (ascB ltE R)) ∧ w.grownBy w' none := by
  have eg : EnterF 150 := enters_of Tryz.func150 (by kernel_rfl) rfl
  have HR := Lib.hid hR
  clear hR
  go_enter Tryz.func149, Tryz.ntmps149
  go_wp2_with fail
  go_loopw [5] (fun a wr => ∃ k : Nat, 1 ≤ k ∧ (k ≤ R.length ∨ k = 1) ∧ a = .int .i64 (k : Int) ∧ Hid (w.grownBy wr none) ∧ Hid (∀ i x y, i + 1 < k → R[i]? = some x → R[i + 1]? = some y → ltE x y = true)) (fun a _ => R.length - (RowKit.intOf a).toNat)
  case atStart => exact ⟨1, by omega, Or.inr rfl, rfl, Lib.hid (grown_refl _ _), Lib.hid (fun i x y h => by omega)⟩
  case round =>
    obtain ⟨k, hk1, hk, rfl, G, HN⟩ := hrel
    by_cases hlt : k < R.length
    · obtain ⟨j, rfl⟩ : ∃ j, k = j + 1 := ⟨k - 1, by omega⟩
      obtain ⟨-, b, off, rfl, hq, hc⟩ := ed_cells (HR.out.keep G.out) (by omega)
      obtain ⟨x, hx⟩ : ∃ x, R[j]? = some x := ⟨_, List.getElem?_eq_getElem (by omega)⟩
      obtain ⟨y, hy⟩ : ∃ y, R[j + 1]? = some y := ⟨_, List.getElem?_eq_getElem hlt⟩
      obtain ⟨a0, a1⟩ := hc j x hx
      obtain ⟨b0, b1⟩ := hc (j + 1) y hy
      have HXY := Lib.hid (And.intro hx hy)
      have ew1 : ((j : Int) + 1 - 1) = (j : Int) := by omega
      have ew2 : IntKind.i64.wrap ((j : Int) + 1 - 1) = (j : Int) := by rw [ew1, IntWalk.i64_in _ (by omega)]
      have ew3 : IntKind.i64.wrap (j : Int) = (j : Int) := IntWalk.i64_in _ (by omega)
      have j0 : (0 : Int) ≤ (j : Int) := by omega
      have j1 : (0 : Int) ≤ (j : Int) + 1 := by omega
      have j2 : (j : Int) < (R.length : Int) := by omega
      have j3 : (j : Int) + 1 < (R.length : Int) := by omega
      have j4 : ((j : Int) + 1).toNat = j + 1 := by omega
      clear hc hx hy
      have hcast : ((j + 1 : Nat) : Int) = (j : Int) + 1 := by omega
      rw [hcast]
      have HF := Lib.hid (show wr.cell? ⟨b, off + j * 2, none⟩ = some (.int .i64 x.r) ∧ wr.cell? ⟨b, off + j * 2 + 1, none⟩ = some (.int .i64 x.i) ∧ wr.cell? ⟨b, off + (j + 1) * 2, none⟩ = some (.int .i64 y.r) ∧ wr.cell? ⟨b, off + (j + 1) * 2 + 1, none⟩ = some (.int .i64 y.i) from ⟨a0, a1, b0, b1⟩)
      have GZ : Hid (wr.grownBy wr none) := Lib.hid (grown_refl _ _)
      go_upto_region 4 with fail
      cases hlt2 : ltE x y
      · have hge : 0 ≤ cmpV x.i y.i := by
          by_cases h : 0 ≤ cmpV x.i y.i
          · exact h
          · rw [ltE_of_lt h] at hlt2; cases hlt2
        have HL := Lib.hid hlt2
        clear hlt2
        go_region_held3 (fun w' => w'.cell? ⟨b, off + j * 2, none⟩ = some (.int .i64 x.r) ∧ w'.cell? ⟨b, off + j * 2 + 1, none⟩ = some (.int .i64 x.i) ∧ w'.cell? ⟨b, off + (j + 1) * 2, none⟩ = some (.int .i64 y.r) ∧ w'.cell? ⟨b, off + (j + 1) * 2 + 1, none⟩ = some (.int .i64 y.i) ∧ Hid (wr.grownBy w' none))
          (first | with_reducible exact keepAE HF.out (hid_drew GZ) | (with_reducible exact keepAE HF.out (hid_drew (hid_more GZ hg))) | (go_split_ands; with_reducible refine keepAE HF.out ?_; with_reducible assumption) | (go_split_ands; with_reducible refine keepAE HF.out (hid_more ?_ hg); with_reducible assumption))
          ((go_at_call 150; refine (icmpe2_any x y _).mono ?_; rintro e w' ⟨rfl, hg⟩))
        all_goals
          go_split_ands
          go_wp2_with fail
          go_ret
          rw [ascE_hit HXY.out.1 HXY.out.2 HL.out]
          exact ⟨rfl, grown_trans G.out (Hid.out (by assumption))⟩
      · have hge : ¬ 0 ≤ cmpV x.i y.i := by
          intro h
          rw [ltE_of_ge h] at hlt2; cases hlt2
        have HL := Lib.hid hlt2
        clear hlt2
        go_region_held3 (fun w' => w'.cell? ⟨b, off + j * 2, none⟩ = some (.int .i64 x.r) ∧ w'.cell? ⟨b, off + j * 2 + 1, none⟩ = some (.int .i64 x.i) ∧ w'.cell? ⟨b, off + (j + 1) * 2, none⟩ = some (.int .i64 y.r) ∧ w'.cell? ⟨b, off + (j + 1) * 2 + 1, none⟩ = some (.int .i64 y.i) ∧ Hid (wr.grownBy w' none))
          (first | with_reducible exact keepAE HF.out (hid_drew GZ) | (with_reducible exact keepAE HF.out (hid_drew (hid_more GZ hg))) | (go_split_ands; with_reducible refine keepAE HF.out ?_; with_reducible assumption) | (go_split_ands; with_reducible refine keepAE HF.out (hid_more ?_ hg); with_reducible assumption))
          ((go_at_call 150; refine (icmpe2_any x y _).mono ?_; rintro e w' ⟨rfl, hg⟩))
        all_goals
          go_split_ands
          have HGW := Lib.hid (grown_trans G.out (Hid.out (by assumption)))
          go_wp2_with fail
          refine ⟨⟨j + 1 + 1, by omega, Or.inl (by omega), congrArg _ (by omega), HGW, Lib.hid fun i x2 y2 hi hx2 hy2 => ?_⟩, by simp only [RowKit.intOf]; omega⟩
          by_cases hij : i = j
          · subst hij
            have e1 := HXY.out.1.symm.trans hx2
            have e2 := HXY.out.2.symm.trans hy2
            injection e1 with e1
            injection e2 with e2
            subst e1
            subst e2
            exact HL.out
          · exact HN.out i x2 y2 (by omega) hx2 hy2
    · have h1 : ¬ (k : Int) < (R.length : Int) := by omega
      go_wp2_with fail
      go_ret
      rw [ascE_end fun i x y hi hx hy => HN.out i x y (by omega) hx hy]
      exact ⟨rfl, G.out⟩
end Go.Proofs.YtahafijpcmphaaaGreat

/- empty -/
namespace Go.Proofs.YtahafijpcmphaaaGreat
end Go.Proofs.YtahafijpcmphaaaGreat

/- empty -/
namespace Go.Proofs.YtahafijpcmphaaaGreat
end Go.Proofs.YtahafijpcmphaaaGreat

/- identify: Conflicts, Length, Free. -/
namespace Go.Proofs.YtahafijpcmphaaaGreat
open Go.RowKit Bs
end Go.Proofs.YtahafijpcmphaaaGreat

/- empty -/
namespace Go.Proofs.YtahafijpcmphaaaGreat
end Go.Proofs.YtahafijpcmphaaaGreat

/- empty -/
namespace Go.Proofs.YtahafijpcmphaaaGreat
end Go.Proofs.YtahafijpcmphaaaGreat

/- empty -/
namespace Go.Proofs.YtahafijpcmphaaaGreat
end Go.Proofs.YtahafijpcmphaaaGreat

/- empty -/
namespace Go.Proofs.YtahafijpcmphaaaGreat
end Go.Proofs.YtahafijpcmphaaaGreat

/- empty -/
namespace Go.Proofs.YtahafijpcmphaaaGreat
end Go.Proofs.YtahafijpcmphaaaGreat

/- empty -/
namespace Go.Proofs.YtahafijpcmphaaaGreat
end Go.Proofs.YtahafijpcmphaaaGreat

/- identify: routerTwice. -/
namespace Go.Proofs.YtahafijpcmphaaaGreat
open Go.RowKit Bs
set_option maxRecDepth 100000 in
theorem info_bs1 : (Tryz.prog.info? 102).map (fun i => (i.zero, i.size)) = some (some (.agg (arrV 100 (bvN fun _ => false))), 100) := by kernel_rfl
set_option maxRecDepth 100000 in
theorem rep_yes {L : List Int} {k : Nat} {x : Int} (hx : L[k]? = some x) (h : x ∈ L.take k) : repI L = true := by
  have hk : k < L.length := (List.getElem?_eq_some_iff.1 hx).1
  unfold repI
  refine List.any_eq_true.2 ⟨k, List.mem_range.2 hk, ?_⟩
  rw [List.getD_eq_getElem?_getD, hx]
  simpa using h
set_option maxRecDepth 100000 in
theorem rep_no {L : List Int} (h : ∀ k x, L[k]? = some x → x ∉ L.take k) : repI L = false := by
  unfold repI
  rw [List.any_eq_false]
  intro k hk
  have hk := List.mem_range.1 hk
  rw [List.getD_eq_getElem?_getD, List.getElem?_eq_getElem hk]
  simpa using h k _ (List.getElem?_eq_getElem hk)
set_option maxRecDepth 100000 in
theorem wre_r {x : Ed} (h : wrE x = false) : 1 ≤ x.r ∧ x.r ≤ 99 := by
  unfold wrE inV at h
  simp only [Bool.not_eq_false', Bool.and_eq_true, decide_eq_true_eq] at h
  exact h.1
/-- While routers are marked in the block B. -/
structure RT (W : World) (E : List Ed) (p : Option Addr) (c B : Nat) (kf : Nat → Bool) (w : World) : Prop where
  kb : w.heap[B]? = some (.cells (arrV 100 (bvN kf)) 102 (0, 0))
  rd : RdF w (· < W.heap.size) (.slice p E.length c) E.length (E.flatMap edC)
  gr : W.grownBy w none
  lo : W.heap.size ≤ B
section
variable {W w w1 : World} {E : List Ed} {p : Option Addr} {c B : Nat} {kf : Nat → Bool}
set_option maxRecDepth 100000 in
theorem RT.keep (h : RT W E p c B kf w) (g : w.grownBy w1 none) : RT W E p c B kf w1 := ⟨kept_row h.kb g (by simp), h.rd.keep g, grown_trans h.gr g, h.lo⟩
set_option maxRecDepth 100000 in
theorem RT.put (h : RT W E p c B kf w) {m : Nat} (hm : m < 100) : RT W E p c B (fun j => if j = m then true else kf j) (w.setCell ⟨B, m, none⟩ (.bool true)) := by
  obtain ⟨h1, h2⟩ := arr_put (.bool true) h.kb hm
  have hlo := h.lo
  refine ⟨?_, h.rd.grown h2 (fun b hb e => by have := Option.some.inj e; omega), grown_new h.gr h2 (by omega), hlo⟩
  rw [h1]
  congr 2
  refine arr_congr fun j _ => ?_
  unfold bvN
  show (if j = m then _ else _) = Value.bool (if j = m then true else kf j)
  split <;> rfl
end
/-- The routers of edges. -/
def rsE (E : List Ed) : List Int := E.map Ed.r
set_option maxRecDepth 100000 in
theorem rsE_at {E : List Ed} {k : Nat} {x : Ed} (h : E[k]? = some x) : (rsE E)[k]? = some x.r := by unfold rsE; rw [List.getElem?_map, h]; rfl
set_option maxRecDepth 100000 in
set_option maxHeartbeats 6400000 in
theorem irtw_any (E : List Ed) (p : Option Addr) (c : Nat) (q : Nat → Prop) (w : World) (hR : RdF w q (.slice p E.length c) E.length (E.flatMap edC)) (hv : E.any wrE = false) (hm : E.length ≤ 9223372036854775807) :
    Calls Tryz.prog 151 #[.slice p E.length c] w fun e w' => e = .returned (.bool (repI (rsE E))) ∧ w.grownBy w' none := by
  have HZ2 := (zero_of_info info_bs1).1
  obtain ⟨n1, n2⟩ := tone_box w (arrV 100 (bvN fun _ => false)) 102
  have E0 : Hid (RT w E p c w.heap.size (fun j => decide ((j : Int) ∈ (rsE E).take 0)) _) := Lib.hid ⟨by rw [n1]; congr 2, hR.old.keep n2, n2, Nat.le_refl _⟩
  have HV := Lib.hid (fun x hx => wre_r (any_mem hv (x := x) hx))
  clear n1 n2 hR hv
  go_enter Tryz.func151, Tryz.ntmps151
  go_upto_region 2 with fail
  generalize w.alloc _ = w1 at *
  obtain ⟨B, hB⟩ : ∃ B, w.heap.size = B := ⟨_, rfl⟩
  rw [hB] at E0 ⊢
  clear hB HZ2
  have HN0 : Hid (∀ j x, j < 0 → (rsE E)[j]? = some x → x ∉ (rsE E).take j) := Lib.hid (fun j x h => by omega)
  go_wp2_with fail
  go_loopw [8] (fun a wr => ∃ k : Nat, k ≤ E.length ∧ a = .int .i64 (k : Int) ∧ Hid (∀ j x, j < k → (rsE E)[j]? = some x → x ∉ (rsE E).take j) ∧ Hid (RT w E p c B (fun j => decide ((j : Int) ∈ (rsE E).take k)) wr)) (fun a _ => E.length - (RowKit.intOf a).toNat)
  case atStart => exact ⟨0, by omega, rfl, HN0, E0⟩
  case round =>
    obtain ⟨w5, rfl⟩ : ∃ w5, w5 = wr := ⟨_, rfl⟩
    obtain ⟨k, hk, rfl, HN, N⟩ := hrel
    clear E0 HN0
    by_cases hlt : k < E.length
    · have hlt' : (k : Int) < (E.length : Int) := by omega
      obtain ⟨-, b, off, rfl, -, hcc⟩ := ed_cells N.out.rd (by omega)
      obtain ⟨x, hx⟩ : ∃ x, E[k]? = some x := ⟨_, List.getElem?_eq_getElem hlt⟩
      obtain ⟨a0, a1⟩ := hcc k x hx
      have hxr := HV.out x (List.mem_of_getElem? hx)
      obtain ⟨m, hm1⟩ : ∃ m : Nat, x.r = (m : Int) := ⟨x.r.toNat, by omega⟩
      have hm2 : m < 100 := by omega
      have HX := Lib.hid (rsE_at hx)
      have HB := Lib.hid (heap_alloc_new w5 (.cells #[.int .i64 x.r, .int .i64 x.i] 71))
      have HG := Lib.hid (World.grownBy_alloc w5 (.cells #[.int .i64 x.r, .int .i64 x.i] 71) none)
      have HM1 := Lib.hid hm1
      clear hcc hx hm1 hxr
      go_upto_region 5 with fail
      clear a0 a1
      generalize w5.alloc _ = w6 at *
      have N1 := Lib.hid (N.out.keep HG.out)
      rw [HM1.out] at HB HX
      obtain ⟨d0, d1⟩ := row_cells HB.out
      obtain ⟨kb, hkb⟩ : ∃ b : Bool, decide ((m : Int) ∈ (rsE E).take k) = b := ⟨_, rfl⟩
      have e1 : w6.cell? ⟨B, m, none⟩ = some (.bool kb) := by rw [← hkb]; exact arr_row N1.out.kb hm2
      have f1 := frozen_of_row _ _ m _ _ N1.out.kb
      have HKB := Lib.hid hkb
      clear hkb N HG
      cases kb with
      | true =>
        have HT := Lib.hid (rep_yes HX.out (of_decide_eq_true HKB.out))
        go_wp2_with fail
        go_ret
        rw [HT.out]
        exact ⟨rfl, N1.out.gr⟩
      | false =>
        have N2 := N1.out.put hm2
        have HKF : (fun j : Nat => if j = m then true else decide ((j : Int) ∈ (rsE E).take k)) = fun j : Nat => decide ((j : Int) ∈ (rsE E).take (k + 1)) := by
          funext j
          rw [List.take_add_one, HX.out]
          by_cases hj : j = m
          · subst hj
            rw [if_pos rfl]
            exact (decide_eq_true (by simp)).symm
          · rw [if_neg hj]
            congr 1
            simp only [Option.toList, List.mem_append, List.mem_singleton, eq_iff_iff]
            constructor
            · exact fun h => Or.inl h
            · rintro (h | h)
              · exact h
              · exact absurd (by omega) hj
        rw [HKF] at N2
        have N3 := Lib.hid N2
        have HN2 : Hid (∀ j x, j < k + 1 → (rsE E)[j]? = some x → x ∉ (rsE E).take j) := Lib.hid (fun j y hj hy => by
          by_cases hjk : j < k
          · exact HN.out j y hjk hy
          · obtain rfl : j = k := by omega
            rw [HX.out] at hy
            obtain rfl := Option.some.inj hy
            exact of_decide_eq_false HKB.out)
        clear N2 HKF N1
        go_wp2_with fail
        exact ⟨⟨k + 1, by omega, congrArg _ (by omega), HN2, N3⟩, by simp only [RowKit.intOf]; omega⟩
    · obtain rfl : k = E.length := by omega
      have hnl : ¬ (E.length : Int) < (E.length : Int) := by omega
      have HT := Lib.hid (rep_no (L := rsE E) (fun j x hx => HN.out j x (by
        have := (List.getElem?_eq_some_iff.1 hx).1
        unfold rsE at this
        rw [List.length_map] at this
        exact this) hx))
      go_wp2_with fail
      go_ret
      rw [HT.out]
      exact ⟨rfl, N.out.gr⟩
end Go.Proofs.YtahafijpcmphaaaGreat

/- identify: Plan. -/
namespace Go.Proofs.YtahafijpcmphaaaGreat
open Go.RowKit Bs
set_option maxRecDepth 100000 in
theorem row3i {w : World} {b : Nat} {t : TypeId} {x y z : Value} (h : w.heap[b]? = some (.cells #[x, y, z] t (0, 0))) : (w.cell? ⟨b, 0, none⟩ = some x ∧ w.cell? ⟨b, 1, none⟩ = some y ∧ w.cell? ⟨b, 2, none⟩ = some z) ∧ ∀ o, w.frozen? ⟨b, o, none⟩ = false :=
  ⟨⟨cell_of_row _ _ _ _ _ _ h, cell_of_row _ _ _ _ _ _ h, cell_of_row _ _ _ _ _ _ h⟩, fun o => frozen_of_row _ _ o _ _ h⟩
end Go.Proofs.YtahafijpcmphaaaGreat

/- identify: ValidPlan. -/
namespace Go.Proofs.YtahafijpcmphaaaGreat
open Go.RowKit Bs
set_option maxRecDepth 100000 in
set_option maxHeartbeats 6400000 in
theorem ivplan_any (sub n : Int) (E : List Ed) (p : Option Addr) (c : Nat) (q : Nat → Prop) (w : World) (hR : RdF w q (.slice p E.length c) E.length (E.flatMap edC)) (hm : E.length ≤ 9223372036854775807) :
    Calls Tryz.prog 113 #[.agg #[.int .i64 sub, .int .i64 n, .slice p E.length c]] w fun e w' => e = .returned (.bool (vPl sub n E)) ∧ w.grownBy w' none := by
  obtain ⟨k1, k2⟩ := tone_box w #[.int .i64 sub, .int .i64 n, .slice p E.length c] 48
  have H0 := Lib.hid (And.intro k1 (And.intro k2 (hR.keep k2)))
  have e1 : EnterF 148 := enters_of Tryz.func148 (by kernel_rfl) rfl
  have E1 := Lib.hid e1
  clear k1 k2 hR e1
  go_enter Tryz.func113, Tryz.ntmps113
  go_upto_region 1 with fail
  generalize w.alloc _ = w1 at *
  obtain ⟨⟨d0, d1, d2⟩, -⟩ := row3i H0.out.1
  obtain ⟨b1, hb1⟩ : ∃ b, inV sub 0 7 = b := ⟨_, rfl⟩
  have B1 := Lib.hid hb1
  clear hb1
  go_wp2_with fail
  refine (ivs_lit sub _ B1.out w1).mono ?_
  rintro e w' ⟨rfl, rfl⟩
  cases b1
  case false =>
    go_wp2_with fail
    go_ret
    exact ⟨by unfold vPl; rw [B1.out]; rfl, H0.out.2.1⟩
  by_cases h24 : 24 < E.length
  · have h24' : (24 : Int) < (E.length : Int) := by omega
    go_wp2_with fail
    go_ret
    exact ⟨by unfold vPl; rw [decide_eq_false (show ¬ E.length ≤ 24 by omega)]; simp, H0.out.2.1⟩
  have h24' : ¬ (24 : Int) < (E.length : Int) := by omega
  obtain ⟨b2, hb2⟩ : ∃ b, vl n = b := ⟨_, rfl⟩
  have B2 := Lib.hid hb2
  clear hb2
  go_wp2_with fail
  refine (vlp_lit n _ B2.out w1).mono ?_
  rintro e w' ⟨rfl, rfl⟩
  cases b2
  case true =>
    have HP : Hid (vPl sub n E = (!E.any wrE && ascB ltE E && !repI (rsE E))) := Lib.hid (by
      unfold vPl rsE
      rw [B1.out, B2.out, decide_eq_true (show E.length ≤ 24 by omega)]
      simp)
    go_wp2_with fail
    refine (icontE_any 148 #[] wrE E1.out E p c _ w1 H0.out.2.2 hm (fun r w' _ => iwre_any r w')).mono ?_
    rintro e w2 ⟨rfl, hg⟩
    have H2 := Lib.hid (And.intro (kept_row H0.out.1 hg (by simp)) (And.intro (grown_trans H0.out.2.1 hg) (H0.out.2.2.keep hg)))
    clear hg
    clear d0 d1 d2
    obtain ⟨⟨d0, d1, d2⟩, -⟩ := row3i H2.out.1
    cases f1 : E.any wrE
    case true =>
      have F1 := Lib.hid f1
      clear f1
      go_wp2_with fail
      go_ret
      exact ⟨by rw [HP.out, F1.out]; rfl, H2.out.2.1⟩
    have F1 := Lib.hid f1
    clear f1
    go_wp2_with fail
    refine (iascE_any E p c _ w2 H2.out.2.2 hm).mono ?_
    rintro e w3 ⟨rfl, hg⟩
    have H3 := Lib.hid (And.intro (kept_row H2.out.1 hg (by simp)) (And.intro (grown_trans H2.out.2.1 hg) (H2.out.2.2.keep hg)))
    clear hg
    clear d0 d1 d2 H2
    obtain ⟨⟨d0, d1, d2⟩, -⟩ := row3i H3.out.1
    cases f2 : ascB ltE E
    case false =>
      have F2 := Lib.hid f2
      clear f2
      go_wp2_with fail
      go_ret
      exact ⟨by rw [HP.out, F1.out, F2.out]; rfl, H3.out.2.1⟩
    have F2 := Lib.hid f2
    clear f2
    go_wp2_with fail
    refine (irtw_any E p c _ w3 H3.out.2.2 F1.out hm).mono ?_
    rintro e w4 ⟨rfl, hg⟩
    have G4 := Lib.hid (grown_trans H3.out.2.1 hg)
    clear hg
    clear d0 d1 d2 H3
    have HRP : Hid (vPl sub n E = !repI (rsE E)) := Lib.hid (by rw [HP.out, F1.out, F2.out]; rfl)
    go_wp2_with fail
    go_ret
    rw [HRP.out]
    exact ⟨rfl, G4.out⟩
  by_cases hn0 : n = 0
  case neg =>
    have hn0' : (n != 0) = true := by simpa using hn0
    have HF : Hid (vPl sub n E = false) := Lib.hid (by unfold vPl; rw [B2.out, decide_eq_false hn0]; simp)
    clear hn0
    go_wp2_with fail
    go_ret
    rw [HF.out]
    exact ⟨rfl, H0.out.2.1⟩
  have hn0' : (n != 0) = false := by simpa using hn0
  by_cases hE : 0 < E.length
  case pos =>
    have hE' : (0 : Int) < (E.length : Int) := by omega
    have HF : Hid (vPl sub n E = false) := Lib.hid (by unfold vPl; rw [B2.out, decide_eq_false (show ¬ E.length = 0 by omega)]; simp)
    clear hE
    go_wp2_with fail
    go_ret
    rw [HF.out]
    exact ⟨rfl, H0.out.2.1⟩
  have hE' : ¬ (0 : Int) < (E.length : Int) := by omega
  have HP : Hid (vPl sub n E = (!E.any wrE && ascB ltE E && !repI (rsE E))) := Lib.hid (by
    unfold vPl rsE
    rw [B1.out, decide_eq_true (show E.length ≤ 24 by omega), decide_eq_true hn0, decide_eq_true (show E.length = 0 by omega)]
    simp)
  clear hn0 hE
  go_wp2_with fail
  refine (icontE_any 148 #[] wrE E1.out E p c _ w1 H0.out.2.2 hm (fun r w' _ => iwre_any r w')).mono ?_
  rintro e w2 ⟨rfl, hg⟩
  have H2 := Lib.hid (And.intro (kept_row H0.out.1 hg (by simp)) (And.intro (grown_trans H0.out.2.1 hg) (H0.out.2.2.keep hg)))
  clear hg
  clear d0 d1 d2
  obtain ⟨⟨d0, d1, d2⟩, -⟩ := row3i H2.out.1
  cases f1 : E.any wrE
  case true =>
    have F1 := Lib.hid f1
    clear f1
    go_wp2_with fail
    go_ret
    exact ⟨by rw [HP.out, F1.out]; rfl, H2.out.2.1⟩
  have F1 := Lib.hid f1
  clear f1
  go_wp2_with fail
  refine (iascE_any E p c _ w2 H2.out.2.2 hm).mono ?_
  rintro e w3 ⟨rfl, hg⟩
  have H3 := Lib.hid (And.intro (kept_row H2.out.1 hg (by simp)) (And.intro (grown_trans H2.out.2.1 hg) (H2.out.2.2.keep hg)))
  clear hg
  clear d0 d1 d2 H2
  obtain ⟨⟨d0, d1, d2⟩, -⟩ := row3i H3.out.1
  cases f2 : ascB ltE E
  case false =>
    have F2 := Lib.hid f2
    clear f2
    go_wp2_with fail
    go_ret
    exact ⟨by rw [HP.out, F1.out, F2.out]; rfl, H3.out.2.1⟩
  have F2 := Lib.hid f2
  clear f2
  go_wp2_with fail
  refine (irtw_any E p c _ w3 H3.out.2.2 F1.out hm).mono ?_
  rintro e w4 ⟨rfl, hg⟩
  have G4 := Lib.hid (grown_trans H3.out.2.1 hg)
  clear hg
  clear d0 d1 d2 H3
  have HRP : Hid (vPl sub n E = !repI (rsE E)) := Lib.hid (by rw [HP.out, F1.out, F2.out]; rfl)
  go_wp2_with fail
  go_ret
  rw [HRP.out]
  exact ⟨rfl, G4.out⟩
end Go.Proofs.YtahafijpcmphaaaGreat

/- empty -/
namespace Go.Proofs.YtahafijpcmphaaaGreat
end Go.Proofs.YtahafijpcmphaaaGreat

/- empty -/
namespace Go.Proofs.YtahafijpcmphaaaGreat
end Go.Proofs.YtahafijpcmphaaaGreat

/- empty -/
namespace Go.Proofs.YtahafijpcmphaaaGreat
end Go.Proofs.YtahafijpcmphaaaGreat

/- empty -/
namespace Go.Proofs.YtahafijpcmphaaaGreat
end Go.Proofs.YtahafijpcmphaaaGreat

/- The reference's Repeats. -/
namespace Go.Proofs.YtahafijpcmphaaaGreat
open Go.RowKit Bs
end Go.Proofs.YtahafijpcmphaaaGreat

/- The reference's ValidPlan. -/
namespace Go.Proofs.YtahafijpcmphaaaGreat
open Go.RowKit Bs
section
variable {W w w1 : World} {sub n : Int} {E : List Ed} {p : Option Addr} {c : Nat} {v v' : Value} {M N : List Int}
end
end Go.Proofs.YtahafijpcmphaaaGreat

/- tables, the reference's functions: All. -/
namespace Go.Proofs.YtahafijpcmphaaaGreat
open Go.RowKit Bs
end Go.Proofs.YtahafijpcmphaaaGreat

/- tables, the reference's functions: Hop. -/
namespace Go.Proofs.YtahafijpcmphaaaGreat
open Go.RowKit Go.Maps Bs
end Go.Proofs.YtahafijpcmphaaaGreat

/- masks, the reference's Bits: the mathematics. -/
namespace Go.Proofs.YtahafijpcmphaaaGreat
open Go.RowKit Go.Maps Bs
end Go.Proofs.YtahafijpcmphaaaGreat

/- masks, the reference's functions: Bits. -/
namespace Go.Proofs.YtahafijpcmphaaaGreat
open Go.RowKit Go.Maps Bs
end Go.Proofs.YtahafijpcmphaaaGreat

/- tables, the reference's functions: Check. -/
namespace Go.Proofs.YtahafijpcmphaaaGreat
open Go.RowKit Go.Maps Bs
end Go.Proofs.YtahafijpcmphaaaGreat

/- masks, the reference's functions: Mask, Next, Local. -/
namespace Go.Proofs.YtahafijpcmphaaaGreat
open Go.RowKit Go.Maps Bs
end Go.Proofs.YtahafijpcmphaaaGreat

/- tables: Row; masks: Next. -/
namespace Go.Proofs.YtahafijpcmphaaaGreat
open Go.RowKit Go.Maps Bs
end Go.Proofs.YtahafijpcmphaaaGreat

/- tables: rows that are their owner's. -/
namespace Go.Proofs.YtahafijpcmphaaaGreat
open Go.RowKit Bs
def Rw.v (x : Rw) : Value := .slice x.p x.nx.length x.c
set_option maxRecDepth 100000 in
theorem own_keptN {w w1 : World} {base size n : Nat} {e : TypeId} {v : Value} {xs : List Value} (h : w.ownsRow base e size v n xs) (g : w.grownBy w1 none) : w1.ownsRow base e size v n xs := h.kept g (by cases v.ownBlock <;> simp)
set_option maxRecDepth 100000 in
theorem own_otherL {w w' : World} {base size n b : Nat} {e : TypeId} {v : Value} {xs : List Value} (h : w.ownsRow base e size v n xs) (g : w.grownBy w' (some b)) (hb : b < base) : w'.ownsRow base e size v n xs := by
  refine h.kept g ?_
  cases hv : v.ownBlock with
  | none => exact .inl rfl
  | some k => exact .inr (fun e => by have := (h.lt k hv).1; have := Option.some.inj e; omega)
set_option maxRecDepth 100000 in
theorem RdW.old {w : World} {q : Nat → Prop} {p : Option Addr} {c : Nat} {L : List Rw} (h : RdW w q p c L) : RdW w (· < w.heap.size) p c L := ⟨h.rd.old, fun x hx => ⟨(h.ok x hx).rd.old, (h.ok x hx).hc⟩⟩
end Go.Proofs.YtahafijpcmphaaaGreat

/- tables: bitcastmake.copied. -/
namespace Go.Proofs.YtahafijpcmphaaaGreat
open Go.RowKit Bs
end Go.Proofs.YtahafijpcmphaaaGreat

/- The tape's orders. -/
namespace Go.Proofs.YtahafijpcmphaaaGreat
open Go.RowKit Bs
/-- An order of the first numbers. -/
def Ord (l : List Nat) (i : Nat) : Prop := l.length = i ∧ l.Nodup ∧ ∀ x ∈ l, x < i
set_option maxRecDepth 100000 in
theorem ord_next {l : List Nat} {i k : Nat} (h : Ord l i) : Ord (l.take k ++ [i] ++ l.drop k) (i + 1) := by
  obtain ⟨h1, h2, h3⟩ := h
  refine ⟨?_, ?_, ?_⟩
  · simp; omega
  · have e : (l.take k ++ [i] ++ l.drop k).Perm (i :: l) := by
      rw [List.append_assoc]
      have e2 : (l.take k ++ ([i] ++ l.drop k)).Perm (([i] ++ l.drop k) ++ l.take k) := List.perm_append_comm
      refine e2.trans ?_
      rw [List.append_assoc]
      show (i :: (l.drop k ++ l.take k)).Perm (i :: l)
      refine List.Perm.cons i ?_
      refine List.perm_append_comm.trans ?_
      rw [List.take_append_drop]
    rw [e.nodup_iff, List.nodup_cons]
    exact ⟨fun hm => by have := h3 i hm; omega, h2⟩
  · intro x hx
    rw [List.mem_append, List.mem_append] at hx
    rcases hx with (hx | hx) | hx
    · have := h3 x (List.mem_of_mem_take hx); omega
    · have : x = i := by simpa using hx
      omega
    · have := h3 x (List.mem_of_mem_drop hx); omega
/-- The slice v is an order of the first i numbers, in a row of the call's own. -/
def OrdRel (a : Nat) (W : World) (i : Nat) (v : Value) (w' : World) : Prop := ∃ l, Ord l i ∧ w'.ownsRow W.heap.size 3 1 v i (l.map zv) ∧ (i = 0 → v = .slice none 0 0) ∧ St a W w'
def OrdPost (a : Nat) (n : Nat) (W : World) (e : Ending) (w' : World) : Prop := ∃ v, e = .returned v ∧ OrdRel a W n v w'
set_option maxRecDepth 100000 in
set_option maxHeartbeats 3200000 in
theorem order_any (a n : Nat) (hn : n ≤ 1000) (w : World) (hT : Tp w a) :
    Calls Tryz.prog 82 #[.pointer (some ⟨a, 0, none⟩), .int .i64 (n : Int)] w fun e w' => OrdPost a n w e w' := by
  have ha := hT.lt
  have hS0 : Hid (OrdRel a w 0 (.slice none 0 0) w) := Lib.hid ⟨[], ⟨rfl, List.nodup_nil, fun x hx => by cases hx⟩, World.ownsRow_nil _ _ _ _, fun _ => rfl, grown_refl _ _, hT⟩
  clear hT
  go_enter Tryz.func82, Tryz.ntmps82
  go_wp2_with fail
  go_loopw [5, 6] (fun v i wr => ∃ j : Nat, j ≤ n ∧ i = .int .i64 (j : Int) ∧ OrdRel a w j v wr) (fun _ i _ => (n - (RowKit.intOf i).toNat))
  case atStart => exact ⟨0, Nat.zero_le _, rfl, hS0.out⟩
  case round =>
    obtain ⟨j, hj, rfl, hR⟩ := hrel
    have HR := Lib.hid hR
    clear hR hS0
    by_cases hlt : j < n
    · obtain ⟨l, hO, hown, hv0, hSt⟩ := HR.out
      have HO := Lib.hid hO
      have hT := hSt.2
      have HOWN := Lib.hid hown
      have HST := Lib.hid hSt
      clear hO hown hSt HR
      go_wp2_with fail
      refine (next_any a ((j : Int) + 1) (by unfold I64; omega) _ hT).mono ?_
      rintro e w3 ⟨r, rfl, hr, hs⟩
      obtain ⟨k, rfl⟩ := Int.eq_ofNat_of_zero_le hr.1
      have hkj : k ≤ j := by have := hr.2.1 (by omega); omega
      have HS3 := Lib.hid (HST.out.trans hs)
      have HOWN3 := Lib.hid (own_kept ha HOWN.out hs.1)
      clear hr hs hT HST HOWN
      by_cases hj0 : j = 0
      · subst hj0
        obtain rfl : k = 0 := by omega
        obtain rfl := hv0 rfl
        have hl : l = [] := List.eq_nil_of_length_eq_zero HO.out.1
        clear hv0
        obtain ⟨i0, hi, hz0, hz1, hz2⟩ := info_parts info_int
        have hsz3 := Lib.hid HS3.out.1.size
        go_wp2_with (first
          | (at_builtin; refine wpList_append_own_none rfl _ _ 22 rfl w3.heap.size 3 i0 1 Tryz.underlying22 hi (.slice none 0 0) 0 [] rfl (World.ownsRow_nil _ _ _ _) rfl ?_)
          | (at_builtin; refine wpList_append_ints rfl _ _ rfl w3.heap.size (.slice none 0 0) 0 [] rfl (World.ownsRow_nil _ _ _ _) (some ⟨w3.heap.size, 0, none⟩) 1 1 [0] rfl rfl (by intro h; cases h) (by intro ad h; obtain rfl := Option.some.inj h; exact cell_one _ _ _) (by simp) (by simp) ?_; intro v2 w5 hown2 hg2; have HOWN2 := Lib.hid hown2; have HG2 := Lib.hid (grown_trans (World.grownBy_alloc w3 _ none) hg2); clear hown2 hg2)
          | (at_builtin; refine wpList_append_own_none rfl _ _ 22 rfl w3.heap.size 3 i0 1 Tryz.underlying22 hi v2 1 [zv 0] rfl HOWN2.out rfl ?_))
        go_roundw
        case rel =>
          refine ⟨1, by omega, rfl, [0], ⟨rfl, by simp, by simp⟩, ?_, by omega, ?_⟩
          · exact HOWN2.out.mono hsz3.out
          · exact ⟨grown_trans HS3.out.1 (grown_none HG2.out _), HS3.out.2.keep HG2.out⟩
        case measure => simp [RowKit.intOf]; omega
      · have hj1 : 0 < j := by omega
        obtain ⟨g, cap, rfl, hgb⟩ := own_form HOWN3.out hj1
        obtain ⟨hcap1, hcap2⟩ := own_cap HOWN3.out
        have hcap3 : cap ≤ 9223372036854775807 := by unfold maxLen at hcap2; omega
        have hgl := (HOWN3.out.lt g rfl).2
        have hll := HO.out.1
        have HLL := Lib.hid hll
        have hkc : k ≤ cap := by omega
        have hkl : (l.take k).length = k := by rw [List.length_take]; omega
        have hdl : (l.drop k).length = j - k := by rw [List.length_drop]; omega
        have HKL := Lib.hid hkl
        have HDL := Lib.hid hdl
        have hj9 : j ≤ 1000 := by omega
        have hsz3 := Lib.hid HS3.out.1.size
        have N1 : Hid (∀ ad, some (⟨g, 0, none⟩ : Addr) = some ad → ∀ i u, ((l.take k).map zv)[i]? = some u → w3.cell? (ad.add i) = some u) := by
          refine Lib.hid ?_
          intro ad h i u hu
          obtain rfl := Option.some.inj h
          refine HOWN3.out.cells rfl i u ?_
          rw [List.map_take, List.getElem?_take] at hu
          split at hu
          · exact hu
          · cases hu
        clear hll hkl hdl hv0 hcap2
        generalize hT1 : l.take k = t1 at *
        generalize hT2 : l.drop k = t2 at *
        have HT1 := Lib.hid hT1
        have HT2 := Lib.hid hT2
        clear hT1
        by_cases hkj : k < j
        · have hkcap : k < cap := by omega
          have news : Hid (∀ (W : World) c, W.ownsRow w.heap.size 3 1 (.slice (some ⟨g, 0, none⟩) j c) j (l.map zv) → ∀ i u, (t2.map zv)[i]? = some u → W.cell? ⟨g, k + i, none⟩ = some u) := by
            refine Lib.hid ?_
            intro W c h i u hu
            rw [← hT2, List.map_drop, List.getElem?_drop] at hu
            have := h.cells rfl (k + i) u hu
            rw [add_plain, Nat.zero_add] at this
            exact this
          clear hT2
          go_wp2_with (first
            | (at_builtin; refine wpList_append_ints rfl _ _ rfl w3.heap.size (.slice none 0 0) 0 [] rfl (World.ownsRow_nil _ _ _ _) (some ⟨g, 0, none⟩) k cap t1 rfl HKL.out.symm (by intro h; cases h) N1.out (by rw [HKL.out]; omega) (Nat.le_refl _) ?_; intro v1 w4 hown1 hg1; rw [Nat.zero_add, List.nil_append, HKL.out] at hown1; have HOWN1 := Lib.hid hown1; have HO4 := Lib.hid (own_apart HOWN3.out (World.ownsRow_nil w3 w3.heap.size 3 1) hgl hg1); have HS4 := Lib.hid (HS3.out.own_grow (World.ownsRow_nil w3 w3.heap.size 3 1) hsz3.out ha hg1); have HZ4 := Lib.hid hg1.size; clear hown1 hg1)
            | (at_builtin; refine wpList_append_ints rfl _ _ rfl w3.heap.size v1 k t1 rfl (HOWN1.out.alloc _) (some ⟨w4.heap.size, 0, none⟩) 1 1 [j] rfl rfl (by intro h; cases h) (by intro ad h; obtain rfl := Option.some.inj h; exact cell_one _ _ _) (by simp; omega) (by have := HZ4.out; simp; omega) ?_; intro v2 w5 hown2 hg2; have HOWN2 : Hid (w5.ownsRow w3.heap.size 3 1 v2 (k + 1) ((t1 ++ [j]).map zv)) := Lib.hid hown2; have HO5 := Lib.hid (own_apart (HO4.out.alloc _) (HOWN1.out.alloc _) hgl hg2); have HS5 := Lib.hid ((HS4.out.none_ (World.grownBy_alloc w4 _ none)).own_grow (HOWN1.out.alloc _) hsz3.out ha hg2); have HZ5 : Hid (w3.heap.size ≤ w5.heap.size) := Lib.hid (Nat.le_trans HZ4.out (Nat.le_trans (by simp) hg2.size)); clear hown2 hg2)
            | (at_builtin; refine wpList_append_ints rfl _ _ rfl w3.heap.size v2 (k + 1) (t1 ++ [j]) rfl HOWN2.out _ _ _ t2 rfl (by have := HDL.out; omega) (by intro h; cases h) (by intro ad h; obtain rfl := Option.some.inj h; intro i u hu; rw [add_plain]; exact news.out w5 cap HO5.out i u hu) (by have := HDL.out; omega) HZ5.out ?_; intro v3 w6 hown3 hg3; have HOWN6 := Lib.hid hown3; have HS6 := Lib.hid (HS5.out.own_grow HOWN2.out hsz3.out ha hg3); clear hown3 hg3))
          go_roundw
          case rel =>
            refine ⟨j + 1, by omega, by go_num, l.take k ++ [j] ++ l.drop k, ord_next HO.out, ?_, by omega, HS6.out⟩
            have h6 := HOWN6.out.mono hsz3.out
            rw [← HT1.out, ← HT2.out, show k + 1 + (l.drop k).length = j + 1 by rw [List.length_drop, HLL.out]; omega] at h6
            exact h6
          case measure => simp [RowKit.intOf]; omega
        · obtain rfl : k = j := by omega
          have ht2 : t2 = [] := by
            rw [← hT2]
            exact List.drop_of_length_le (Nat.le_of_eq HLL.out)
          clear hT2
          have HN2 : Hid (∀ (i : Nat) (u : Value), (t2.map zv)[i]? = some u → False) := Lib.hid (by intro i u hu; rw [ht2] at hu; simp at hu)
          clear ht2
          by_cases hcj : k = cap
          · subst hcj
            go_wp2_with (first
              | (at_builtin; refine wpList_append_ints rfl _ _ rfl w3.heap.size (.slice none 0 0) 0 [] rfl (World.ownsRow_nil _ _ _ _) (some ⟨g, 0, none⟩) k k t1 rfl HKL.out.symm (by intro h; cases h) N1.out (by rw [HKL.out]; omega) (Nat.le_refl _) ?_; intro v1 w4 hown1 hg1; rw [Nat.zero_add, List.nil_append, HKL.out] at hown1; have HOWN1 := Lib.hid hown1; have HO4 := Lib.hid (own_apart HOWN3.out (World.ownsRow_nil w3 w3.heap.size 3 1) hgl hg1); have HS4 := Lib.hid (HS3.out.own_grow (World.ownsRow_nil w3 w3.heap.size 3 1) hsz3.out ha hg1); have HZ4 := Lib.hid hg1.size; clear hown1 hg1)
              | (at_builtin; refine wpList_append_ints rfl _ _ rfl w3.heap.size v1 k t1 rfl (HOWN1.out.alloc _) (some ⟨w4.heap.size, 0, none⟩) 1 1 [k] rfl rfl (by intro h; cases h) (by intro ad h; obtain rfl := Option.some.inj h; exact cell_one _ _ _) (by simp; omega) (by have := HZ4.out; simp; omega) ?_; intro v2 w5 hown2 hg2; have HOWN2 : Hid (w5.ownsRow w3.heap.size 3 1 v2 (k + 1) ((t1 ++ [k]).map zv)) := Lib.hid hown2; have HO5 := Lib.hid (own_apart (HO4.out.alloc _) (HOWN1.out.alloc _) hgl hg2); have HS5 := Lib.hid ((HS4.out.none_ (World.grownBy_alloc w4 _ none)).own_grow (HOWN1.out.alloc _) hsz3.out ha hg2); have HZ5 : Hid (w3.heap.size ≤ w5.heap.size) := Lib.hid (Nat.le_trans HZ4.out (Nat.le_trans (by simp) hg2.size)); clear hown2 hg2)
              | (at_builtin; refine wpList_append_ints rfl _ _ rfl w3.heap.size v2 (k + 1) (t1 ++ [k]) rfl HOWN2.out _ _ _ t2 rfl (by have := HDL.out; omega) (by intro h; cases h) (by intro ad h i u hu; exact (HN2.out i u hu).elim) (by have := HDL.out; omega) HZ5.out ?_; intro v3 w6 hown3 hg3; have HOWN6 := Lib.hid hown3; have HS6 := Lib.hid (HS5.out.own_grow HOWN2.out hsz3.out ha hg3); clear hown3 hg3))
            go_roundw
            case rel =>
              refine ⟨k + 1, by omega, by go_num, l.take k ++ [k] ++ l.drop k, ord_next HO.out, ?_, by omega, HS6.out⟩
              have h6 := HOWN6.out.mono hsz3.out
              rw [← HT1.out, ← HT2.out, show k + 1 + (l.drop k).length = k + 1 by rw [List.length_drop, HLL.out]; omega] at h6
              exact h6
            case measure => simp [RowKit.intOf]; omega
          · have hkcap : k < cap := by omega
            go_wp2_with (first
              | (at_builtin; refine wpList_append_ints rfl _ _ rfl w3.heap.size (.slice none 0 0) 0 [] rfl (World.ownsRow_nil _ _ _ _) (some ⟨g, 0, none⟩) k cap t1 rfl HKL.out.symm (by intro h; cases h) N1.out (by rw [HKL.out]; omega) (Nat.le_refl _) ?_; intro v1 w4 hown1 hg1; rw [Nat.zero_add, List.nil_append, HKL.out] at hown1; have HOWN1 := Lib.hid hown1; have HO4 := Lib.hid (own_apart HOWN3.out (World.ownsRow_nil w3 w3.heap.size 3 1) hgl hg1); have HS4 := Lib.hid (HS3.out.own_grow (World.ownsRow_nil w3 w3.heap.size 3 1) hsz3.out ha hg1); have HZ4 := Lib.hid hg1.size; clear hown1 hg1)
              | (at_builtin; refine wpList_append_ints rfl _ _ rfl w3.heap.size v1 k t1 rfl (HOWN1.out.alloc _) (some ⟨w4.heap.size, 0, none⟩) 1 1 [k] rfl rfl (by intro h; cases h) (by intro ad h; obtain rfl := Option.some.inj h; exact cell_one _ _ _) (by simp; omega) (by have := HZ4.out; simp; omega) ?_; intro v2 w5 hown2 hg2; have HOWN2 : Hid (w5.ownsRow w3.heap.size 3 1 v2 (k + 1) ((t1 ++ [k]).map zv)) := Lib.hid hown2; have HO5 := Lib.hid (own_apart (HO4.out.alloc _) (HOWN1.out.alloc _) hgl hg2); have HS5 := Lib.hid ((HS4.out.none_ (World.grownBy_alloc w4 _ none)).own_grow (HOWN1.out.alloc _) hsz3.out ha hg2); have HZ5 : Hid (w3.heap.size ≤ w5.heap.size) := Lib.hid (Nat.le_trans HZ4.out (Nat.le_trans (by simp) hg2.size)); clear hown2 hg2)
              | (at_builtin; refine wpList_append_ints rfl _ _ rfl w3.heap.size v2 (k + 1) (t1 ++ [k]) rfl HOWN2.out _ _ _ t2 rfl (by have := HDL.out; omega) (by intro h; cases h) (by intro ad h i u hu; exact (HN2.out i u hu).elim) (by have := HDL.out; omega) HZ5.out ?_; intro v3 w6 hown3 hg3; have HOWN6 := Lib.hid hown3; have HS6 := Lib.hid (HS5.out.own_grow HOWN2.out hsz3.out ha hg3); clear hown3 hg3))
            go_roundw
            case rel =>
              refine ⟨k + 1, by omega, by go_num, l.take k ++ [k] ++ l.drop k, ord_next HO.out, ?_, by omega, HS6.out⟩
              have h6 := HOWN6.out.mono hsz3.out
              rw [← HT1.out, ← HT2.out, show k + 1 + (l.drop k).length = k + 1 by rw [List.length_drop, HLL.out]; omega] at h6
              exact h6
            case measure => simp [RowKit.intOf]; omega
    · obtain rfl : j = n := by omega
      go_wp2_with fail
      go_ret
      exact ⟨_, rfl, HR.out⟩
end Go.Proofs.YtahafijpcmphaaaGreat

/- The tape's plans: the mathematics. -/
namespace Go.Proofs.YtahafijpcmphaaaGreat
open Go.RowKit Bs
/-- The number of the router at a place. -/
def ridR (R : List Rt) (k : Nat) : Int := (R[k]?.map Rt.id).getD 0
set_option maxRecDepth 100000 in
theorem ridR_at {R : List Rt} {k : Nat} {r : Rt} (h : R[k]? = some r) : ridR R k = r.id := by unfold ridR; rw [h]; rfl
/-- What is known of the edges that were made of the first i places of an order, the last ID being id. -/
structure PlE (R : List Rt) (O : List Nat) (i : Nat) (id : Int) (E : List Ed) : Prop where
  sub : (E.map Ed.r).Sublist ((O.take i).map (ridR R))
  ids : ∀ e ∈ E, 1 ≤ e.i ∧ e.i ≤ id ∧ e.i ≤ 256
  asc : E.Pairwise (fun x y => x.i < y.i)
set_option maxRecDepth 100000 in
theorem PlE.nil (R : List Rt) (O : List Nat) : PlE R O 0 0 [] := ⟨List.nil_sublist _, fun e h => (by cases h), List.Pairwise.nil⟩
set_option maxRecDepth 100000 in
theorem take_map_succ {O : List Nat} {i k : Nat} (hk : O[i]? = some k) (f : Nat → Int) : (O.take (i + 1)).map f = (O.take i).map f ++ [f k] := by
  rw [List.take_add_one, hk, List.map_append]; rfl
set_option maxRecDepth 100000 in
theorem PlE.skip {R : List Rt} {O : List Nat} {i : Nat} {id : Int} {E : List Ed} (h : PlE R O i id E) : PlE R O (i + 1) id E := by
  refine ⟨h.sub.trans ?_, h.ids, h.asc⟩
  exact List.Sublist.map _ (List.take_sublist_take_left (by omega))
set_option maxRecDepth 100000 in
theorem PlE.more {R : List Rt} {O : List Nat} {i : Nat} {id id2 : Int} {E : List Ed} (h : PlE R O i id E) (h2 : id ≤ id2) : PlE R O i id2 E :=
  ⟨h.sub, fun e he => by have := h.ids e he; omega, h.asc⟩
set_option maxRecDepth 100000 in
theorem PlE.add {R : List Rt} {O : List Nat} {i k : Nat} {id id2 r : Int} {E : List Ed} (h : PlE R O i id E) (hk : O[i]? = some k) (hr : ridR R k = r) (h0 : 0 ≤ id) (h1 : id < id2) (h2 : id2 ≤ 256) : PlE R O (i + 1) id2 (E ++ [⟨r, id2⟩]) := by
  refine ⟨?_, fun e he => ?_, ?_⟩
  · rw [List.map_append, take_map_succ hk, hr]
    exact List.Sublist.append h.sub (List.Sublist.refl _)
  · rcases List.mem_append.1 he with he | he
    · have := h.ids e he; omega
    · obtain rfl : e = ⟨r, id2⟩ := by simpa using he
      exact ⟨by show 1 ≤ id2; omega, Int.le_refl _, h2⟩
  · refine List.pairwise_append.2 ⟨h.asc, List.pairwise_singleton _ _, fun x hx y hy => ?_⟩
    obtain rfl : y = ⟨r, id2⟩ := by simpa using hy
    have := h.ids x hx
    show x.i < id2
    omega
set_option maxRecDepth 100000 in
theorem PlE.len {R : List Rt} {O : List Nat} {i : Nat} {id : Int} {E : List Ed} (h : PlE R O i id E) : E.length ≤ i := by
  have := h.sub.length_le
  rw [List.length_map, List.length_map, List.length_take] at this
  omega
set_option maxRecDepth 100000 in
theorem rep_noT {L : List Int} (h : ∀ k x, L[k]? = some x → x ∉ L.take k) : repI L = false := by
  unfold repI
  rw [List.any_eq_false]
  intro k hk
  have hk := List.mem_range.1 hk
  rw [List.getD_eq_getElem?_getD, List.getElem?_eq_getElem hk]
  simpa using h k _ (List.getElem?_eq_getElem hk)
set_option maxRecDepth 100000 in
theorem repI_nodup {L : List Int} (h : L.Nodup) : repI L = false := by
  refine rep_noT fun k x hx hm => ?_
  obtain ⟨hk, e⟩ := List.getElem?_eq_some_iff.1 hx
  obtain ⟨j, hj, hj2⟩ := List.mem_iff_getElem.1 hm
  rw [List.length_take] at hj
  rw [List.getElem_take] at hj2
  have := (List.nodup_iff_pairwise_ne.1 h)
  have h3 := List.pairwise_iff_getElem.1 this j k (by omega) hk (by omega)
  exact h3 (by rw [hj2, e])
set_option maxRecDepth 100000 in
theorem ascR_nodup : ∀ R : List Rt, ascB ltR R = true → R.Pairwise (fun x y => x.id < y.id)
  | [], _ => List.Pairwise.nil
  | [a], _ => List.pairwise_singleton _ _
  | a :: b :: t, h => by
    rw [ascB, Bool.and_eq_true] at h
    have ih := ascR_nodup (b :: t) h.2
    have hab : a.id < b.id := of_decide_eq_true h.1
    refine List.pairwise_cons.2 ⟨fun y hy => ?_, ih⟩
    rcases List.mem_cons.1 hy with rfl | hy
    · exact hab
    · have := (List.pairwise_cons.1 ih).1 y hy; omega
set_option maxRecDepth 100000 in
theorem chk0 {R : List Rt} {L : List Lk} (h : chk R L = 0) : R.length ≤ 24 ∧ R.any wrId = false ∧ ascB ltR R = true := by
  unfold chk at h
  split at h
  · cases h
  · rename_i h1
    split at h
    · cases h
    · rename_i h2
      split at h
      · cases h
      · rename_i h3
        exact ⟨by omega, by simpa using h2, by simpa using h3⟩
set_option maxRecDepth 100000 in
/-- Of a valid topology and an order come valid edges. -/
theorem PlE.valid {R : List Rt} {L : List Lk} {O : List Nat} {i : Nat} {id : Int} {E : List Ed} (h : PlE R O i id E) (hc : chk R L = 0) (hO : Ord O R.length) {s n : Int} (hs : inV s 0 7 = true) (hn : vl n = true) :
    vPl s n E = true ∧ E.length ≤ R.length ∧ ∀ e ∈ E, hasR R e.r = true := by
  obtain ⟨c1, c2, c3⟩ := chk0 hc
  have hmem : ∀ e ∈ E, ∃ r ∈ R, r.id = e.r := fun e he => by
    have h1 := h.sub.subset (List.mem_map.2 ⟨e, he, rfl⟩)
    obtain ⟨k, hk, hke⟩ := List.mem_map.1 h1
    have hk2 := hO.2.2 k (List.mem_of_mem_take hk)
    refine ⟨R[k], List.getElem_mem hk2, ?_⟩
    rw [← hke, ridR_at (List.getElem?_eq_getElem hk2)]
  have hnd : (E.map Ed.r).Nodup := by
    refine List.Nodup.sublist (h.sub.trans (List.Sublist.map _ (List.take_sublist i O))) ?_
    rw [List.Nodup, List.pairwise_map]
    refine List.Pairwise.imp_of_mem (fun {x y} hx hy hne => ?_) hO.2.1
    have hx := hO.2.2 x hx
    have hy := hO.2.2 y hy
    rw [ridR_at (List.getElem?_eq_getElem hx), ridR_at (List.getElem?_eq_getElem hy)]
    have hp := List.pairwise_iff_getElem.1 (ascR_nodup R c3)
    rcases Nat.lt_or_gt_of_ne hne with hlt | hlt
    · have := hp x y hx hy hlt; omega
    · have := hp y x hy hx hlt; omega
  have hlen : E.length ≤ R.length := by
    have h1 := (h.sub.trans (List.Sublist.map _ (List.take_sublist i O))).length_le
    rw [List.length_map, List.length_map, hO.1] at h1
    exact h1
  refine ⟨?_, hlen, fun e he => ?_⟩
  · unfold vPl
    rw [hs, hn, repI_nodup hnd, pair_ascE E h.asc, decide_eq_true (show E.length ≤ 24 by omega)]
    have hw : E.any wrE = false := by
      rw [List.any_eq_false]
      intro e he
      obtain ⟨r, hr, hre⟩ := hmem e he
      have h1 := any_mem c2 hr
      have h2 := h.ids e he
      unfold wrId at h1
      rw [hre] at h1
      unfold wrE inV
      rw [decide_eq_true (show 1 ≤ e.i ∧ e.i ≤ 256 by omega)]
      have h3 : decide (1 ≤ e.r ∧ e.r ≤ 99) = true := by
        cases hh : decide (1 ≤ e.r ∧ e.r ≤ 99)
        · rw [hh] at h1; cases h1
        · rfl
      rw [h3]; simp
    rw [hw]; rfl
  · obtain ⟨r, hr, hre⟩ := hmem e he
    exact List.any_eq_true.2 ⟨r, hr, decide_eq_true hre⟩
end Go.Proofs.YtahafijpcmphaaaGreat

/- tables: what build makes is valid. -/
namespace Go.Proofs.YtahafijpcmphaaaGreat
open Go.RowKit Bs
set_option maxRecDepth 100000 in
theorem price_pos {R : List Rt} {L : List Lk} (h : okT R L = true) {a b : Int} (hp : (priceV L a b).2 = true) : 1 ≤ (priceV L a b).1 := by
  unfold priceV at hp ⊢
  cases hf : L.findSome? (priceB a b) with
  | none => rw [hf] at hp; cases hp
  | some c =>
    obtain ⟨l, hl, hc⟩ := List.exists_of_findSome?_eq_some hf
    have hn := List.any_eq_false.1 (okT_all h).nm l hl
    unfold wrNum at hn
    simp only [Bool.not_eq_true, Bool.not_eq_false', decide_eq_true_eq] at hn
    unfold priceB at hc
    split at hc
    · have := Option.some.inj hc; show 1 ≤ c; have := hn.1; omega
    · split at hc
      · have := Option.some.inj hc; show 1 ≤ c; have := hn.2.1; omega
      · cases hc
set_option maxRecDepth 100000 in
theorem st_lt {R : List Rt} {L : List Lk} {D : Int → Int} (h : okT R L = true) {a b : Int} (hb : b ∈ stV R L D a) : atV R D b < atV R D a := by
  unfold stV at hb
  split at hb
  · cases hb
  · obtain ⟨h1, h2⟩ := List.mem_filter.1 hb
    unfold okS at h2
    rw [Bool.and_eq_true] at h2
    have h3 := of_decide_eq_true h2.2
    unfold nearR at h1
    obtain ⟨r, hr, rfl⟩ := List.mem_map.1 h1
    have := price_pos h (List.mem_filter.1 hr).2
    omega
set_option maxRecDepth 100000 in
/-- Each next hop is nearer. -/
theorem hop_lt {R : List Rt} {L : List Lk} {D : Int → Int} (h : okT R L = true) {x y : Int} (hy : HopM R L D x y) : atV R D y < atV R D x := by
  obtain ⟨s, hs, hy, -⟩ := hy
  have h1 := hs (fun a => atV R D a ≤ atV R D x) (Int.le_refl _) (fun a b ha hb _ => by have := st_lt h hb; omega)
  have h2 := st_lt h hy
  omega
set_option maxRecDepth 100000 in
theorem NxB.ok {R : List Rt} {L0 : List Lk} {ro r : Int} {X : List Int} (h : NxB R L0 ro r X) (hok : okT R L0 = true) (hro : ro ∈ ids R) : X.Pairwise (· < ·) ∧ (∀ y ∈ X, y ∈ ids R) ∧ (1 < X.length → ro ∉ X) := by
  unfold NxB at h
  split at h
  · subst h
    exact ⟨List.pairwise_singleton _ _, fun y hy => by rw [List.mem_singleton.1 hy]; exact hro, fun h => absurd h (by show ¬ 1 < 1; omega)⟩
  · split at h
    · refine ⟨h.1, h.2.1, fun _ hm => ?_⟩
      have h3 := h.2.2
      unfold HopsIs at h3
      split at h3
      · have := hop_lt hok ((h3 ro).1 hm); omega
      · subst h3; cases hm
    · subst h
      exact ⟨List.Pairwise.nil, fun y hy => (by cases hy), fun _ hm => (by cases hm)⟩
set_option maxRecDepth 100000 in
theorem ids_inT {R : List Rt} {L0 : List Lk} (hok : okT R L0 = true) {y : Int} (hy : y ∈ ids R) : 1 ≤ y ∧ y ≤ 99 := by
  obtain ⟨r, hr, rfl⟩ := List.mem_map.1 hy
  have := List.any_eq_false.1 (okT_all hok).id r hr
  unfold wrId at this
  simpa using this
end Go.Proofs.YtahafijpcmphaaaGreat

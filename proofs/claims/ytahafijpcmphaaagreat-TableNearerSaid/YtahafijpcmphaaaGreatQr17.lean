/- Parts of the proof, packed: TaFlW, TaFlH, TaFlP, MaPln, MaLay, MaSrt, MaAll, MaAwk, TaFlB, TaHpI, TaNxM, TaBdM, TaEdg, TaCaM, TaCa, ShRCo, TaNrM. -/
import Derived.Test.YtahafijpcmphaaaGreatQr16
import Derived.Test.YtahafijpcmphaaaGreatQr9
import Derived.Test.YtahafijpcmphaaaGreatQr12
import Derived.Test.YtahafijpcmphaaaGreatQr5
import Derived.Deep.AppendLies
import Derived.Test.YtahafijpcmphaaaGreatQr7
import Derived.Test.YtahafijpcmphaaaGreatQr15
import Derived.Laws.StructEq
import Derived.Test.YtahafijpcmphaaaGreatQr13
/- tables: the closure of the program's Hops. -/
namespace Go.Proofs.YtahafijpcmphaaaGreat
open Go.RowKit Bs
set_option maxRecDepth 100000 in
theorem rdi_atF {w : World} {q : Nat → Prop} {p : Option Addr} {n c i : Nat} {x : Int} {X : List Int} (h : Rd w q (.slice p n c) (X.map tv)) (hi : X[i]? = some x) : ∃ b off, p = some ⟨b, off, none⟩ ∧ w.cell? ⟨b, off + i, none⟩ = some (.int .i64 x) := by
  obtain ⟨-, b, off, hp, -, hc⟩ := tvT_atH h hi
  exact ⟨b, off, hp, hc i x hi⟩
set_option maxRecDepth 100000 in
theorem hasI_memF {S : List Int} {x : Int} : hasI S x = true ↔ x ∈ S := by
  unfold hasI
  rw [List.any_eq_true]
  exact ⟨fun ⟨y, hy, e⟩ => (of_decide_eq_true e) ▸ hy, fun h => ⟨x, h, by simp⟩⟩
set_option maxRecDepth 100000 in
theorem fold_takeF {α β : Type} (f : β → α → β) {N : List α} {j : Nat} {y : α} (h : N[j]? = some y) (s : β) : (N.take (j + 1)).foldl f s = f ((N.take j).foldl f s) y := by
  rw [List.take_add_one, h, List.foldl_append]; rfl
set_option maxRecDepth 100000 in
set_option maxHeartbeats 6400000 in
theorem follow_any (H : Nat) (W : World) (T : Tg) (z : Int) (hp : T.pL = none → T.cL = 0) (hl1 : T.R.length ≤ 1000) (hl2 : T.L.length ≤ 1000) (hV : ∀ r, ∀ y ∈ nxt T.R T.L r z, y ∈ ids T.R ∧ 1 ≤ y ∧ y ≤ 99) :
    ∀ (f : Nat) (r : Int) (st : List Int × List Int) (v : Value) (w : World), FJ H W T z v st w → (okT T.R T.L = true → I64 r) → (∀ x ∈ st.1, x ∈ ids T.R) → st.1.Nodup → st.2.length ≤ st.1.length → (ids T.R).length < f + st.1.length →
    Calls Tryz.prog 74 #[.int .i64 r, ptB H, ptB (H + 1), ptB (H + 3), ptB (H + 2), ptB (H + 4)] w fun e w' => e = .returned (.tuple #[]) ∧ ∃ v', FJ H W T z v' (flw (fun a => nxt T.R T.L a z) (capV T.R T.L) f r st) w' ∧ JF (H + 1) w v w' v' := by
  intro f
  induction f with
  | zero =>
    intro r st v w h hr hs hn hh hl
    have := nodup_leH st.1 (ids T.R) hn hs
    omega
  | succ f ih =>
    intro r st v w h hr hs hn hh hl
    obtain ⟨i0, hi, hz0, hz1, hz2⟩ := info_parts info_int
    have e0 : EnterF (74) := enters_of Tryz.func74 (by kernel_rfl) rfl
    have IH := Lib.hid ih
    have HJ := Lib.hid h
    have HV := Lib.hid hV
    have HP := Lib.hid hp
    have HS0 := Lib.hid (And.intro hs (And.intro hn (And.intro hh hl)))
    obtain ⟨R, L, pR, cR, pL, cL⟩ := T
    simp only at HJ HV HP HS0 hl1 hl2 IH hr ⊢
    have HIR : Hid ((ids R).length = R.length) := Lib.hid (ids_len R)
    obtain ⟨t0, t1⟩ := row_cells HJ.out.bT
    have c1 : w.cell? ⟨H + 1, 0, none⟩ = some (.int .i64 z) := by rw [cell_of_row _ _ _ _ _ _ HJ.out.bz]; rfl
    clear ih h hs hn hh hl hV hp
    unfold ptB
    go_enter Tryz.func74, Tryz.ntmps74
    go_wp2_with fail
    refine (tnextW_any ⟨R, L, pR, cR, pL, cL⟩ r z _ w HJ.out.t hl1 hl2 HP.out hr).mono ?_
    rintro e w1 ⟨pN, cN, rfl, hrd, hcN, hpN, hg⟩
    have HR1 := Lib.hid (And.intro hrd hg)
    have HNV := Lib.hid (HV.out r)
    obtain ⟨N, hN⟩ : ∃ N, nxt R L r z = N := ⟨_, rfl⟩
    simp only at HR1 HNV ⊢
    rw [hN] at HR1 HNV
    have hNE := Lib.hid hN
    have hNl : N.length ≤ 9223372036854775807 := by rw [hN] at hcN; omega
    rw [hN]
    clear hrd hcN hpN hg hN t0 t1 c1
    have J0 : Hid (FJ H W ⟨R, L, pR, cR, pL, cL⟩ z v st w1 ∧ JF (H + 1) w1 v w1 v) := Lib.hid ⟨HJ.out.keep HR1.out.2, JF.refl _ _ _⟩
    go_wp2_with fail
    go_loopw [14] (fun a wr => ∃ (j : Nat) (st' : List Int × List Int) (v' : Value), j ≤ N.length ∧ a = .int .i64 (j : Int) ∧ Hid (FJ H W ⟨R, L, pR, cR, pL, cL⟩ z v' st' wr ∧ JF (H + 1) w1 v wr v') ∧ Hid (st' = (N.take j).foldl (flS (fun a => nxt R L a z) (capV R L) f) st ∧ (∀ x ∈ st'.1, x ∈ ids R) ∧ st'.1.Nodup ∧ st'.2.length ≤ st'.1.length ∧ (ids R).length < f + 1 + st'.1.length)) (fun a _ => N.length - (RowKit.intOf a).toNat)
    case atStart => exact ⟨0, st, v, Nat.zero_le _, rfl, J0, Lib.hid ⟨rfl, HS0.out.1, HS0.out.2.1, HS0.out.2.2.1, HS0.out.2.2.2⟩⟩
    case round =>
    obtain ⟨j, st', v', hj, rfl, J, HT⟩ := hrel
    clear J0
    obtain ⟨w2, hw2⟩ : ∃ w2, w2 = wr := ⟨_, rfl⟩
    rw [← hw2] at J ⊢
    clear hw2
    by_cases hlt : j < N.length
    case neg =>
      obtain rfl : j = N.length := by omega
      have hnl : ¬ (N.length : Int) < (N.length : Int) := by omega
      go_wp2_with fail
      have hT := HT.out.1
      rw [List.take_length] at hT
      refine bodyPost_end (results_none rfl _ _ _) rfl ⟨rfl, v', ?_, (JF.grown v HR1.out.2).trans J.out.2⟩
      rw [flw_succ]
      show FJ H W ⟨R, L, pR, cR, pL, cL⟩ z v' ((nxt R L r z).foldl (flS (fun a => nxt R L a z) (capV R L) f) st) w2
      rw [hNE.out, ← hT]
      exact J.out.1
    have hlt' : (j : Int) < (N.length : Int) := by omega
    have hj0 : (0 : Int) ≤ (j : Int) := by omega
    obtain ⟨y, hy⟩ : ∃ y, N[j]? = some y := ⟨_, List.getElem?_eq_getElem hlt⟩
    obtain ⟨hyV, hy1, hy2⟩ := HNV.out y (List.mem_of_getElem? hy)
    obtain ⟨m, rfl⟩ : ∃ m : Nat, y = (m : Int) := ⟨y.toNat, by omega⟩
    have hNr : Rd w2 (fun x => w.heap.size ≤ x) (.slice pN N.length cN) (N.map tv) := Rd.jf HR1.out.1 J.out.2 (fun b hb _ => by
      have := HJ.out.lo.2
      refine ⟨by omega, by omega, fun e => ?_⟩
      have := (HJ.out.own.lt b e).2
      omega)
    obtain ⟨b, off, rfl, a0⟩ := rdi_atF hNr hy
    have HY := Lib.hid hy
    have HYV := Lib.hid hyV
    have m2 : m < 100 := by omega
    have s0 := J.out.1.bs.cell (sn_at (S := st'.1) m2)
    have sf := J.out.1.bs.frozen m
    have i0' : (0 : Int) ≤ (m : Int) := by omega
    have i1' : (m : Int) < 100 := by omega
    clear hy hyV hNr
    cases hh : hasI st'.1 (m : Int)
    case true =>
      rw [hh] at s0
      have HM := Lib.hid (hasI_memF.1 hh)
      clear hh
      go_wp2_with fail
      refine ⟨⟨j + 1, st', v', by omega, congrArg _ (by omega), J, Lib.hid ⟨?_, HT.out.2⟩⟩, by simp only [RowKit.intOf]; omega⟩
      rw [fold_takeF _ HY.out, ← HT.out.1]
      unfold flS
      rw [if_pos HM.out]
    rw [hh] at s0
    have HM : Hid ((m : Int) ∉ st'.1) := Lib.hid (fun h => by rw [hasI_memF.2 h] at hh; cases hh)
    clear hh
    have HMK := Lib.hid (J.out.1.mark m2)
    go_upto_region 5 with fail
    clear s0 sf a0
    generalize w2.setCell _ _ = w3 at *
    obtain ⟨t0, t1⟩ := row_cells HMK.out.1.bT
    have HT2 : Hid ((∀ x ∈ st'.1 ++ [(m : Int)], x ∈ ids R) ∧ (st'.1 ++ [(m : Int)]).Nodup ∧ (ids R).length < f + (st'.1 ++ [(m : Int)]).length) := Lib.hid ⟨fun x hx => by
      rcases List.mem_append.1 hx with h | h
      · exact HT.out.2.1 x h
      · rw [List.mem_singleton.1 h]; exact HYV.out, List.nodup_append.2 ⟨HT.out.2.2.1, by simp, fun a ha b hb e => by rw [List.mem_singleton.1 hb] at e; subst e; exact HM.out ha⟩, by have := HT.out.2.2.2.2; rw [List.length_append]; show _ < f + (_ + 1); omega⟩
    go_wp2_with fail
    refine (tcap_any ⟨R, L, pR, cR, pL, cL⟩ (m : Int) _ w3 HMK.out.1.t (show R.length ≤ 1000000 by omega)).mono ?_
    rintro e w4 ⟨rfl, hg⟩
    have J4 := Lib.hid (And.intro (HMK.out.1.keep hg) (J.out.2.trans (HMK.out.2.trans (JF.grown v' hg))))
    clear hg HMK t0 t1
    simp only
    cases hcp : capV R L (m : Int)
    case false =>
      have HCP := Lib.hid hcp
      clear hcp
      have bf0 : w4.cell? ⟨H + 4, 0, none⟩ = some (.func (.func 74) #[] #[.pointer (some ⟨H, 0, none⟩), .pointer (some ⟨H + 1, 0, none⟩), .pointer (some ⟨H + 3, 0, none⟩), .pointer (some ⟨H + 2, 0, none⟩), .pointer (some ⟨H + 4, 0, none⟩)]) := by rw [cell_of_row _ _ _ _ _ _ J4.out.1.bf]; rfl
      have hcall := IH.out (m : Int) (st'.1 ++ [(m : Int)], st'.2) v' w4 J4.out.1 (fun _ => by unfold I64; omega) HT2.out.1 HT2.out.2.1 (by have := HT.out.2.2.2.1; simp only [List.length_append]; omega) HT2.out.2.2
      unfold ptB at hcall
      go_wp2_with fail
      refine hcall.mono ?_
      rintro e w5 ⟨rfl, v5, h5, k5⟩
      have H5 := Lib.hid (And.intro h5 (J4.out.2.trans k5))
      have hI := fl_inv (N := fun a => nxt R L a z) (cp := capV R L) (Q := (· ∈ ids R)) (fun y _ _ x hx => (HV.out y x hx).1) f (m : Int) (st'.1 ++ [(m : Int)], st'.2) (fun x hx => (HV.out (m : Int) x hx).1)
      have HIF := Lib.hid hI
      clear h5 k5 hcall J4 bf0 hI
      go_wp2_with fail
      refine ⟨⟨j + 1, _, v5, by omega, congrArg _ (by omega), H5, Lib.hid ⟨?_, ?_, HIF.out.nd HT2.out.2.1, ?_, ?_⟩⟩, by simp only [RowKit.intOf]; omega⟩
      · rw [fold_takeF _ HY.out, ← HT.out.1]
        unfold flS
        rw [if_neg HM.out, if_neg (by rw [HCP.out]; decide)]
      · exact fun x hx => (HIF.out.new x hx).elim (HT2.out.1 x) id
      · exact fl_len f (m : Int) (st'.1 ++ [(m : Int)], st'.2) (by have := HT.out.2.2.2.1; simp only [List.length_append, List.length_singleton]; omega)
      · have h6 : (st'.1 ++ [(m : Int)]).length ≤ _ := HIF.out.len
        have h7 := HT2.out.2.2
        omega
    case true =>
    have HCP := Lib.hid hcp
    clear hcp
    have hlen : st'.2.length ≤ 1000 := by
      have h1 := nodup_leH st'.1 (ids R) HT.out.2.2.1 HT.out.2.1
      have h2 := HIR.out
      have h3 := HT.out.2.2.2.1
      omega
    have bh0 : w4.cell? ⟨H + 2, 0, none⟩ = some v' := by rw [cell_of_row _ _ _ _ _ _ J4.out.1.bh]; rfl
    obtain ⟨pv, cv, rfl, -, -⟩ := own_shape J4.out.1.own
    have hlo := J4.out.1.lo
    go_wp2_with (at_builtin; refine hold_on ?_)
    refine Lib.hid ?_
    refine wpList_append_lies _ rfl _ _ 22 rfl (H + 5) 3 i0 (.int .i64 0) 1 8 Tryz.underlying22 hi hz0 hz1 hz2 rfl (by decide) (.slice pv st'.2.length cv) st'.2.length (st'.2.map tv) rfl (J4.out.1.own.alloc _) ⟨w4.heap.size, 0, none⟩ 1 1 [.int .i64 (m : Int)] rfl rfl (iv_rowH w4 (m : Int) _) (fun u hu => by rw [List.mem_singleton.1 hu]; rfl) (by decide) (by unfold maxLen; omega) (by omega) (by simp; omega) _ rfl ?_
    intro g cap w5 hown hgrow hat hlt5
    have ga := World.grownBy_alloc w4 (.cells #[.int .i64 (m : Int)] 3) none
    have hpu := (J4.out.1.keep ga).push (y := (m : Int)) (v' := .slice (some ⟨g, 0, none⟩) (st'.2.length + 1) cap) (by rw [List.length_append, List.map_append]; exact hown) hgrow (by
      rcases hat with h | h
      · exact Or.inl h.symm
      · exact Or.inr ⟨g, rfl, by rw [h]; exact Nat.le_refl _⟩)
    have bh5 : w5.cell? ⟨H + 2, 0, none⟩ = some (.slice pv st'.2.length cv) := by rw [cell_of_row _ _ _ _ _ _ hpu.1]; rfl
    have bf5 := frozen_of_row _ _ 0 _ _ hpu.1
    have H5 := Lib.hid (And.intro hpu.2.1 (J4.out.2.trans ((JF.grown _ ga).trans hpu.2.2)))
    clear hown hgrow hat hlt5 ga hpu bh0 J4
    go_wp2_with fail
    refine ⟨⟨j + 1, _, _, by omega, congrArg _ (by omega), H5, Lib.hid ⟨?_, HT2.out.1, HT2.out.2.1, ?_, ?_⟩⟩, by simp only [RowKit.intOf]; omega⟩
    · rw [fold_takeF _ HY.out, ← HT.out.1]
      unfold flS
      rw [if_neg HM.out, if_pos HCP.out]
    · have := HT.out.2.2.2.1
      simp only [List.length_append, List.length_singleton]
      omega
    · have h7 := HT2.out.2.2
      show (ids R).length < f + 1 + (st'.1 ++ [(m : Int)]).length
      omega
end Go.Proofs.YtahafijpcmphaaaGreat

/- tables: the boxes of the program's Hops. -/

namespace Go.Proofs.YtahafijpcmphaaaGreat
open Go.RowKit Bs
def fnB (H : Nat) : Value := .func (.func 74) #[] #[ptB H, ptB (H + 1), ptB (H + 3), ptB (H + 2), ptB (H + 4)]
set_option maxRecDepth 100000 in
theorem zc_sn : Tryz.zeroCells102 = (sn []).toArray := by kernel_rfl
set_option maxRecDepth 100000 in
theorem fj_start {w : World} {T : Tg} {q : Nat → Prop} (z : Int) (hT : TgOk w q T) {H : Nat} (hH : w.heap.size = H) {wb : World} (hwb : wb = ((((w.alloc (.cells #[.slice T.pR T.R.length T.cR, .slice T.pL T.L.length T.cL] 45)).alloc (.cells #[.int .i64 z] 3)).alloc (.cells #[.slice none 0 0] 22)).alloc (.cells Tryz.zeroCells102 102)).alloc (.cells #[.nilFunc] 103)) :
    (wb.heap[H + 4]? = some (.cells #[.nilFunc] 103 (0, 0))) ∧ FJ H w T z (.slice none 0 0) ([], []) (wb.setCell ⟨H + 4, 0, none⟩ (fnB H)) := by
  subst hwb
  obtain ⟨a1, g1, z1⟩ := alloc_row (w := w) #[.slice T.pR T.R.length T.cR, .slice T.pL T.L.length T.cL] 45 hH
  generalize w.alloc _ = w1 at *
  obtain ⟨a2, g2, z2⟩ := alloc_row (w := w1) #[.int .i64 z] 3 z1
  generalize w1.alloc _ = w2 at *
  obtain ⟨a3, g3, z3⟩ := alloc_row (w := w2) #[.slice none 0 0] 22 z2
  generalize w2.alloc _ = w3 at *
  obtain ⟨a4, g4, z4⟩ := alloc_row (w := w3) Tryz.zeroCells102 102 z3
  generalize w3.alloc _ = w4 at *
  obtain ⟨a5, g5, z5⟩ := alloc_row (w := w4) #[.nilFunc] 103 z4
  generalize w4.alloc _ = w5 at *
  have g6 : w5.grownBy (w5.setCell ⟨H + 4, 0, none⟩ (fnB H)) (some (H + 4)) := grown_setCell _ _ _
  have hn : ∀ b, b ≠ H + 4 → some b ≠ some (H + 4) := fun b hb e => hb (Option.some.inj e)
  have g25 := grown_trans (grown_trans (grown_trans g2 g3) g4) g5
  have gg := grown_trans g1 g25
  have hbs : TRow w4 (H + 3) 102 (sn []) := by unfold TRow; rw [← zc_sn]; exact a4
  refine ⟨a5, kept_row (kept_row a1 g25 (by simp)) g6 (hn _ (by omega)), kept_row (kept_row a2 (grown_trans (grown_trans g3 g4) g5) (by simp)) g6 (hn _ (by omega)), kept_row (kept_row a3 (grown_trans g4 g5) (by simp)) g6 (hn _ (by omega)), (hbs.kept g5 (by simp)).kept g6 (hn _ (by omega)), heap_setCell_same w5 (H + 4) 0 _ _ (fnB H) a5, ((hT.old.keep gg).mono (fun b (hb : b < w.heap.size) => by omega)).grown g6 (fun b hb => hn b (by omega)), World.ownsRow_nil _ _ _ _, grown_new gg g6 (by omega), by omega, Nat.le_trans (by omega) g6.size⟩
end Go.Proofs.YtahafijpcmphaaaGreat

/- tables: the program's Hops. -/
namespace Go.Proofs.YtahafijpcmphaaaGreat
open Go.RowKit Bs
set_option maxRecDepth 100000 in
theorem toS_pw {d : List Int} (h : toS d d.length) : d.Pairwise (· ≤ ·) := by
  rw [List.pairwise_iff_getElem]
  intro i j hi hj hij
  have := h i j hij hj
  rw [List.getD_eq_getElem?_getD, List.getD_eq_getElem?_getD, List.getElem?_eq_getElem hi, List.getElem?_eq_getElem hj] at this
  exact this
set_option maxRecDepth 100000 in
set_option maxHeartbeats 3200000 in
theorem tinsN_any (w : World) : Calls Tryz.prog 125 #[.slice none 0 0, .int .i64 0, .int .i64 0] w fun e w' => e = .returned (.tuple #[]) ∧ w = w' := by
  go_enter Tryz.func125, Tryz.ntmps125
  go_wp2_with fail
  refine wp_loop_rounds 1 ?_
  rw [rounds_succ]
  go_wp2_with fail
  first | exact bodyPost_end (results_none rfl _ _ _) rfl ⟨rfl, rfl⟩ | exact bodyPost_ret (results_none rfl _ _ _) rfl ⟨rfl, rfl⟩
set_option maxRecDepth 100000 in
set_option maxHeartbeats 3200000 in
theorem tpdqN_any (k : Int) (w : World) : Calls Tryz.prog 106 #[.slice none 0 0, .int .i64 0, .int .i64 0, .int .i64 k] w fun e w' => e = .returned (.tuple #[]) ∧ w = w' := by
  go_enter Tryz.func106, Tryz.ntmps106
  go_wp2_with fail
  refine wp_loop_rounds 1 ?_
  rw [rounds_succ]
  go_wp2_with fail
  refine (tinsN_any w).mono ?_
  rintro e w' ⟨rfl, rfl⟩
  go_wp2_with fail
  first | exact bodyPost_end (results_none rfl _ _ _) rfl ⟨rfl, rfl⟩ | exact bodyPost_ret (results_none rfl _ _ _) rfl ⟨rfl, rfl⟩
set_option maxRecDepth 100000 in
set_option maxHeartbeats 3200000 in
theorem tsortN_any (w : World) : Calls Tryz.prog 76 #[.slice none 0 0] w fun e w' => e = .returned (.tuple #[]) ∧ w = w' := by
  go_enter Tryz.func76, Tryz.ntmps76
  go_wp2_with fail
  refine (tlen_any 0 (by omega) w).mono ?_
  rintro e w' ⟨k, rfl, rfl⟩
  go_wp2_with fail
  refine (tpdqN_any k w).mono ?_
  rintro e w' ⟨rfl, rfl⟩
  go_wp2_with fail
  first | exact bodyPost_end (results_none rfl _ _ _) rfl ⟨rfl, rfl⟩ | exact bodyPost_ret (results_none rfl _ _ _) rfl ⟨rfl, rfl⟩
/-- What the program's Hops gives before it sorts. -/
def HopU (R : List Rt) (L : List Lk) (x z : Int) (M : List Int) : Prop := M.Nodup ∧ (∀ y ∈ M, y ∈ ids R) ∧ ∀ y, y ∈ M ↔ ∃ s, (∀ P : Int → Prop, P x → (∀ a b, P a → b ∈ nxt R L a z → capV R L b = false → P b) → P s) ∧ y ∈ nxt R L s z ∧ capV R L y = true
set_option maxRecDepth 100000 in
set_option maxHeartbeats 6400000 in
theorem thops0_any (T : Tg) (x z : Int) (q : Nat → Prop) (w : World) (hT : TgOk w q T) (hp : T.pL = none → T.cL = 0) (hl0 : T.R.length ≤ 1000) (hl1 : okT T.R T.L = true → T.R.length ≤ 12) (hl2 : T.L.length ≤ 1000) (hx : okT T.R T.L = true → I64 x) (hV : ∀ r, ∀ y ∈ nxt T.R T.L r z, y ∈ ids T.R ∧ 1 ≤ y ∧ y ≤ 99) :
    Calls Tryz.prog 31 #[.agg #[.slice T.pR T.R.length T.cR, .slice T.pL T.L.length T.cL], .int .i64 x, .int .i64 z] w fun e w' => ∃ (M : List Int) (p : Option Addr) (c : Nat), e = .returned (.slice p M.length c) ∧ Rd w' (w.heap.size ≤ ·) (.slice p M.length c) (M.map tv) ∧ (p = none → c = 0) ∧ (M.length ≤ c ∧ c ≤ 9223372036854775807) ∧ M.Pairwise (· < ·) ∧ HopU T.R T.L x z M ∧ w.grownBy w' none := by
  have e0 : EnterF (74) := enters_of Tryz.func74 (by kernel_rfl) rfl
  have hmf : ∀ (fn : Fn) (first cap : Array Value) (w : World), (Instr.makeFunc fn first cap).run Tryz.prog w = .ok (.func fn first cap) w := fun _ _ _ _ => rfl
  have hsf : ∀ (a : Addr) (fn : Fn) (first cap : Array Value) (m : Mode) (w : World), (store a (.func fn first cap) m).run Tryz.prog w = stored Tryz.prog w a (.func fn first cap) m := fun a fn first cap m w => run_store _ w a _ m rfl
  have HST := Lib.hid (fj_start z hT (H := w.heap.size) rfl rfl)
  have HU : Hid (HopU T.R T.L x z (flw (fun a => nxt T.R T.L a z) (capV T.R T.L) ((ids T.R).length + 1) x ([], [])).2) := Lib.hid (by
    obtain ⟨h1, h2⟩ := fl_hops (N := fun a => nxt T.R T.L a z) (cp := capV T.R T.L) (V := ids T.R) (fun r y hy => (hV r y hy).1) x (f := (ids T.R).length + 1) (Nat.lt_succ_self _)
    exact ⟨h1, fun y hy => by obtain ⟨s, -, hs, -⟩ := (h2 y).1 hy; exact (hV s y hs).1, h2⟩)
  have HFA := Lib.hid (follow_any w.heap.size w T z hp (by omega) hl2 hV ((ids T.R).length + 1) x ([], []))
  have HXI := Lib.hid (And.intro hx hl1)
  clear hT hp hx hV hl1
  go_enter Tryz.func31, Tryz.ntmps31
  go_upto_region 4 with fail
  generalize ((((w.alloc _).alloc _).alloc _).alloc _).alloc _ = wb at *
  obtain ⟨H, hH⟩ : ∃ H, w.heap.size = H := ⟨_, rfl⟩
  have HH := Lib.hid hH
  rw [hH] at HST HFA ⊢
  clear hH
  have n0 : wb.cell? ⟨H + 4, 0, none⟩ = some .nilFunc := by rw [cell_of_row _ _ _ _ _ _ HST.out.1]; rfl
  have f0 : wb.frozen? ⟨H + 4, 0, none⟩ = false := frozen_of_row _ _ _ _ _ HST.out.1
  have K := Lib.hid HST.out.2
  unfold fnB ptB at K
  clear HST
  rw [show H + 1 + 1 + 1 + 1 = H + 4 from rfl, show H + 1 + 1 + 1 = H + 3 from rfl, show H + 1 + 1 = H + 2 from rfl]
  go_upto_region 5 with fail
  clear n0 f0
  generalize wb.setCell _ _ = wc at *
  have bf0 : wc.cell? ⟨H + 4, 0, none⟩ = some (.func (.func 74) #[] #[.pointer (some ⟨H, 0, none⟩), .pointer (some ⟨H + 1, 0, none⟩), .pointer (some ⟨H + 3, 0, none⟩), .pointer (some ⟨H + 2, 0, none⟩), .pointer (some ⟨H + 4, 0, none⟩)]) := by rw [cell_of_row _ _ _ _ _ _ K.out.bf]; rfl
  have hcall := HFA.out (.slice none 0 0) wc K.out HXI.out.1 (fun y hy => (by cases hy)) List.nodup_nil (Nat.le_refl _) (by simp)
  unfold ptB at hcall
  go_wp2_with fail
  refine hcall.mono ?_
  rintro e w5 ⟨rfl, v5, h5, -⟩
  have K5 := Lib.hid h5
  clear h5 hcall bf0 K HFA
  have hul : (flw (fun a => nxt T.R T.L a z) (capV T.R T.L) ((ids T.R).length + 1) x ([], [])).2.length ≤ 12 := by
    by_cases hok : okT T.R T.L = true
    · have h1 := nodup_leH _ (ids T.R) HU.out.1 HU.out.2.1
      have h2 := ids_len T.R
      have h3 := HXI.out.2 hok
      omega
    · have h0 := List.eq_nil_iff_forall_not_mem.2 (fun y (hy : y ∈ (flw (fun a => nxt T.R T.L a z) (capV T.R T.L) ((ids T.R).length + 1) x ([], [])).2) => by
        obtain ⟨s, -, -, hc⟩ := (HU.out.2.2 y).1 hy
        unfold capV at hc
        rw [Bool.and_eq_true] at hc
        exact hok hc.1)
      rw [h0]
      exact Nat.zero_le _
  obtain ⟨ST, hST⟩ : ∃ ST, flw (fun a => nxt T.R T.L a z) (capV T.R T.L) ((ids T.R).length + 1) x ([], []) = ST := ⟨_, rfl⟩
  rw [hST] at hul HU K5
  clear hST HXI
  have bh0 : w5.cell? ⟨H + 2, 0, none⟩ = some v5 := by rw [cell_of_row _ _ _ _ _ _ K5.out.bh]; rfl
  have hlo := K5.out.lo
  rcases own_formF K5.out.own with ⟨rfl, h0⟩ | ⟨g, cap, rfl, hc1, hc2⟩
  · have hnil : ST.2 = [] := List.eq_nil_of_length_eq_zero h0
    clear h0
    go_wp2_with fail
    refine (tsortN_any w5).mono ?_
    rintro e w6 ⟨rfl, rfl⟩
    go_wp2_with fail
    go_ret
    rw [hnil] at HU
    exact ⟨[], none, 0, rfl, ⟨none, 0, rfl, fun h => absurd rfl h⟩, fun _ => rfl, ⟨Nat.le_refl _, by show (0 : Nat) ≤ _; omega⟩, List.Pairwise.nil, HU.out, K5.out.gr⟩
  have hgl := (K5.out.own.lt g rfl)
  go_wp2_with fail
  refine (tsort_any (H + 5) g cap ST.2.length ST.2 w5 K5.out.own rfl hul).mono ?_
  rintro e w6 ⟨d, hd, rfl⟩
  have HD := Lib.hid hd.out
  have bh6 : w6.cell? ⟨H + 2, 0, none⟩ = some (.slice (some ⟨g, 0, none⟩) ST.2.length cap) := HD.out.1.gr.cell bh0 (by simp; omega)
  clear hd bh0
  go_wp2_with fail
  go_ret
  have hdl := HD.out.1.len
  have hpw : d.Pairwise (· ≤ ·) := toS_pw (by rw [hdl]; exact HD.out.2)
  have hnd : d.Nodup := HD.out.1.perm.nodup_iff.2 HU.out.1
  refine ⟨d, some ⟨g, 0, none⟩, cap, (by show Ending.returned (.slice (some ⟨g, 0, none⟩) ST.2.length cap) = _; rw [hdl]), ?_, fun h => (by cases h), by omega, ?_, ⟨hnd, fun y hy => HU.out.2.1 y (HD.out.1.perm.mem_iff.1 hy), fun y => HD.out.1.perm.mem_iff.trans (HU.out.2.2 y)⟩, grown_new K5.out.gr HD.out.1.gr (by omega)⟩
  · have := (rd_of_own HD.out.1.own).mono (q' := (w.heap.size ≤ ·)) (fun b hb => by have := K5.out.lo.1; omega)
    rw [← hdl] at this
    exact this
  · refine List.pairwise_iff_getElem.2 fun i j hi hj hij => ?_
    have h1 := List.pairwise_iff_getElem.1 hpw i j hi hj hij
    have h2 := List.pairwise_iff_getElem.1 hnd i j hi hj hij
    omega
end Go.Proofs.YtahafijpcmphaaaGreat

/- empty -/
namespace Go.Proofs.YtahafijpcmphaaaGreat
end Go.Proofs.YtahafijpcmphaaaGreat

/- empty -/
namespace Go.Proofs.YtahafijpcmphaaaGreat
end Go.Proofs.YtahafijpcmphaaaGreat

/- empty -/
namespace Go.Proofs.YtahafijpcmphaaaGreat
end Go.Proofs.YtahafijpcmphaaaGreat

/- empty -/
namespace Go.Proofs.YtahafijpcmphaaaGreat
end Go.Proofs.YtahafijpcmphaaaGreat

/- masks: the laws' example. -/
namespace Go.Proofs.YtahafijpcmphaaaGreat
open Go.RowKit Go.Maps Bs
set_option maxRecDepth 100000 in
theorem asc_same : ∀ {l m : List Int}, l.Pairwise (· < ·) → m.Pairwise (· < ·) → (∀ x, x ∈ l ↔ x ∈ m) → l = m
  | [], [], _, _, _ => rfl
  | [], b :: m, _, _, h => by have := (h b).2 (by simp); cases this
  | a :: l, [], _, _, h => by have := (h a).1 (by simp); cases this
  | a :: l, b :: m, hl, hm, h => by
    obtain ⟨h1, h2⟩ := List.pairwise_cons.1 hl
    obtain ⟨h3, h4⟩ := List.pairwise_cons.1 hm
    have e : a = b := by
      rcases List.mem_cons.1 ((h a).1 (by simp)) with e | e
      · exact e
      · rcases List.mem_cons.1 ((h b).2 (by simp)) with e2 | e2
        · exact e2.symm
        · have := h1 b e2; have := h3 a e; omega
    subst e
    refine congrArg _ (asc_same h2 h4 fun x => ⟨fun hx => ?_, fun hx => ?_⟩)
    · rcases List.mem_cons.1 ((h x).1 (List.mem_cons_of_mem _ hx)) with e | e
      · have := h1 x hx; omega
      · exact e
    · rcases List.mem_cons.1 ((h x).2 (List.mem_cons_of_mem _ hx)) with e | e
      · have := h3 x hx; omega
      · exact e
end Go.Proofs.YtahafijpcmphaaaGreat

/- tables: the program's Hops and the reference's give the same list. -/
namespace Go.Proofs.YtahafijpcmphaaaGreat
open Go.RowKit Bs
end Go.Proofs.YtahafijpcmphaaaGreat

/- tables: what the program's Hops gives, in the reference's words; both tables have the same rows. -/
namespace Go.Proofs.YtahafijpcmphaaaGreat
open Go.RowKit Bs
set_option maxRecDepth 100000 in
theorem nxt_hasT {R : List Rt} {L : List Lk} {r z u : Int} (h : u ∈ nxt R L r z) : hasV R L r = true ∧ hasV R L z = true ∧ r ≠ z := by
  obtain ⟨-, h2⟩ := nxt_near h
  obtain ⟨x, d, h3, h4, h5⟩ := nearB_iff.1 h2
  obtain ⟨h6, h7, h8⟩ := dst_both h4
  refine ⟨hasV_iff.2 ⟨h6, h7⟩, hasV_iff.2 ⟨h6, h8⟩, ?_⟩
  rintro rfl
  rw [dst_self (dst_some.1 h4).1] at h4
  have e := Option.some.inj h4
  have := (dst_bd h3).1
  omega
set_option maxRecDepth 100000 in
theorem nxt_rngT (R : List Rt) (L : List Lk) (z r : Int) : ∀ y ∈ nxt R L r z, y ∈ ids R ∧ 1 ≤ y ∧ y ≤ 99 := by
  intro y hy
  obtain ⟨h1, h2⟩ := nxt_near hy
  obtain ⟨x, d, h3, -, -⟩ := nearB_iff.1 h2
  exact ⟨h1, (dst_bd h3).2.1⟩
set_option maxRecDepth 100000 in
/-- The program's list is what the reference asks for. -/
theorem hopU_hops {R : List Rt} {L : List Lk} {x z : Int} {M : List Int} (hU : HopU R L x z M) : HopsIs R L x z M := by
  unfold HopsIs
  by_cases hc : hasV R L x = true ∧ hasV R L z = true ∧ x ≠ z
  · rw [if_pos hc]
    refine fun y => (hU.2.2 y).trans ?_
    unfold HopM HopC
    simp only [stV_nxt hc.2.1]
  · rw [if_neg hc]
    refine List.eq_nil_iff_forall_not_mem.2 fun y hy => ?_
    obtain ⟨s, hs, h1, -⟩ := (hU.2.2 y).1 hy
    have hz : ∀ u, u ∉ nxt R L x z := fun u hu => hc (nxt_hasT hu)
    have e := hs (fun a => a = x) rfl (fun a b ha hb _ => by subst ha; exact absurd hb (hz b))
    subst e
    exact hz y h1
end Go.Proofs.YtahafijpcmphaaaGreat

/- tables: the next hops where all routers are capable. -/
namespace Go.Proofs.YtahafijpcmphaaaGreat
open Go.RowKit Bs
end Go.Proofs.YtahafijpcmphaaaGreat

/- tables: what Build gives. -/
namespace Go.Proofs.YtahafijpcmphaaaGreat
open Go.RowKit Bs
/-- Build's error. -/
def buE (R : List Rt) (L0 : List Lk) (s n : Int) (E : List Ed) (ro : Int) : Int :=
  if okT R L0 = true ∧ vPl s n E = true then (if hasV R L0 ro = true then (if capV R L0 ro = true then 0 else 26) else 4) else 1
set_option maxRecDepth 100000 in
theorem bu_inv {R : List Rt} {L0 : List Lk} {s n : Int} {E : List Ed} {ro : Int} (h : ¬ (okT R L0 = true ∧ vPl s n E = true)) : buE R L0 s n E ro = 1 := by unfold buE; rw [if_neg h]
set_option maxRecDepth 100000 in
theorem bu_unk {R : List Rt} {L0 : List Lk} {s n : Int} {E : List Ed} {ro : Int} (h : okT R L0 = true ∧ vPl s n E = true) (h1 : hasV R L0 ro = false) : buE R L0 s n E ro = 4 := by unfold buE; rw [if_pos h, if_neg (by rw [h1]; decide)]
set_option maxRecDepth 100000 in
theorem bu_cap {R : List Rt} {L0 : List Lk} {s n : Int} {E : List Ed} {ro : Int} (h : okT R L0 = true ∧ vPl s n E = true) (h1 : hasV R L0 ro = true) (h2 : capV R L0 ro = false) : buE R L0 s n E ro = 26 := by unfold buE; rw [if_pos h, if_pos h1, if_neg (by rw [h2]; decide)]
set_option maxRecDepth 100000 in
theorem bu_ok {R : List Rt} {L0 : List Lk} {s n : Int} {E : List Ed} {ro : Int} (h : okT R L0 = true ∧ vPl s n E = true) (h1 : hasV R L0 ro = true) (h2 : capV R L0 ro = true) : buE R L0 s n E ro = 0 := by unfold buE; rw [if_pos h, if_pos h1, if_pos h2]
/-- What Build returns. -/
def TBdPost (R : List Rt) (L0 : List Lk) (ro s n : Int) (E : List Ed) (w : World) (e : Ending) (w' : World) : Prop :=
  ∃ (r1 s1 n1 : Int) (L : List Rw) (p : Option Addr) (c : Nat) (er : Int), e = .returned (.tuple #[.agg #[.int .i64 r1, .int .i64 s1, .int .i64 n1, .slice p L.length c], .int .i64 er]) ∧ er = buE R L0 s n E ro ∧ w'.ownsRow w.heap.size 36 2 (.slice p L.length c) L.length (L.flatMap rwC) ∧ (∀ x ∈ L, RdX w.heap.size w' (.slice p L.length c) x.p x.c x.nx) ∧ ((er = 0 ∧ r1 = ro ∧ s1 = s ∧ n1 = n ∧ BldM R L0 ro E L) ∨ (er ≠ 0 ∧ r1 = 0 ∧ s1 = 0 ∧ n1 = 0 ∧ L = [])) ∧ w.grownBy w' none
set_option maxRecDepth 100000 in
theorem tbd_zero {R : List Rt} {L0 : List Lk} {ro s n er : Int} {E : List Ed} {w w' : World} (h : buE R L0 s n E ro = er) (h0 : er ≠ 0) (g : w.grownBy w' none) : TBdPost R L0 ro s n E w (.returned (.tuple #[.agg #[.int .i64 0, .int .i64 0, .int .i64 0, .slice none 0 0], .int .i64 er])) w' :=
  ⟨0, 0, 0, [], none, 0, er, rfl, h.symm, World.ownsRow_nil _ _ _ _, fun x hx => (by cases hx), Or.inr ⟨h0, rfl, rfl, rfl, rfl⟩, g⟩
/-- What Build keeps in memory. -/
structure B3 (W : World) (T : Tg) (s n : Int) (E : List Ed) (pE : Option Addr) (cE : Nat) (w : World) : Prop where
  bT : w.heap[W.heap.size]? = some (.cells #[.slice T.pR T.R.length T.cR, .slice T.pL T.L.length T.cL] 45 (0, 0))
  bP : w.heap[W.heap.size + 1]? = some (.cells #[.int .i64 s, .int .i64 n, .slice pE E.length cE] 48 (0, 0))
  bR : w.heap[W.heap.size + 1 + 1]? = some (.cells #[.int .i64 0, .int .i64 0, .int .i64 0, .slice none 0 0] 25 (0, 0))
  t : TgOk w (· < W.heap.size) T
  e : RdF w (· < W.heap.size) (.slice pE E.length cE) E.length (E.flatMap edC)
  gr : W.grownBy w none
  lo : W.heap.size + 3 ≤ w.heap.size
set_option maxRecDepth 100000 in
theorem B3.keep {W : World} {T : Tg} {s n : Int} {E : List Ed} {pE : Option Addr} {cE : Nat} {w w1 : World} (h : B3 W T s n E pE cE w) (g : w.grownBy w1 none) : B3 W T s n E pE cE w1 :=
  ⟨kept_row h.bT g (by simp), kept_row h.bP g (by simp), kept_row h.bR g (by simp), h.t.keep g, h.e.keep g, grown_trans h.gr g, Nat.le_trans h.lo g.size⟩
set_option maxRecDepth 100000 in
theorem b3_start {w : World} {T : Tg} {q q2 : Nat → Prop} (s n : Int) {E : List Ed} {pE : Option Addr} {cE : Nat} (hT : TgOk w q T) (hE : RdF w q2 (.slice pE E.length cE) E.length (E.flatMap edC)) :
    B3 w T s n E pE cE (((w.alloc (.cells #[.slice T.pR T.R.length T.cR, .slice T.pL T.L.length T.cL] 45)).alloc (.cells #[.int .i64 s, .int .i64 n, .slice pE E.length cE] 48)).alloc (.cells #[.int .i64 0, .int .i64 0, .int .i64 0, .slice none 0 0] 25)) := by
  obtain ⟨a1, g1, z1⟩ := alloc_row (w := w) #[.slice T.pR T.R.length T.cR, .slice T.pL T.L.length T.cL] 45 rfl
  generalize w.alloc _ = w1 at *
  obtain ⟨a2, g2, z2⟩ := alloc_row (w := w1) #[.int .i64 s, .int .i64 n, .slice pE E.length cE] 48 z1
  generalize w1.alloc _ = w2 at *
  obtain ⟨a3, g3, z3⟩ := alloc_row (w := w2) #[.int .i64 0, .int .i64 0, .int .i64 0, .slice none 0 0] 25 z2
  generalize w2.alloc _ = w3 at *
  have gg := grown_trans (grown_trans g1 g2) g3
  exact ⟨kept_row (kept_row a1 g2 (by simp)) g3 (by simp), kept_row a2 g3 (by simp), a3, hT.old.keep gg, hE.old.keep gg, gg, by omega⟩
set_option maxRecDepth 100000 in
theorem res_tab_e {fn : Func} {p u : Tmp} (h : fn.results = #[.cell p 25, .tmp u]) (tmps : Array Value) (w : World) (g : Nat) (x y z v : Value) (hp : tmps.getD p undef = .pointer (some ⟨g, 0, none⟩)) (hg : w.heap[g]? = some (.cells #[x, y, z, v] 25 (0, 0))) :
    (results fn tmps).run Tryz.prog w = .ok (.tuple #[.agg #[x, y, z, v], tmps.getD u undef]) w := by
  have hp' : tmps[p]?.getD undef = .pointer (some ⟨g, 0, none⟩) := by simpa using hp
  rw [results_cell_tmp h]
  simp [hp', asAddr, run_loadVar_row w g _ _ _ _ _ hg Tryz.underlying25 rfl tab_sizeB, Result.andThen]
set_option maxRecDepth 100000 in
/-- The result's box is the only one that has changed. -/
theorem B3.out {W : World} {T : Tg} {s n : Int} {E : List Ed} {pE : Option Addr} {cE : Nat} {w w2 : World} {base : Nat} {v : Value} {L : List Rw} (h : B3 W T s n E pE cE w) (hown : w.ownsRow base 36 2 v L.length (L.flatMap rwC)) (hrows : ∀ x ∈ L, RdX base w v x.p x.c x.nx) (hb : W.heap.size + 3 ≤ base) (g : w.grownBy w2 (some (W.heap.size + 1 + 1))) :
    w2.ownsRow W.heap.size 36 2 v L.length (L.flatMap rwC) ∧ (∀ x ∈ L, RdX W.heap.size w2 v x.p x.c x.nx) ∧ W.grownBy w2 none := by
  have hne : ∀ b, base ≤ b → b ≠ W.heap.size + 1 + 1 := fun b hb => by omega
  refine ⟨(hown.kept g (by
      cases hvo : v.ownBlock with
      | none => exact Or.inl rfl
      | some b => exact Or.inr (fun e => by have := (hown.lt b hvo).1; have := Option.some.inj e; omega))).mono (by omega), fun x hx => ?_, grown_new h.gr g (by omega)⟩
  have h2 := (hrows x hx).over g hne
  exact ⟨h2.1.mono (fun b hb => ⟨by have := hb.1; omega, hb.2⟩), h2.2⟩
end Go.Proofs.YtahafijpcmphaaaGreat

/- tables: the reference's Edge. -/
namespace Go.Proofs.YtahafijpcmphaaaGreat
open Go.RowKit Bs
def isET (id : Int) (e : Ed) : Bool := decide (e.i = id)
def knET (E : List Ed) (id : Int) : Bool := E.any fun e => decide (e.i = id)
/-- The first edge of an ID, the zero edge if there is none. -/
def edFT (E : List Ed) (id : Int) : Ed := (E.find? (isET id)).getD ⟨0, 0⟩
set_option maxRecDepth 100000 in
theorem edFT_hit {E : List Ed} {id : Int} {k : Nat} {x : Ed} (h : (E.take k).any (isET id) = false) (hx : E[k]? = some x) (hi : x.i = id) : edFT E id = x ∧ knET E id = true := by
  obtain ⟨hk, hxe⟩ := List.getElem?_eq_some_iff.1 hx
  have hsp : E = E.take k ++ x :: E.drop (k + 1) := by
    have h1 := List.take_append_drop k E
    rw [List.drop_eq_getElem_cons hk, hxe] at h1
    exact h1.symm
  have hn : (E.take k).find? (isET id) = none := by
    rw [List.find?_eq_none]
    intro y hy
    have := List.any_eq_false.1 h y hy
    simpa using this
  constructor
  · unfold edFT
    rw [hsp, List.find?_append, hn, List.find?_cons_of_pos (by unfold isET; exact decide_eq_true hi)]; rfl
  · exact List.any_eq_true.2 ⟨x, List.mem_of_getElem? hx, decide_eq_true hi⟩
set_option maxRecDepth 100000 in
theorem edFT_none {E : List Ed} {id : Int} (h : E.any (isET id) = false) : edFT E id = ⟨0, 0⟩ ∧ knET E id = false := by
  refine ⟨?_, h⟩
  unfold edFT
  rw [List.find?_eq_none.2 (fun y hy => by have := List.any_eq_false.1 h y hy; simpa using this)]; rfl
set_option maxRecDepth 100000 in
theorem res_ed_bT {fn : Func} {p u : Tmp} (h : fn.results = #[.cell p 71, .tmp u]) (tmps : Array Value) (w : World) (g : Nat) (x y : Value) (hp : tmps.getD p undef = .pointer (some ⟨g, 0, none⟩)) (hg : w.heap[g]? = some (.cells #[x, y] 71 (0, 0))) :
    (results fn tmps).run Tryz.prog w = .ok (.tuple #[.agg #[x, y], tmps.getD u undef]) w := by
  have hp' : tmps[p]?.getD undef = .pointer (some ⟨g, 0, none⟩) := by simpa using hp
  simp [results, h, hp', asAddr, run_loadVar_row w g 71 71 #[x, y] (0, 0) _ hg Tryz.underlying71 rfl (by kernel_rfl)]
set_option maxRecDepth 100000 in
theorem store2eT {w : World} {b : Nat} {t : TypeId} {x y : Value} (u0 u1 : Value) (h : w.heap[b]? = some (.cells #[x, y] t (0, 0))) :
    ((w.setCell ⟨b, 0, none⟩ u0).setCell ⟨b, 1, none⟩ u1).heap[b]? = some (.cells #[u0, u1] t (0, 0)) ∧ w.grownBy ((w.setCell ⟨b, 0, none⟩ u0).setCell ⟨b, 1, none⟩ u1) (some b) := by
  have h1 := heap_setCell_same w b 0 _ _ u0 h
  have h2 := heap_setCell_same _ b 1 _ _ u1 h1
  exact ⟨h2, grown_trans (grown_setCell w ⟨b, 0, none⟩ u0) (grown_setCell _ ⟨b, 1, none⟩ u1)⟩
set_option maxRecDepth 100000 in
set_option maxHeartbeats 3200000 in
theorem iredgeT_any (sub n : Int) (E : List Ed) (id : Int) (p : Option Addr) (c : Nat) (q : Nat → Prop) (w : World) (hR : RdF w q (.slice p E.length c) E.length (E.flatMap edC)) (hm : E.length ≤ 9223372036854775807) :
    Calls Tryz.prog 41 #[.agg #[.int .i64 sub, .int .i64 n, .slice p E.length c], .int .i64 id] w fun e w' => e = .returned (.tuple #[.agg #[.int .i64 (edFT E id).r, .int .i64 (edFT E id).i], .bool (knET E id)]) ∧ w.grownBy w' none := by
  obtain ⟨k1, k2⟩ := tone_box w #[.int .i64 sub, .int .i64 n, .slice p E.length c] 48
  obtain ⟨k3, k4⟩ := tone_box (w.alloc (.cells #[.int .i64 sub, .int .i64 n, .slice p E.length c] 48)) #[.int .i64 0, .int .i64 0] 71
  rw [show (w.alloc (.cells #[.int .i64 sub, .int .i64 n, .slice p E.length c] 48)).heap.size = w.heap.size + 1 by simp] at k3
  have H0 := Lib.hid (And.intro (kept_row k1 k4 (by simp)) (And.intro k3 (And.intro (grown_trans k2 k4) ((hR.keep (grown_trans k2 k4)).old))))
  clear k1 k2 k3 k4 hR
  go_enter Tryz.func41, Tryz.ntmps41
  go_upto_region 1 with fail
  generalize ((w.alloc _).alloc _) = w1 at *
  obtain ⟨⟨c0, c1⟩, f0, f1⟩ : (w1.cell? ⟨w.heap.size + 1, 0, none⟩ = some (.int .i64 0) ∧ w1.cell? ⟨w.heap.size + 1, 1, none⟩ = some (.int .i64 0)) ∧ w1.frozen? ⟨w.heap.size + 1, 0, none⟩ = false ∧ w1.frozen? ⟨w.heap.size + 1, 1, none⟩ = false := ⟨⟨cell_of_row _ _ _ _ _ _ H0.out.2.1, cell_of_row _ _ _ _ _ _ H0.out.2.1⟩, frozen_of_row _ _ 0 _ _ H0.out.2.1, frozen_of_row _ _ 1 _ _ H0.out.2.1⟩
  have d2 := (row3i H0.out.1).1.2.2
  go_wp2_with fail
  go_loopw [6] (fun a wr => ∃ k : Nat, k ≤ E.length ∧ a = .int .i64 (k : Int) ∧ wr = w1 ∧ Hid ((E.take k).any (isET id) = false)) (fun a _ => E.length - (RowKit.intOf a).toNat)
  case atStart => exact ⟨0, Nat.zero_le _, rfl, rfl, Lib.hid rfl⟩
  case round =>
  obtain ⟨k, hk, rfl, rfl, HN⟩ := hrel
  by_cases hlt : k < E.length
  · have hlt' : (k : Int) < (E.length : Int) := by omega
    obtain ⟨-, b, off, rfl, hq, hc⟩ := ed_cells H0.out.2.2.2 (by omega)
    obtain ⟨x, hx⟩ : ∃ x, E[k]? = some x := ⟨_, List.getElem?_eq_getElem hlt⟩
    obtain ⟨a0, a1⟩ := hc k x hx
    have HX := Lib.hid hx
    clear hc hx
    by_cases hi : x.i = id
    · have hi' : (x.i == id) = true := by simpa using hi
      have HE := Lib.hid (edFT_hit HN.out HX.out hi)
      obtain ⟨t1, t2⟩ := store2eT (.int .i64 x.r) (.int .i64 x.i) H0.out.2.1
      have HT := Lib.hid (And.intro t1 (grown_new H0.out.2.2.1 t2 (by omega)))
      clear t1 t2 hi
      go_wp2_with fail
      refine bodyPost_ret (res_ed_bT rfl _ _ (w.heap.size + 1) _ _ rfl HT.out.1) rfl ?_
      rw [HE.out.1, HE.out.2]
      exact ⟨rfl, HT.out.2⟩
    · have hi' : (x.i == id) = false := by simpa using hi
      have HN2 : Hid ((E.take (k + 1)).any (isET id) = false) := Lib.hid (any_take HN.out HX.out (decide_eq_false hi))
      clear hi
      go_wp2_with fail
      exact ⟨⟨k + 1, by omega, congrArg _ (by omega), (by first | rfl | trivial), HN2⟩, by simp only [RowKit.intOf]; omega⟩
  · obtain rfl : k = E.length := by omega
    have hnl : ¬ (E.length : Int) < (E.length : Int) := by omega
    have HE := Lib.hid (edFT_none (any_end HN.out (Nat.le_refl _)))
    obtain ⟨t1, t2⟩ := store2eT (.int .i64 0) (.int .i64 0) H0.out.2.1
    have HT := Lib.hid (And.intro t1 (grown_new H0.out.2.2.1 t2 (by omega)))
    clear t1 t2
    go_wp2_with fail
    refine bodyPost_ret (res_ed_bT rfl _ _ (w.heap.size + 1) _ _ rfl HT.out.1) rfl ?_
    rw [HE.out.1, HE.out.2]
    exact ⟨rfl, HT.out.2⟩
end Go.Proofs.YtahafijpcmphaaaGreat

/- tables: slices of tables that are searched; CheckAll's closures. -/
namespace Go.Proofs.YtahafijpcmphaaaGreat
open Go.RowKit Bs
end Go.Proofs.YtahafijpcmphaaaGreat

/- tables: the program's CheckAll. -/
namespace Go.Proofs.YtahafijpcmphaaaGreat
open Go.RowKit Bs
/-- Tables in memory, all that they hold too. -/
structure RdT (w : World) (q : Nat → Prop) (p : Option Addr) (c : Nat) (Ts : List Tb) : Prop where
  rd : RdF w q (.slice p Ts.length c) Ts.length (Ts.flatMap tbC)
  ok : ∀ x ∈ Ts, RdW w q x.p x.c x.L ∧ x.L.length ≤ 9223372036854775807
set_option maxRecDepth 100000 in
theorem RdT.keep {w w1 : World} {q : Nat → Prop} {p : Option Addr} {c : Nat} {Ts : List Tb} (h : RdT w q p c Ts) (g : w.grownBy w1 none) : RdT w1 q p c Ts := ⟨h.rd.keep g, fun x hx => ⟨(h.ok x hx).1.keep g, (h.ok x hx).2⟩⟩
end Go.Proofs.YtahafijpcmphaaaGreat

/- The reference's Cost, Next and Route. -/
namespace Go.Proofs.YtahafijpcmphaaaGreat
open Go.RowKit Bs
set_option maxRecDepth 100000 in
theorem dst_no2 {R : List Rt} {L : List Lk} {a z : Int} (h : hasV R L a = false ∨ hasV R L z = false) : dst R L a z = none := by
  cases hd : dst R L a z with
  | none => rfl
  | some d =>
    obtain ⟨h1, h2, h3⟩ := dst_both hd
    rcases h with h | h
    · rw [hasV_iff.2 ⟨h1, h2⟩] at h; cases h
    · rw [hasV_iff.2 ⟨h1, h3⟩] at h; cases h
set_option maxRecDepth 100000 in
set_option maxHeartbeats 6400000 in
theorem rcst_any (T : Tg) (a z : Int) (q : Nat → Prop) (w : World) (hT : TgOk w q T) :
    Calls Tryz.prog 42 #[.agg #[.slice T.pR T.R.length T.cR, .slice T.pL T.L.length T.cL], .int .i64 a, .int .i64 z] w fun e w' => e = .returned (.tuple #[.int .i64 ((dst T.R T.L a z).getD 0), .bool (dst T.R T.L a z).isSome]) ∧ w.grownBy w' none := by
  obtain ⟨R, L, pR, cR, pL, cL⟩ := T
  simp only at *
  obtain ⟨k1, k2⟩ := tone_box w #[.slice pR R.length cR, .slice pL L.length cL] 45
  have HB := Lib.hid (And.intro k1 (And.intro k2 (hT.keep k2)))
  clear k1 k2 hT
  obtain ⟨X, hX⟩ : ∃ X, dst R L a z = X := ⟨_, rfl⟩
  have HX := Lib.hid hX
  rw [hX]
  clear hX
  go_enter Tryz.func42, Tryz.ntmps42
  go_upto_region 1 with fail
  generalize w.alloc _ = wb at *
  obtain ⟨c0, c1⟩ := row_cells HB.out.1
  cases ha : hasV R L a with
  | false =>
    have HA : Hid (hasV R L a = false ∨ hasV R L z = false) := Lib.hid (.inl ha)
    have H1 := Lib.hid ha
    clear ha
    go_wp2_with fail
    refine (rhasV_any ⟨R, L, pR, cR, pL, cL⟩ a _ wb HB.out.2.2).mono ?_
    rintro e w1 ⟨rfl, hg⟩
    simp only
    rw [H1.out]
    have HG := Lib.hid (grown_trans HB.out.2.1 hg)
    clear hg c0 c1
    go_wp2_with fail
    go_ret2
    obtain rfl : X = none := by rw [← HX.out]; exact dst_no2 HA.out
    exact ⟨rfl, HG.out⟩
  | true =>
    cases hz : hasV R L z with
    | false =>
      have HA : Hid (hasV R L a = false ∨ hasV R L z = false) := Lib.hid (.inr hz)
      have H1 := Lib.hid ha
      have H2 := Lib.hid hz
      clear ha hz
      go_wp2_with fail
      refine (rhasV_any ⟨R, L, pR, cR, pL, cL⟩ a _ wb HB.out.2.2).mono ?_
      rintro e w1 ⟨rfl, hg⟩
      simp only
      rw [H1.out]
      have HB1 := Lib.hid (And.intro (kept_row HB.out.1 hg (by simp)) (And.intro (grown_trans HB.out.2.1 hg) (HB.out.2.2.keep hg)))
      clear hg c0 c1 HB
      obtain ⟨c0, c1⟩ := row_cells HB1.out.1
      go_wp2_with fail
      refine (rhasV_any ⟨R, L, pR, cR, pL, cL⟩ z _ w1 HB1.out.2.2).mono ?_
      rintro e w2 ⟨rfl, hg⟩
      simp only
      rw [H2.out]
      have HG := Lib.hid (grown_trans HB1.out.2.1 hg)
      clear hg c0 c1
      go_wp2_with fail
      go_ret2
      obtain rfl : X = none := by rw [← HX.out]; exact dst_no2 HA.out
      exact ⟨rfl, HG.out⟩
    | true =>
      have H1 := Lib.hid ha
      have H2 := Lib.hid hz
      clear ha hz
      go_wp2_with fail
      refine (rhasV_any ⟨R, L, pR, cR, pL, cL⟩ a _ wb HB.out.2.2).mono ?_
      rintro e w1 ⟨rfl, hg⟩
      simp only
      rw [H1.out]
      have HB1 := Lib.hid (And.intro (kept_row HB.out.1 hg (by simp)) (And.intro (grown_trans HB.out.2.1 hg) (HB.out.2.2.keep hg)))
      clear hg c0 c1 HB
      obtain ⟨c0, c1⟩ := row_cells HB1.out.1
      go_wp2_with fail
      refine (rhasV_any ⟨R, L, pR, cR, pL, cL⟩ z _ w1 HB1.out.2.2).mono ?_
      rintro e w2 ⟨rfl, hg⟩
      simp only
      rw [H2.out]
      have HB2 := Lib.hid (And.intro (kept_row HB1.out.1 hg (by simp)) (And.intro (grown_trans HB1.out.2.1 hg) (HB1.out.2.2.keep hg)))
      clear hg c0 c1 HB1
      obtain ⟨c0, c1⟩ := row_cells HB2.out.1
      go_upto_region 3 with fail
      refine wp_region_held_drew (S := fun w' => Hid (w2.grownBy w' none)) (by kernel_rfl) (Lib.hid (grown_drew (grown_refl _ _))) (fun hHeld => ?_)
      refine wpAnyH_take (i := 0) (oi := { dst := some 19, op := Op.load 45 (Operand.tmp 3), type := 45, pos := "ref.go:62", after := #[], guard := none }) (v := ?_) rfl (by kernel_rfl) (by kernel_rfl) (by kernel_rfl) (fun _ _ _ h => h) (Or.inl ⟨by rfl, ?_⟩) hHeld ?_
      rotate_left 1
      · intro u hSu
        obtain ⟨q0, q1⟩ := row_cells (kept_row HB2.out.1 hSu.out (by simp))
        go_simp
        first | done | with_reducible rfl
      (try simp only [Act.put, List.setIfInBounds_toArray, List.set_cons_zero, List.set_cons_succ])
      refine wpAnyH_take (i := 1) (oi := { dst := some 20, op := Op.load 45 (Operand.tmp 3), type := 45, pos := "ref.go:62", after := #[], guard := none }) (v := ?_) rfl (by kernel_rfl) (by kernel_rfl) (by kernel_rfl) (fun _ _ _ h => h) (Or.inl ⟨by rfl, ?_⟩) hHeld ?_
      rotate_left 1
      · intro u hSu
        obtain ⟨q0, q1⟩ := row_cells (kept_row HB2.out.1 hSu.out (by simp))
        go_simp
        first | done | with_reducible rfl
      (try simp only [Act.put, List.setIfInBounds_toArray, List.set_cons_zero, List.set_cons_succ])
      refine wpAnyH_take (i := 2) (oi := { dst := some 21, op := Op.move (Operand.tmp 2), type := 3, pos := "ref.go:62", after := #[], guard := none }) (v := ?_) rfl (by kernel_rfl) (by kernel_rfl) (by kernel_rfl) (fun _ _ _ h => h) (Or.inl ⟨by rfl, ?_⟩) hHeld ?_
      rotate_left 1
      · intro u hSu
        obtain ⟨q0, q1⟩ := row_cells (kept_row HB2.out.1 hSu.out (by simp))
        go_simp
        first | done | with_reducible rfl
      (try simp only [Act.put, List.setIfInBounds_toArray, List.set_cons_zero, List.set_cons_succ])
      refine wpAnyH_take (i := 4) (oi := { dst := some 23, op := Op.move (Operand.tmp 1), type := 3, pos := "ref.go:62", after := #[], guard := none }) (v := ?_) rfl (by kernel_rfl) (by kernel_rfl) (by kernel_rfl) (fun _ _ _ h => h) (Or.inl ⟨by rfl, ?_⟩) hHeld ?_
      rotate_left 1
      · intro u hSu
        obtain ⟨q0, q1⟩ := row_cells (kept_row HB2.out.1 hSu.out (by simp))
        go_simp
        first | done | with_reducible rfl
      (try simp only [Act.put, List.setIfInBounds_toArray, List.set_cons_zero, List.set_cons_succ])
      refine wpAnyH_ready (rs := [3]) (by kernel_rfl) (by simp) ?_
      refine AllReadyH.cons (o := { dst := some 22, op := Op.call { callee := Callee.value (Operand.func 78), args := #[Operand.tmp 20, Operand.tmp 21], argTypes := #[45, 3] }, type := 22, pos := "ref.go:62", after := #[{ on := 1, ground := Ground.data }, { on := 2, ground := Ground.data }], guard := none }) rfl (fun Kz hK => ?_) AllReadyH.nil
      go_simp
      go_at_call 78
      refine (rto_any ⟨R, L, pR, cR, pL, cL⟩ z _ _ (HB2.out.2.2.keep hHeld.out) H2.out).mono ?_
      rintro e wt ⟨pt, ct, rfl, hrt, -, -, hgt⟩
      (try simp only at hrt ⊢)
      obtain ⟨A, hA⟩ : ∃ A, (ids R).map (toK L z R.length) = A := ⟨_, rfl⟩
      rw [hA] at hrt ⊢
      have HAT : Hid (Rd wt (fun _ => True) (.slice pt A.length ct) (A.map tv)) := Lib.hid (hrt.mono (fun _ _ => trivial))
      have HAE := Lib.hid hA.symm
      clear hrt hA
      refine hK.out _ _ (Lib.hid (grown_trans hHeld.out hgt)) (fun hH2 => ?_)
      clear hK Kz hHeld
      have hHeld := hH2
      clear hH2
      (try simp only [Act.put, List.setIfInBounds_toArray, List.set_cons_zero, List.set_cons_succ])
      refine wpAnyH_ready (rs := [5]) (by kernel_rfl) (by simp) ?_
      refine AllReadyH.cons (o := { dst := some 24, op := Op.call { callee := Callee.value (Operand.func 92), args := #[Operand.tmp 19, Operand.tmp 22, Operand.tmp 23], argTypes := #[45, 22, 3] }, type := 3, pos := "ref.go:62", after := #[{ on := 0, ground := Ground.data }, { on := 3, ground := Ground.data }, { on := 4, ground := Ground.data }, { on := 3, ground := Ground.chain }], guard := none }) rfl (fun Kz hK => ?_) AllReadyH.nil
      go_simp
      go_at_call 92
      refine (rat_any ⟨R, L, pR, cR, pL, cL⟩ (toK L z R.length) a A pt ct _ _ _ (HB2.out.2.2.keep hHeld.out) HAE.out HAT.out).mono ?_
      rintro e wc ⟨rfl, hgc⟩
      simp only
      rw [at_dst H2.out a, HX.out]
      refine hK.out _ _ (Lib.hid (grown_trans hHeld.out hgc)) (fun hH2 => ?_)
      clear hK Kz hHeld
      have hHeld := hH2
      clear hH2
      (try simp only [Act.put, List.setIfInBounds_toArray, List.set_cons_zero, List.set_cons_succ])
      refine wpAnyH_take (i := 6) (oi := { dst := some 8, op := Op.assign (Operand.tmp 24), type := 3, pos := "ref.go:62", after := #[{ on := 5, ground := Ground.data }, { on := 5, ground := Ground.chain }, { on := 0, ground := Ground.phase }, { on := 1, ground := Ground.phase }, { on := 2, ground := Ground.phase }, { on := 3, ground := Ground.phase }, { on := 4, ground := Ground.phase }, { on := 5, ground := Ground.phase }], guard := none }) (v := ?_) rfl (by kernel_rfl) (by kernel_rfl) (by kernel_rfl) (fun _ _ _ h => h) (Or.inl ⟨by rfl, ?_⟩) hHeld ?_
      rotate_left 1
      · intro u hSu
        obtain ⟨q0, q1⟩ := row_cells (kept_row HB2.out.1 hSu.out (by simp))
        go_simp
        first | done | with_reducible rfl
      (try simp only [Act.put, List.setIfInBounds_toArray, List.set_cons_zero, List.set_cons_succ])
      refine wpAnyH_done (by kernel_rfl) ?_ _
      have HG9 := Lib.hid (grown_trans HB2.out.2.1 hHeld.out)
      obtain ⟨w9, hw9⟩ : ∃ w9, w9 = wc := ⟨_, rfl⟩
      rw [← hw9] at HG9 ⊢
      clear hHeld hw9 HAT HAE c0 c1
      cases X with
      | none =>
        simp only [Option.getD_none]
        have hff : (farN == 1073741824) = true := rfl
        go_wp2_with fail
        go_ret2
        exact ⟨rfl, HG9.out⟩
      | some d =>
        have hdb := (dst_bd HX.out).1
        have hff : (d == 1073741824) = false := by rw [beq_eq_false_iff_ne]; omega
        simp only [Option.getD_some]
        go_wp2_with fail
        go_ret2
        exact ⟨rfl, HG9.out⟩
end Go.Proofs.YtahafijpcmphaaaGreat

/- tables: each next hop is nearer. -/
namespace Go.Proofs.YtahafijpcmphaaaGreat
open Go.RowKit Bs
set_option maxRecDepth 100000 in
/-- A next hop is capable and nearer. -/
theorem near_each {R : List Rt} {L : List Lk} {ro r : Int} {X : List Int} (hok : okT R L = true) (h : NxB R L ro r X) (hne : r ≠ ro) {y : Int} (hy : y ∈ X) :
    (∃ d, dst R L ro r = some d ∧ ∃ t, dst R L y r = some t ∧ t < d) ∧ capV R L y = true ∧ capV R L r = true := by
  unfold NxB at h
  rw [if_neg hne] at h
  by_cases hc : capV R L r = true
  case neg => rw [if_neg hc] at h; rw [h] at hy; cases hy
  rw [if_pos hc] at h
  have h3 := h.2.2
  unfold HopsIs at h3
  by_cases hv : hasV R L ro = true ∧ hasV R L r = true ∧ ro ≠ r
  case neg => rw [if_neg hv] at h3; rw [h3] at hy; cases hy
  rw [if_pos hv] at h3
  have hm := (h3 y).1 hy
  have hlt := hop_lt hok hm
  rw [at_dst hv.2.1, at_dst hv.2.1] at hlt
  obtain ⟨s, hs, hys, hyc⟩ := hm
  refine ⟨?_, hyc, hc⟩
  cases hd : dst R L ro r with
  | none =>
    have hst : stV R L (toK L r R.length) ro = [] := by
      unfold stV
      rw [at_dst hv.2.1, hd]
      exact if_pos (Or.inl rfl)
    have e := hs (fun a => a = ro) rfl (fun a b ha hb _ => by subst ha; rw [hst] at hb; cases hb)
    subst e
    rw [hst] at hys; cases hys
  | some d =>
    rw [hd] at hlt
    have hdb := (dst_bd hd).1
    cases ht : dst R L y r with
    | none => rw [ht] at hlt; simp only [Option.getD_some, Option.getD_none] at hlt; unfold farN at hlt; omega
    | some t => rw [ht] at hlt; exact ⟨d, rfl, t, rfl, hlt⟩
set_option maxRecDepth 100000 in
theorem hop_ex {R : List Rt} {L : List Lk} {ro r : Int} (hr : hasV R L r = true) (hc : capV R L r = true) : ∀ (n : Nat) (s d : Int), far R L r s ≤ n → dst R L s r = some d → s ≠ r → HopC R L (toK L r R.length) ro s → ∃ y, HopM R L (toK L r R.length) ro y
  | n, s, d, hn, hd, hsr, hs => by
    obtain ⟨u, hu⟩ : ∃ u, u ∈ nxt R L s r := List.exists_mem_of_ne_nil _ (nxt_ne hd hsr)
    have hus : u ∈ stV R L (toK L r R.length) s := by rw [stV_nxt hr]; exact hu
    by_cases hcu : capV R L u = true
    · exact ⟨u, s, hs, hus, hcu⟩
    · have hf := far_step hu
      obtain ⟨-, h2⟩ := nxt_near hu
      obtain ⟨x, d2, h3, -, -⟩ := nearB_iff.1 h2
      have hur : u ≠ r := fun e => hcu (by rw [e]; exact hc)
      match n, hn with
      | 0, hn => omega
      | n + 1, hn => exact hop_ex hr hc n u x (by omega) h3 hur (fun P h1 h2 => h2 s u (hs P h1 h2) hus (by simpa using hcu))
set_option maxRecDepth 100000 in
/-- There is a next hop exactly if the edge router is capable and can be reached. -/
theorem near_some {R : List Rt} {L : List Lk} {ro r : Int} {X : List Int} (hok : okT R L = true) (h : NxB R L ro r X) (hne : r ≠ ro) : decide (0 < X.length) = ((dst R L ro r).isSome && capV R L r) := by
  rw [Bool.eq_iff_iff, decide_eq_true_eq, Bool.and_eq_true]
  constructor
  · intro hl
    obtain ⟨y, hy⟩ : ∃ y, y ∈ X := List.exists_mem_of_length_pos hl
    obtain ⟨⟨d, hd, -⟩, -, hc⟩ := near_each hok h hne hy
    rw [hd]
    exact ⟨rfl, hc⟩
  · rintro ⟨hd, hc⟩
    obtain ⟨d, hd⟩ := Option.isSome_iff_exists.1 hd
    obtain ⟨-, m1, m2⟩ := dst_both hd
    have hro : hasV R L ro = true := hasV_iff.2 ⟨hok, m1⟩
    have hr : hasV R L r = true := hasV_iff.2 ⟨hok, m2⟩
    unfold NxB at h
    rw [if_neg hne, if_pos hc] at h
    have h3 := h.2.2
    unfold HopsIs at h3
    rw [if_pos ⟨hro, hr, fun e => hne e.symm⟩] at h3
    obtain ⟨y, hy⟩ := hop_ex (ro := ro) hr hc (far R L r ro) ro d (Nat.le_refl _) hd (fun e => hne e.symm) (fun P h1 _ => h1)
    exact List.length_pos_of_mem ((h3 y).2 hy)
set_option maxRecDepth 100000 in
theorem asc_pairEd : ∀ E : List Ed, ascB ltE E = true → E.Pairwise (fun x y => x.i < y.i)
  | [], _ => List.Pairwise.nil
  | [a], _ => List.pairwise_singleton _ _
  | a :: b :: t, h => by
    rw [ascB, Bool.and_eq_true] at h
    have ih := asc_pairEd (b :: t) h.2
    have hab : a.i < b.i := of_decide_eq_true h.1
    refine List.pairwise_cons.2 ⟨fun y hy => ?_, ih⟩
    rcases List.mem_cons.1 hy with rfl | hy
    · exact hab
    · have := (List.pairwise_cons.1 ih).1 y hy; omega
set_option maxRecDepth 100000 in
theorem edF_at {s n : Int} {E : List Ed} (h : vPl s n E = true) {k : Nat} {e : Ed} (he : E[k]? = some e) : edFT E e.i = e ∧ knET E e.i = true := by
  have hasc : ascB ltE E = true := by
    unfold vPl at h
    simp only [Bool.and_eq_true] at h
    exact h.1.2
  refine edFT_hit (k := k) ?_ he rfl
  refine List.any_eq_false.2 fun y hy => ?_
  obtain ⟨i, hi⟩ := List.mem_iff_getElem?.1 hy
  have hik : i < k := by
    have := (List.getElem?_eq_some_iff.1 hi).1
    rw [List.length_take] at this
    omega
  rw [List.getElem?_take_of_lt hik] at hi
  obtain ⟨a1, a2⟩ := List.getElem?_eq_some_iff.1 hi
  obtain ⟨b1, b2⟩ := List.getElem?_eq_some_iff.1 he
  have hlt := List.pairwise_iff_getElem.1 (asc_pairEd E hasc) i k a1 b1 hik
  rw [a2, b2] at hlt
  unfold isET
  simp only [decide_eq_true_eq]
  omega
end Go.Proofs.YtahafijpcmphaaaGreat

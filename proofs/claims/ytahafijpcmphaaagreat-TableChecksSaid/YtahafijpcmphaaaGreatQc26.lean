/- Parts of the proof, packed: TaFlW, TaFlH, TaFlP, TaFlB, TaHpI, TaExM, TaNto, TaBuP, TaBdP, TaAwk. -/
import Derived.Test.YtahafijpcmphaaaGreatQc25
import Derived.Test.YtahafijpcmphaaaGreatQc8
import Derived.Test.YtahafijpcmphaaaGreatQc10
import Derived.Test.YtahafijpcmphaaaGreatQc5
import Derived.Deep.AppendLies
import Derived.Test.YtahafijpcmphaaaGreatQc6
import Derived.Test.YtahafijpcmphaaaGreatQc23
import Derived.Test.YtahafijpcmphaaaGreatQc11
import Derived.Test.YtahafijpcmphaaaGreatQc21
import Derived.Test.YtahafijpcmphaaaGreatQc18
import Derived.Test.YtahafijpcmphaaaGreatQc15
/- tables: the closure of the program's Hops. -/
namespace Go.Proofs.YtahafijpcmphaaaGreat
set_option maxRecDepth 100000
open Go.RowKit Bs
theorem rdi_atF {w : World} {q : Nat → Prop} {p : Option Addr} {n c i : Nat} {x : Int} {X : List Int} (h : Rd w q (.slice p n c) (X.map tv)) (hi : X[i]? = some x) : ∃ b off, p = some ⟨b, off, none⟩ ∧ w.cell? ⟨b, off + i, none⟩ = some (.int .i64 x) := by
 obtain ⟨-, b, off, hp, -, hc⟩ := tvT_atH h hi
 exact ⟨b, off, hp, hc i x hi⟩
theorem hasI_memF {S : List Int} {x : Int} : hasI S x = true ↔ x ∈ S := by
 unfold hasI
 rw [List.any_eq_true]
 exact ⟨fun ⟨y, hy, e⟩ => (of_decide_eq_true e) ▸ hy, fun h => ⟨x, h, by simp⟩⟩
theorem fold_takeF {α β : Type} (f : β → α → β) {N : List α} {j : Nat} {y : α} (h : N[j]? = some y) (s : β) : (N.take (j + 1)).foldl f s = f ((N.take j).foldl f s) y := by
 rw [List.take_add_one, h, List.foldl_append]; rfl
set_option maxHeartbeats 6400000 in
theorem follow_any (H : Nat) (W : World) (T : Tg) (z : Int) (hp : T.pL = none → T.cL = 0) (hl1 : T.R.length ≤ 1000) (hl2 : T.L.length ≤ 1000) (hV : ∀ r, ∀ y ∈ nxt T.R T.L r z, y ∈ ids T.R ∧ 1 ≤ y ∧ y ≤ 99) :
  ∀ (f : Nat) (r : Int) (st : List Int × List Int) (v : Value) (w : World), FJ H W T z v st w → (okT T.R T.L = true → I64 r) → (∀ x ∈ st.1, x ∈ ids T.R) → st.1.Nodup → st.2.length ≤ st.1.length → (ids T.R).length < f + st.1.length →
  Calls Tryz.prog 74 #[.int .i64 r, ptB H, ptB (H + 1), ptB (H + 3), ptB (H + 2), ptB (H + 4)] w fun e w' => e = .returned (.tuple #[]) ∧ ∃ v', FJ H W T z v' (flw (fun a => nxt T.R T.L a z) (capV T.R T.L) f r st) w' ∧ JF (H + 1) w v w' v' := by
 intro f
 induction f with
 | zero =>
  intro r st v w h hr hs hn hh hl
  have := nodup_leH st.1 (ids T.R) hn hs
  omega
 | succ f ih =>
  intro r st v w h hr hs hn hh hl
  obtain ⟨i0, hi, hz0, hz1, hz2⟩ := info_parts info_int
  have e0 : EnterF (74) := enters_of Tryz.func74 (by kernel_rfl) rfl
  have IH := Lib.hid ih
  have HJ := Lib.hid h
  have HV := Lib.hid hV
  have HP := Lib.hid hp
  have HS0 := Lib.hid (And.intro hs (And.intro hn (And.intro hh hl)))
  obtain ⟨R, L, pR, cR, pL, cL⟩ := T
  simp only at HJ HV HP HS0 hl1 hl2 IH hr ⊢
  have HIR : Hid ((ids R).length = R.length) := Lib.hid (ids_len R)
  obtain ⟨t0, t1⟩ := row_cells HJ.out.bT
  have c1 : w.cell? ⟨H + 1, 0, none⟩ = some (.int .i64 z) := by rw [cell_of_row _ _ _ _ _ _ HJ.out.bz]; rfl
  clear ih h hs hn hh hl hV hp
  unfold ptB
  go_enter Tryz.func74, Tryz.ntmps74
  go_wp2_with fail
  refine (tnextW_any ⟨R, L, pR, cR, pL, cL⟩ r z _ w HJ.out.t hl1 hl2 HP.out hr).mono ?_
  rintro e w1 ⟨pN, cN, rfl, hrd, hcN, hpN, hg⟩
  have HR1 := Lib.hid (And.intro hrd hg)
  have HNV := Lib.hid (HV.out r)
  obtain ⟨N, hN⟩ : ∃ N, nxt R L r z = N := ⟨_, rfl⟩
  simp only at HR1 HNV ⊢
  rw [hN] at HR1 HNV
  have hNE := Lib.hid hN
  have hNl : N.length ≤ 9223372036854775807 := by rw [hN] at hcN; omega
  rw [hN]
  clear hrd hcN hpN hg hN t0 t1 c1
  have J0 : Hid (FJ H W ⟨R, L, pR, cR, pL, cL⟩ z v st w1 ∧ JF (H + 1) w1 v w1 v) := Lib.hid ⟨HJ.out.keep HR1.out.2, JF.refl _ _ _⟩
  go_wp2_with fail
  go_loopw [14] (fun a wr => ∃ (j : Nat) (st' : List Int × List Int) (v' : Value), j ≤ N.length ∧ a = .int .i64 (j : Int) ∧ Hid (FJ H W ⟨R, L, pR, cR, pL, cL⟩ z v' st' wr ∧ JF (H + 1) w1 v wr v') ∧ Hid (st' = (N.take j).foldl (flS (fun a => nxt R L a z) (capV R L) f) st ∧ (∀ x ∈ st'.1, x ∈ ids R) ∧ st'.1.Nodup ∧ st'.2.length ≤ st'.1.length ∧ (ids R).length < f + 1 + st'.1.length)) (fun a _ => N.length - (RowKit.intOf a).toNat)
  case atStart => exact ⟨0, st, v, Nat.zero_le _, rfl, J0, Lib.hid ⟨rfl, HS0.out.1, HS0.out.2.1, HS0.out.2.2.1, HS0.out.2.2.2⟩⟩
  case round =>
  obtain ⟨j, st', v', hj, rfl, J, HT⟩ := hrel
  clear J0
  obtain ⟨w2, hw2⟩ : ∃ w2, w2 = wr := ⟨_, rfl⟩
  rw [← hw2] at J ⊢
  clear hw2
  by_cases hlt : j < N.length
  case neg =>
   obtain rfl : j = N.length := by omega
   have hnl : ¬ (N.length : Int) < (N.length : Int) := by omega
   go_wp2_with fail
   have hT := HT.out.1
   rw [List.take_length] at hT
   refine bodyPost_end (results_none rfl _ _ _) rfl ⟨rfl, v', ?_, (JF.grown v HR1.out.2).trans J.out.2⟩
   rw [flw_succ]
   show FJ H W ⟨R, L, pR, cR, pL, cL⟩ z v' ((nxt R L r z).foldl (flS (fun a => nxt R L a z) (capV R L) f) st) w2
   rw [hNE.out, ← hT]
   exact J.out.1
  have hlt' : (j : Int) < (N.length : Int) := by omega
  have hj0 : (0 : Int) ≤ (j : Int) := by omega
  obtain ⟨y, hy⟩ : ∃ y, N[j]? = some y := ⟨_, List.getElem?_eq_getElem hlt⟩
  obtain ⟨hyV, hy1, hy2⟩ := HNV.out y (List.mem_of_getElem? hy)
  obtain ⟨m, rfl⟩ : ∃ m : Nat, y = (m : Int) := ⟨y.toNat, by omega⟩
  have hNr : Rd w2 (fun x => w.heap.size ≤ x) (.slice pN N.length cN) (N.map tv) := Rd.jf HR1.out.1 J.out.2 (fun b hb _ => by
   have := HJ.out.lo.2
   refine ⟨by omega, by omega, fun e => ?_⟩
   have := (HJ.out.own.lt b e).2
   omega)
  obtain ⟨b, off, rfl, a0⟩ := rdi_atF hNr hy
  have HY := Lib.hid hy
  have HYV := Lib.hid hyV
  have m2 : m < 100 := by omega
  have s0 := J.out.1.bs.cell (sn_at (S := st'.1) m2)
  have sf := J.out.1.bs.frozen m
  have i0' : (0 : Int) ≤ (m : Int) := by omega
  have i1' : (m : Int) < 100 := by omega
  clear hy hyV hNr
  cases hh : hasI st'.1 (m : Int)
  case true =>
   rw [hh] at s0
   have HM := Lib.hid (hasI_memF.1 hh)
   clear hh
   go_wp2_with fail
   refine ⟨⟨j + 1, st', v', by omega, congrArg _ (by omega), J, Lib.hid ⟨?_, HT.out.2⟩⟩, by simp only [RowKit.intOf]; omega⟩
   rw [fold_takeF _ HY.out, ← HT.out.1]
   unfold flS
   rw [if_pos HM.out]
  rw [hh] at s0
  have HM : Hid ((m : Int) ∉ st'.1) := Lib.hid (fun h => by rw [hasI_memF.2 h] at hh; cases hh)
  clear hh
  have HMK := Lib.hid (J.out.1.mark m2)
  go_upto_region 5 with fail
  clear s0 sf a0
  generalize w2.setCell _ _ = w3 at *
  obtain ⟨t0, t1⟩ := row_cells HMK.out.1.bT
  have HT2 : Hid ((∀ x ∈ st'.1 ++ [(m : Int)], x ∈ ids R) ∧ (st'.1 ++ [(m : Int)]).Nodup ∧ (ids R).length < f + (st'.1 ++ [(m : Int)]).length) := Lib.hid ⟨fun x hx => by
   rcases List.mem_append.1 hx with h | h
   ·exact HT.out.2.1 x h
   ·rw [List.mem_singleton.1 h]; exact HYV.out, List.nodup_append.2 ⟨HT.out.2.2.1, by simp, fun a ha b hb e => by rw [List.mem_singleton.1 hb] at e; subst e; exact HM.out ha⟩, by have := HT.out.2.2.2.2; rw [List.length_append]; show _ < f + (_ + 1); omega⟩
  go_wp2_with fail
  refine (tcap_any ⟨R, L, pR, cR, pL, cL⟩ (m : Int) _ w3 HMK.out.1.t (show R.length ≤ 1000000 by omega)).mono ?_
  rintro e w4 ⟨rfl, hg⟩
  have J4 := Lib.hid (And.intro (HMK.out.1.keep hg) (J.out.2.trans (HMK.out.2.trans (JF.grown v' hg))))
  clear hg HMK t0 t1
  simp only
  cases hcp : capV R L (m : Int)
  case false =>
   have HCP := Lib.hid hcp
   clear hcp
   have bf0 : w4.cell? ⟨H + 4, 0, none⟩ = some (.func (.func 74) #[] #[.pointer (some ⟨H, 0, none⟩), .pointer (some ⟨H + 1, 0, none⟩), .pointer (some ⟨H + 3, 0, none⟩), .pointer (some ⟨H + 2, 0, none⟩), .pointer (some ⟨H + 4, 0, none⟩)]) := by rw [cell_of_row _ _ _ _ _ _ J4.out.1.bf]; rfl
   have hcall := IH.out (m : Int) (st'.1 ++ [(m : Int)], st'.2) v' w4 J4.out.1 (fun _ => by unfold I64; omega) HT2.out.1 HT2.out.2.1 (by have := HT.out.2.2.2.1; simp only [List.length_append]; omega) HT2.out.2.2
   unfold ptB at hcall
   go_wp2_with fail
   refine hcall.mono ?_
   rintro e w5 ⟨rfl, v5, h5, k5⟩
   have H5 := Lib.hid (And.intro h5 (J4.out.2.trans k5))
   have hI := fl_inv (N := fun a => nxt R L a z) (cp := capV R L) (Q := (· ∈ ids R)) (fun y _ _ x hx => (HV.out y x hx).1) f (m : Int) (st'.1 ++ [(m : Int)], st'.2) (fun x hx => (HV.out (m : Int) x hx).1)
   have HIF := Lib.hid hI
   clear h5 k5 hcall J4 bf0 hI
   go_wp2_with fail
   refine ⟨⟨j + 1, _, v5, by omega, congrArg _ (by omega), H5, Lib.hid ⟨?_, ?_, HIF.out.nd HT2.out.2.1, ?_, ?_⟩⟩, by simp only [RowKit.intOf]; omega⟩
   ·rw [fold_takeF _ HY.out, ← HT.out.1]
    unfold flS
    rw [if_neg HM.out, if_neg (by rw [HCP.out]; decide)]
   ·exact fun x hx => (HIF.out.new x hx).elim (HT2.out.1 x) id
   ·exact fl_len f (m : Int) (st'.1 ++ [(m : Int)], st'.2) (by have := HT.out.2.2.2.1; simp only [List.length_append, List.length_singleton]; omega)
   ·have h6 : (st'.1 ++ [(m : Int)]).length ≤ _ := HIF.out.len
    have h7 := HT2.out.2.2
    omega
  case true =>
  have HCP := Lib.hid hcp
  clear hcp
  have hlen : st'.2.length ≤ 1000 := by
   have h1 := nodup_leH st'.1 (ids R) HT.out.2.2.1 HT.out.2.1
   have h2 := HIR.out
   have h3 := HT.out.2.2.2.1
   omega
  have bh0 : w4.cell? ⟨H + 2, 0, none⟩ = some v' := by rw [cell_of_row _ _ _ _ _ _ J4.out.1.bh]; rfl
  obtain ⟨pv, cv, rfl, -, -⟩ := own_shape J4.out.1.own
  have hlo := J4.out.1.lo
  go_wp2_with (at_builtin; refine hold_on ?_)
  refine Lib.hid ?_
  refine wpList_append_lies _ rfl _ _ 22 rfl (H + 5) 3 i0 (.int .i64 0) 1 8 Tryz.underlying22 hi hz0 hz1 hz2 rfl (by decide) (.slice pv st'.2.length cv) st'.2.length (st'.2.map tv) rfl (J4.out.1.own.alloc _) ⟨w4.heap.size, 0, none⟩ 1 1 [.int .i64 (m : Int)] rfl rfl (iv_rowH w4 (m : Int) _) (fun u hu => by rw [List.mem_singleton.1 hu]; rfl) (by decide) (by unfold maxLen; omega) (by omega) (by simp; omega) _ rfl ?_
  intro g cap w5 hown hgrow hat hlt5
  have ga := World.grownBy_alloc w4 (.cells #[.int .i64 (m : Int)] 3) none
  have hpu := (J4.out.1.keep ga).push (y := (m : Int)) (v' := .slice (some ⟨g, 0, none⟩) (st'.2.length + 1) cap) (by rw [List.length_append, List.map_append]; exact hown) hgrow (by
   rcases hat with h | h
   ·exact Or.inl h.symm
   ·exact Or.inr ⟨g, rfl, by rw [h]; exact Nat.le_refl _⟩)
  have bh5 : w5.cell? ⟨H + 2, 0, none⟩ = some (.slice pv st'.2.length cv) := by rw [cell_of_row _ _ _ _ _ _ hpu.1]; rfl
  have bf5 := frozen_of_row _ _ 0 _ _ hpu.1
  have H5 := Lib.hid (And.intro hpu.2.1 (J4.out.2.trans ((JF.grown _ ga).trans hpu.2.2)))
  clear hown hgrow hat hlt5 ga hpu bh0 J4
  go_wp2_with fail
  refine ⟨⟨j + 1, _, _, by omega, congrArg _ (by omega), H5, Lib.hid ⟨?_, HT2.out.1, HT2.out.2.1, ?_, ?_⟩⟩, by simp only [RowKit.intOf]; omega⟩
  ·rw [fold_takeF _ HY.out, ← HT.out.1]
   unfold flS
   rw [if_neg HM.out, if_pos HCP.out]
  ·have := HT.out.2.2.2.1
   simp only [List.length_append, List.length_singleton]
   omega
  ·have h7 := HT2.out.2.2
   show (ids R).length < f + 1 + (st'.1 ++ [(m : Int)]).length
   omega
end Go.Proofs.YtahafijpcmphaaaGreat

/- tables: the boxes of the program's Hops. -/

namespace Go.Proofs.YtahafijpcmphaaaGreat
set_option maxRecDepth 100000
open Go.RowKit Bs
def fnB (H : Nat) : Value := .func (.func 74) #[] #[ptB H, ptB (H + 1), ptB (H + 3), ptB (H + 2), ptB (H + 4)]
theorem zc_sn : Tryz.zeroCells102 = (sn []).toArray := by kernel_rfl
theorem fj_start {w : World} {T : Tg} {q : Nat → Prop} (z : Int) (hT : TgOk w q T) {H : Nat} (hH : w.heap.size = H) {wb : World} (hwb : wb = ((((w.alloc (.cells #[.slice T.pR T.R.length T.cR, .slice T.pL T.L.length T.cL] 45)).alloc (.cells #[.int .i64 z] 3)).alloc (.cells #[.slice none 0 0] 22)).alloc (.cells Tryz.zeroCells102 102)).alloc (.cells #[.nilFunc] 103)) :
  (wb.heap[H + 4]? = some (.cells #[.nilFunc] 103 (0, 0))) ∧ FJ H w T z (.slice none 0 0) ([], []) (wb.setCell ⟨H + 4, 0, none⟩ (fnB H)) := by
 subst hwb
 obtain ⟨a1, g1, z1⟩ := alloc_row (w := w) #[.slice T.pR T.R.length T.cR, .slice T.pL T.L.length T.cL] 45 hH
 generalize w.alloc _ = w1 at *
 obtain ⟨a2, g2, z2⟩ := alloc_row (w := w1) #[.int .i64 z] 3 z1
 generalize w1.alloc _ = w2 at *
 obtain ⟨a3, g3, z3⟩ := alloc_row (w := w2) #[.slice none 0 0] 22 z2
 generalize w2.alloc _ = w3 at *
 obtain ⟨a4, g4, z4⟩ := alloc_row (w := w3) Tryz.zeroCells102 102 z3
 generalize w3.alloc _ = w4 at *
 obtain ⟨a5, g5, z5⟩ := alloc_row (w := w4) #[.nilFunc] 103 z4
 generalize w4.alloc _ = w5 at *
 have g6 : w5.grownBy (w5.setCell ⟨H + 4, 0, none⟩ (fnB H)) (some (H + 4)) := grown_setCell _ _ _
 have hn : ∀ b, b ≠ H + 4 → some b ≠ some (H + 4) := fun b hb e => hb (Option.some.inj e)
 have g25 := grown_trans (grown_trans (grown_trans g2 g3) g4) g5
 have gg := grown_trans g1 g25
 have hbs : TRow w4 (H + 3) 102 (sn []) := by unfold TRow; rw [← zc_sn]; exact a4
 refine ⟨a5, kept_row (kept_row a1 g25 (by simp)) g6 (hn _ (by omega)), kept_row (kept_row a2 (grown_trans (grown_trans g3 g4) g5) (by simp)) g6 (hn _ (by omega)), kept_row (kept_row a3 (grown_trans g4 g5) (by simp)) g6 (hn _ (by omega)), (hbs.kept g5 (by simp)).kept g6 (hn _ (by omega)), heap_setCell_same w5 (H + 4) 0 _ _ (fnB H) a5, ((hT.old.keep gg).mono (fun b (hb : b < w.heap.size) => by omega)).grown g6 (fun b hb => hn b (by omega)), World.ownsRow_nil _ _ _ _, grown_new gg g6 (by omega), by omega, Nat.le_trans (by omega) g6.size⟩
end Go.Proofs.YtahafijpcmphaaaGreat

/- tables: the program's Hops. -/
namespace Go.Proofs.YtahafijpcmphaaaGreat
set_option maxRecDepth 100000
open Go.RowKit Bs
theorem toS_pw {d : List Int} (h : toS d d.length) : d.Pairwise (· ≤ ·) := by
 rw [List.pairwise_iff_getElem]
 intro i j hi hj hij
 have := h i j hij hj
 rw [List.getD_eq_getElem?_getD, List.getD_eq_getElem?_getD, List.getElem?_eq_getElem hi, List.getElem?_eq_getElem hj] at this
 exact this
set_option maxHeartbeats 3200000 in
theorem tinsN_any (w : World) : Calls Tryz.prog 125 #[.slice none 0 0, .int .i64 0, .int .i64 0] w fun e w' => e = .returned (.tuple #[]) ∧ w = w' := by
 go_enter Tryz.func125, Tryz.ntmps125
 go_wp2_with fail
 refine wp_loop_rounds 1 ?_
 rw [rounds_succ]
 go_wp2_with fail
 first | exact bodyPost_end (results_none rfl _ _ _) rfl ⟨rfl, rfl⟩ | exact bodyPost_ret (results_none rfl _ _ _) rfl ⟨rfl, rfl⟩
set_option maxHeartbeats 3200000 in
theorem tpdqN_any (k : Int) (w : World) : Calls Tryz.prog 106 #[.slice none 0 0, .int .i64 0, .int .i64 0, .int .i64 k] w fun e w' => e = .returned (.tuple #[]) ∧ w = w' := by
 go_enter Tryz.func106, Tryz.ntmps106
 go_wp2_with fail
 refine wp_loop_rounds 1 ?_
 rw [rounds_succ]
 go_wp2_with fail
 refine (tinsN_any w).mono ?_
 rintro e w' ⟨rfl, rfl⟩
 go_wp2_with fail
 first | exact bodyPost_end (results_none rfl _ _ _) rfl ⟨rfl, rfl⟩ | exact bodyPost_ret (results_none rfl _ _ _) rfl ⟨rfl, rfl⟩
set_option maxHeartbeats 3200000 in
theorem tsortN_any (w : World) : Calls Tryz.prog 76 #[.slice none 0 0] w fun e w' => e = .returned (.tuple #[]) ∧ w = w' := by
 go_enter Tryz.func76, Tryz.ntmps76
 go_wp2_with fail
 refine (tlen_any 0 (by omega) w).mono ?_
 rintro e w' ⟨k, rfl, rfl⟩
 go_wp2_with fail
 refine (tpdqN_any k w).mono ?_
 rintro e w' ⟨rfl, rfl⟩
 go_wp2_with fail
 first | exact bodyPost_end (results_none rfl _ _ _) rfl ⟨rfl, rfl⟩ | exact bodyPost_ret (results_none rfl _ _ _) rfl ⟨rfl, rfl⟩
def HopU (R : List Rt) (L : List Lk) (x z : Int) (M : List Int) : Prop := M.Nodup ∧ (∀ y ∈ M, y ∈ ids R) ∧ ∀ y, y ∈ M ↔ ∃ s, (∀ P : Int → Prop, P x → (∀ a b, P a → b ∈ nxt R L a z → capV R L b = false → P b) → P s) ∧ y ∈ nxt R L s z ∧ capV R L y = true
set_option maxHeartbeats 6400000 in
theorem thops0_any (T : Tg) (x z : Int) (q : Nat → Prop) (w : World) (hT : TgOk w q T) (hp : T.pL = none → T.cL = 0) (hl0 : T.R.length ≤ 1000) (hl1 : okT T.R T.L = true → T.R.length ≤ 12) (hl2 : T.L.length ≤ 1000) (hx : okT T.R T.L = true → I64 x) (hV : ∀ r, ∀ y ∈ nxt T.R T.L r z, y ∈ ids T.R ∧ 1 ≤ y ∧ y ≤ 99) :
  Calls Tryz.prog 31 #[.agg #[.slice T.pR T.R.length T.cR, .slice T.pL T.L.length T.cL], .int .i64 x, .int .i64 z] w fun e w' => ∃ (M : List Int) (p : Option Addr) (c : Nat), e = .returned (.slice p M.length c) ∧ Rd w' (w.heap.size ≤ ·) (.slice p M.length c) (M.map tv) ∧ (p = none → c = 0) ∧ (M.length ≤ c ∧ c ≤ 9223372036854775807) ∧ M.Pairwise (· < ·) ∧ HopU T.R T.L x z M ∧ w.grownBy w' none := by
 have e0 : EnterF (74) := enters_of Tryz.func74 (by kernel_rfl) rfl
 have hmf : ∀ (fn : Fn) (first cap : Array Value) (w : World), (Instr.makeFunc fn first cap).run Tryz.prog w = .ok (.func fn first cap) w := fun _ _ _ _ => rfl
 have hsf : ∀ (a : Addr) (fn : Fn) (first cap : Array Value) (m : Mode) (w : World), (store a (.func fn first cap) m).run Tryz.prog w = stored Tryz.prog w a (.func fn first cap) m := fun a fn first cap m w => run_store _ w a _ m rfl
 have HST := Lib.hid (fj_start z hT (H := w.heap.size) rfl rfl)
 have HU : Hid (HopU T.R T.L x z (flw (fun a => nxt T.R T.L a z) (capV T.R T.L) ((ids T.R).length + 1) x ([], [])).2) := Lib.hid (by
  obtain ⟨h1, h2⟩ := fl_hops (N := fun a => nxt T.R T.L a z) (cp := capV T.R T.L) (V := ids T.R) (fun r y hy => (hV r y hy).1) x (f := (ids T.R).length + 1) (Nat.lt_succ_self _)
  exact ⟨h1, fun y hy => by obtain ⟨s, -, hs, -⟩ := (h2 y).1 hy; exact (hV s y hs).1, h2⟩)
 have HFA := Lib.hid (follow_any w.heap.size w T z hp (by omega) hl2 hV ((ids T.R).length + 1) x ([], []))
 have HXI := Lib.hid (And.intro hx hl1)
 clear hT hp hx hV hl1
 go_enter Tryz.func31, Tryz.ntmps31
 go_upto_region 4 with fail
 generalize ((((w.alloc _).alloc _).alloc _).alloc _).alloc _ = wb at *
 obtain ⟨H, hH⟩ : ∃ H, w.heap.size = H := ⟨_, rfl⟩
 have HH := Lib.hid hH
 rw [hH] at HST HFA ⊢
 clear hH
 have n0 : wb.cell? ⟨H + 4, 0, none⟩ = some .nilFunc := by rw [cell_of_row _ _ _ _ _ _ HST.out.1]; rfl
 have f0 : wb.frozen? ⟨H + 4, 0, none⟩ = false := frozen_of_row _ _ _ _ _ HST.out.1
 have K := Lib.hid HST.out.2
 unfold fnB ptB at K
 clear HST
 rw [show H + 1 + 1 + 1 + 1 = H + 4 from rfl, show H + 1 + 1 + 1 = H + 3 from rfl, show H + 1 + 1 = H + 2 from rfl]
 go_upto_region 5 with fail
 clear n0 f0
 generalize wb.setCell _ _ = wc at *
 have bf0 : wc.cell? ⟨H + 4, 0, none⟩ = some (.func (.func 74) #[] #[.pointer (some ⟨H, 0, none⟩), .pointer (some ⟨H + 1, 0, none⟩), .pointer (some ⟨H + 3, 0, none⟩), .pointer (some ⟨H + 2, 0, none⟩), .pointer (some ⟨H + 4, 0, none⟩)]) := by rw [cell_of_row _ _ _ _ _ _ K.out.bf]; rfl
 have hcall := HFA.out (.slice none 0 0) wc K.out HXI.out.1 (fun y hy => (by cases hy)) List.nodup_nil (Nat.le_refl _) (by simp)
 unfold ptB at hcall
 go_wp2_with fail
 refine hcall.mono ?_
 rintro e w5 ⟨rfl, v5, h5, -⟩
 have K5 := Lib.hid h5
 clear h5 hcall bf0 K HFA
 have hul : (flw (fun a => nxt T.R T.L a z) (capV T.R T.L) ((ids T.R).length + 1) x ([], [])).2.length ≤ 12 := by
  by_cases hok : okT T.R T.L = true
  ·have h1 := nodup_leH _ (ids T.R) HU.out.1 HU.out.2.1
   have h2 := ids_len T.R
   have h3 := HXI.out.2 hok
   omega
  ·have h0 := List.eq_nil_iff_forall_not_mem.2 (fun y (hy : y ∈ (flw (fun a => nxt T.R T.L a z) (capV T.R T.L) ((ids T.R).length + 1) x ([], [])).2) => by
    obtain ⟨s, -, -, hc⟩ := (HU.out.2.2 y).1 hy
    unfold capV at hc
    rw [Bool.and_eq_true] at hc
    exact hok hc.1)
   rw [h0]
   exact Nat.zero_le _
 obtain ⟨ST, hST⟩ : ∃ ST, flw (fun a => nxt T.R T.L a z) (capV T.R T.L) ((ids T.R).length + 1) x ([], []) = ST := ⟨_, rfl⟩
 rw [hST] at hul HU K5
 clear hST HXI
 have bh0 : w5.cell? ⟨H + 2, 0, none⟩ = some v5 := by rw [cell_of_row _ _ _ _ _ _ K5.out.bh]; rfl
 have hlo := K5.out.lo
 rcases own_formF K5.out.own with ⟨rfl, h0⟩ | ⟨g, cap, rfl, hc1, hc2⟩
 ·have hnil : ST.2 = [] := List.eq_nil_of_length_eq_zero h0
  clear h0
  go_wp2_with fail
  refine (tsortN_any w5).mono ?_
  rintro e w6 ⟨rfl, rfl⟩
  go_wp2_with fail
  go_ret
  rw [hnil] at HU
  exact ⟨[], none, 0, rfl, ⟨none, 0, rfl, fun h => absurd rfl h⟩, fun _ => rfl, ⟨Nat.le_refl _, by show (0 : Nat) ≤ _; omega⟩, List.Pairwise.nil, HU.out, K5.out.gr⟩
 have hgl := (K5.out.own.lt g rfl)
 go_wp2_with fail
 refine (tsort_any (H + 5) g cap ST.2.length ST.2 w5 K5.out.own rfl hul).mono ?_
 rintro e w6 ⟨d, hd, rfl⟩
 have HD := Lib.hid hd.out
 have bh6 : w6.cell? ⟨H + 2, 0, none⟩ = some (.slice (some ⟨g, 0, none⟩) ST.2.length cap) := HD.out.1.gr.cell bh0 (by simp; omega)
 clear hd bh0
 go_wp2_with fail
 go_ret
 have hdl := HD.out.1.len
 have hpw : d.Pairwise (· ≤ ·) := toS_pw (by rw [hdl]; exact HD.out.2)
 have hnd : d.Nodup := HD.out.1.perm.nodup_iff.2 HU.out.1
 refine ⟨d, some ⟨g, 0, none⟩, cap, (by show Ending.returned (.slice (some ⟨g, 0, none⟩) ST.2.length cap) = _; rw [hdl]), ?_, fun h => (by cases h), by omega, ?_, ⟨hnd, fun y hy => HU.out.2.1 y (HD.out.1.perm.mem_iff.1 hy), fun y => HD.out.1.perm.mem_iff.trans (HU.out.2.2 y)⟩, grown_new K5.out.gr HD.out.1.gr (by omega)⟩
 ·have := (rd_of_own HD.out.1.own).mono (q' := (w.heap.size ≤ ·)) (fun b hb => by have := K5.out.lo.1; omega)
  rw [← hdl] at this
  exact this
 ·refine List.pairwise_iff_getElem.2 fun i j hi hj hij => ?_
  have h1 := List.pairwise_iff_getElem.1 hpw i j hi hj hij
  have h2 := List.pairwise_iff_getElem.1 hnd i j hi hj hij
  omega
end Go.Proofs.YtahafijpcmphaaaGreat

/- tables: the program's Hops and the reference's give the same list. -/
namespace Go.Proofs.YtahafijpcmphaaaGreat
set_option maxRecDepth 100000
open Go.RowKit Bs
end Go.Proofs.YtahafijpcmphaaaGreat

/- tables: what the program's Hops gives, in the reference's words; both tables have the same rows. -/
namespace Go.Proofs.YtahafijpcmphaaaGreat
set_option maxRecDepth 100000
open Go.RowKit Bs
theorem nxt_hasT {R : List Rt} {L : List Lk} {r z u : Int} (h : u ∈ nxt R L r z) : hasV R L r = true ∧ hasV R L z = true ∧ r ≠ z := by
 obtain ⟨-, h2⟩ := nxt_near h
 obtain ⟨x, d, h3, h4, h5⟩ := nearB_iff.1 h2
 obtain ⟨h6, h7, h8⟩ := dst_both h4
 refine ⟨hasV_iff.2 ⟨h6, h7⟩, hasV_iff.2 ⟨h6, h8⟩, ?_⟩
 rintro rfl
 rw [dst_self (dst_some.1 h4).1] at h4
 have e := Option.some.inj h4
 have := (dst_bd h3).1
 omega
theorem nxt_rngT (R : List Rt) (L : List Lk) (z r : Int) : ∀ y ∈ nxt R L r z, y ∈ ids R ∧ 1 ≤ y ∧ y ≤ 99 := by
 intro y hy
 obtain ⟨h1, h2⟩ := nxt_near hy
 obtain ⟨x, d, h3, -, -⟩ := nearB_iff.1 h2
 exact ⟨h1, (dst_bd h3).2.1⟩
theorem hopU_hops {R : List Rt} {L : List Lk} {x z : Int} {M : List Int} (hU : HopU R L x z M) : HopsIs R L x z M := by
 unfold HopsIs
 by_cases hc : hasV R L x = true ∧ hasV R L z = true ∧ x ≠ z
 ·rw [if_pos hc]
  refine fun y => (hU.2.2 y).trans ?_
  unfold HopM HopC
  simp only [stV_nxt hc.2.1]
 ·rw [if_neg hc]
  refine List.eq_nil_iff_forall_not_mem.2 fun y hy => ?_
  obtain ⟨s, hs, h1, -⟩ := (hU.2.2 y).1 hy
  have hz : ∀ u, u ∉ nxt R L x z := fun u hu => hc (nxt_hasT hu)
  have e := hs (fun a => a = x) rfl (fun a b ha hb _ => by subst ha; exact absurd hb (hz b))
  subst e
  exact hz y h1
end Go.Proofs.YtahafijpcmphaaaGreat

/- tables: the laws' example. -/
namespace Go.Proofs.YtahafijpcmphaaaGreat
set_option maxRecDepth 100000
open Go.RowKit Bs
def tbxR : List Rt := [⟨1, true⟩, ⟨2, false⟩, ⟨3, true⟩]
def tbxL : List Lk := [⟨1, 2, 1, 1, 0⟩, ⟨2, 3, 1, 1, 0⟩]
def tbxE : List Ed := [⟨3, 1⟩]
theorem tbx_ok : okT tbxR tbxL = true ∧ vPl 0 8 tbxE = true ∧ hasV tbxR tbxL 1 = true ∧ hasV tbxR tbxL 3 = true ∧ capV tbxR tbxL 1 = true ∧ capV tbxR tbxL 3 = true ∧ capV tbxR tbxL 2 = false := ⟨by kernel_rfl, by kernel_rfl, by kernel_rfl, by kernel_rfl, by kernel_rfl, by kernel_rfl, by kernel_rfl⟩
theorem tbx_st : stV tbxR tbxL (toK tbxL 3 3) 1 = [2] ∧ stV tbxR tbxL (toK tbxL 3 3) 2 = [3] := ⟨by kernel_rfl, by kernel_rfl⟩
theorem tbx_bu : buE tbxR tbxL 0 8 tbxE 1 = 0 := bu_ok ⟨tbx_ok.1, tbx_ok.2.1⟩ tbx_ok.2.2.1 tbx_ok.2.2.2.2.1
theorem tbx_hop {X : List Int} (hp : X.Pairwise (· < ·)) (h : HopsIs tbxR tbxL 1 3 X) : X = [3] := by
 unfold HopsIs at h
 rw [if_pos ⟨tbx_ok.2.2.1, tbx_ok.2.2.2.1, by decide⟩] at h
 refine asc_same hp (by decide) fun y => (h y).trans ⟨?_, ?_⟩
 ·rintro ⟨s, hs, hy, hc⟩
  have hs2 := hs (fun a => a = 1 ∨ a = 2) (Or.inl rfl) (fun a b ha hb _ => by
   rcases ha with rfl | rfl
   ·have := tbx_st.1 ▸ hb; exact Or.inr (by simpa using this)
   ·rename_i hcb
    have h3 := tbx_st.2 ▸ hb
    have h4 : b = 3 := by simpa using h3
    subst h4
    rw [tbx_ok.2.2.2.2.2.1] at hcb; cases hcb)
  rcases hs2 with rfl | rfl
  ·have h3 := tbx_st.1 ▸ hy
   have h4 : y = 2 := by simpa using h3
   subst h4
   rw [tbx_ok.2.2.2.2.2.2] at hc; cases hc
  ·have h3 := tbx_st.2 ▸ hy
   simpa using h3
 ·intro hy
  have e : y = 3 := by simpa using hy
  subst e
  refine ⟨2, fun P h1 h2 => h2 1 2 h1 (by have := tbx_st.1; show 2 ∈ stV tbxR tbxL (toK tbxL 3 3) 1; rw [this]; simp) tbx_ok.2.2.2.2.2.2, ?_, tbx_ok.2.2.2.2.2.1⟩
  show 3 ∈ stV tbxR tbxL (toK tbxL 3 3) 2
  rw [tbx_st.2]; simp
theorem tbx_bld {L : List Rw} (h : BldM tbxR tbxL 1 tbxE L) : ∃ x, L = [x] ∧ x.id = 1 ∧ x.nx = [3] := by
 have hl : L.length = 1 := h.1
 obtain ⟨x, rfl⟩ : ∃ x, L = [x] := by
  cases L with
  | nil => cases hl
  | cons x t => cases t with
   | nil => exact ⟨x, rfl⟩
   | cons y t => simp at hl
 obtain ⟨h1, h2⟩ := h.2 0 ⟨3, 1⟩ x rfl rfl
 refine ⟨x, rfl, h1, ?_⟩
 unfold NxB at h2
 rw [if_neg (by decide), if_pos tbx_ok.2.2.2.2.2.1] at h2
 exact tbx_hop h2.1 h2.2.2
end Go.Proofs.YtahafijpcmphaaaGreat

/- tables: the program's nextTo. -/
namespace Go.Proofs.YtahafijpcmphaaaGreat
set_option maxRecDepth 100000
open Go.RowKit Bs
def NtPost (R : List Rt) (L : List Lk) (ro r : Int) (w : World) (e : Ending) (w' : World) : Prop :=
 ∃ (X : List Int) (p : Option Addr) (c : Nat), e = .returned (.slice p X.length c) ∧ Rd w' (w.heap.size ≤ ·) (.slice p X.length c) (X.map tv) ∧ (p = none → c = 0) ∧ (X.length ≤ c ∧ c ≤ 9223372036854775807) ∧ NxB R L ro r X ∧ w.grownBy w' none
set_option maxHeartbeats 3200000 in
theorem tnextTo_any (T : Tg) (ro r : Int) (q : Nat → Prop) (w : World) (hT : TgOk w q T) (hp : T.pL = none → T.cL = 0) (hl0 : T.R.length ≤ 1000) (hl1 : okT T.R T.L = true → T.R.length ≤ 12) (hl2 : T.L.length ≤ 1000) (hx : okT T.R T.L = true → I64 ro) :
  Calls Tryz.prog 114 #[.agg #[.slice T.pR T.R.length T.cR, .slice T.pL T.L.length T.cL], .int .i64 ro, .int .i64 r] w fun e w' => NtPost T.R T.L ro r w e w' := by
 obtain ⟨R, L, pR, cR, pL, cL⟩ := T
 simp only at hp hl0 hl1 hl2 hx ⊢
 obtain ⟨k1, k2⟩ := tone_box w #[.slice pR R.length cR, .slice pL L.length cL] 45
 have HB := Lib.hid (And.intro k1 (And.intro k2 (hT.keep k2)))
 clear k1 k2 hT
 have HX := Lib.hid (And.intro hp (And.intro hx hl1))
 clear hp hx hl1
 go_enter Tryz.func114, Tryz.ntmps114
 go_upto_region 1 with fail
 generalize w.alloc _ = wa at *
 have HZ : Hid (w.heap.size ≤ wa.heap.size) := Lib.hid HB.out.2.1.size
 by_cases her : r = ro
 case pos =>
  have her' : (r == ro) = true := by simpa using her
  have HER := Lib.hid her
  clear her
  go_wp2_with fail
  go_ret
  have hb := alloc_row (w := wa) #[.int .i64 ro] 3 rfl
  refine ⟨[ro], some ⟨wa.heap.size, 0, none⟩, 1, rfl, ⟨_, 1, rfl, fun _ => ⟨_, _, rfl, HZ.out, fun i u hi => ?_⟩⟩, fun h => (by cases h), ⟨by show 1 ≤ 1; decide, by show 1 ≤ 9223372036854775807; decide⟩, by unfold NxB; rw [if_pos HER.out], grown_trans HB.out.2.1 hb.2.1⟩
  rw [Nat.zero_add, cell_of_row _ _ _ _ _ _ hb.1]
  simpa [tv] using hi
 have her' : (r == ro) = false := by simpa using her
 have HER := Lib.hid her
 clear her
 obtain ⟨c0, c1⟩ := row_cells HB.out.1
 go_upto_region 3 with fail
 clear her'
 go_wp2_with fail
 refine (tcap_any ⟨R, L, pR, cR, pL, cL⟩ r _ wa HB.out.2.2 (by show R.length ≤ 1000000; omega)).mono ?_
 rintro e w2 ⟨rfl, hg⟩
 have H2 := Lib.hid (And.intro (kept_row HB.out.1 hg (by simp)) (And.intro (grown_trans HB.out.2.1 hg) (HB.out.2.2.keep hg)))
 clear hg c0 c1 HB
 simp only
 obtain ⟨c0, c1⟩ := row_cells H2.out.1
 cases hcp : capV R L r
 case false =>
  have HC := Lib.hid hcp
  clear hcp
  go_wp2_with fail
  go_ret
  exact ⟨[], none, 0, rfl, ⟨none, 0, rfl, fun h => absurd rfl h⟩, fun _ => rfl, ⟨Nat.le_refl _, by show (0 : Nat) ≤ _; omega⟩, by unfold NxB; rw [if_neg HER.out, if_neg (by rw [HC.out]; decide)], H2.out.2.1⟩
 have HC := Lib.hid hcp
 clear hcp
 go_wp2_with fail
 refine (thops0_any ⟨R, L, pR, cR, pL, cL⟩ ro r _ w2 H2.out.2.2 HX.out.1 hl0 HX.out.2.2 hl2 HX.out.2.1 (fun a y hy => nxt_rngT R L r a y hy)).mono ?_
 rintro e w3 ⟨M, p, c, rfl, hr, hn, hc, hA, hU, hg⟩
 have HU := Lib.hid (And.intro hA (And.intro hU.2.1 (hopU_hops hU)))
 have HR := Lib.hid (And.intro (hr.mono (q' := fun b => w.heap.size ≤ b) (fun b hb => Nat.le_trans H2.out.2.1.size hb)) (And.intro hn (And.intro hc (grown_trans H2.out.2.1 hg))))
 clear hr hn hc hA hU hg c0 c1 H2
 simp only
 go_wp2_with fail
 go_ret
 exact ⟨M, p, c, rfl, HR.out.1, HR.out.2.1, HR.out.2.2.1, by unfold NxB; rw [if_neg HER.out, if_pos HC.out]; exact HU.out, HR.out.2.2.2⟩
end Go.Proofs.YtahafijpcmphaaaGreat

/- tables: the program's build. -/
namespace Go.Proofs.YtahafijpcmphaaaGreat
set_option maxRecDepth 100000
open Go.RowKit Bs
set_option maxHeartbeats 12800000 in
theorem tbuild_any (T : Tg) (s n ro : Int) (E : List Ed) (pE : Option Addr) (cE : Nat) (q q2 : Nat → Prop) (w : World) (hT : TgOk w q T) (hE : RdF w q2 (.slice pE E.length cE) E.length (E.flatMap edC)) (hm : E.length ≤ 1000) (hp : T.pL = none → T.cL = 0) (hl0 : T.R.length ≤ 1000) (hl1 : okT T.R T.L = true → T.R.length ≤ 12) (hl2 : T.L.length ≤ 1000) (hx : okT T.R T.L = true → I64 ro) :
  Calls Tryz.prog 85 #[.agg #[.slice T.pR T.R.length T.cR, .slice T.pL T.L.length T.cL], .agg #[.int .i64 s, .int .i64 n, .slice pE E.length cE], .int .i64 ro] w fun e w' => BldPost T.R T.L ro s n E w e w' := by
 obtain ⟨R, L0, pR, cR, pL, cL⟩ := T
 simp only at hp hl0 hl1 hl2 hx ⊢
 obtain ⟨ii, hii, hi0, hi1, hi2⟩ := info_parts info_rowT
 have H0 := Lib.hid (bd_start s n ro hT hE)
 have HPX := Lib.hid (And.intro hp (And.intro hx hl1))
 clear hT hE hp hx hl1
 go_enter Tryz.func85, Tryz.ntmps85
 go_upto_region 2 with fail
 generalize (((w.alloc _).alloc _).alloc _).alloc _ = wa at *
 obtain ⟨q0, q1, q2⟩ := row3B H0.out.bP
 go_wp2_with fail
 go_loopw [19] (fun a wr => ∃ (k : Nat) (L : List Rw) (p : Option Addr) (c : Nat), k ≤ E.length ∧ a = .int .i64 (k : Int) ∧ Hid (BldM R L0 ro (E.take k) L) ∧ Hid (BD w ⟨R, L0, pR, cR, pL, cL⟩ s n ro E pE cE (.slice p L.length c) L wr)) (fun a _ => E.length - (RowKit.intOf a).toNat)
 case atStart => exact ⟨0, [], none, 0, Nat.zero_le _, rfl, Lib.hid ⟨by rw [List.take_zero]; rfl, fun i e x hi => by rw [List.take_zero] at hi; simp at hi⟩, H0⟩
 case round =>
 clear H0 q0 q1 q2
 obtain ⟨k, L, p, c, hk, rfl, HB, K⟩ := hrel
 obtain ⟨w5, hw5⟩ : ∃ w5, w5 = wr := ⟨_, rfl⟩
 rw [← hw5] at K ⊢
 clear hw5
 by_cases hlt : k < E.length
 case neg =>
  obtain rfl : k = E.length := by omega
  have hnl : ¬ (E.length : Int) < (E.length : Int) := by omega
  rw [List.take_length] at HB
  obtain ⟨d0, d1, d2, d3⟩ := row4T K.out.bB
  obtain ⟨z0, z1, z2, z3⟩ := row4T K.out.bR
  have f0 := frozen_of_row _ _ 0 _ _ K.out.bR
  have f1 := frozen_of_row _ _ 1 _ _ K.out.bR
  have f2 := frozen_of_row _ _ 2 _ _ K.out.bR
  have f3 := frozen_of_row _ _ 3 _ _ K.out.bR
  have HT := Lib.hid (store4B (.int .i64 ro) (.int .i64 s) (.int .i64 n) (.slice p L.length c) K.out.bR)
  have HK := Lib.hid K.out
  clear K
  go_wp2_with fail
  refine bodyPost_ret (res_tabB rfl _ _ (w.heap.size + 1 + 1) _ _ _ _ rfl HT.out.1) rfl ?_
  have hne : ∀ b, w.heap.size + 4 ≤ b → b ≠ w.heap.size + 1 + 1 := fun b hb => by omega
  exact ⟨L, p, c, rfl, (HK.out.own.kept HT.out.2 (by
   cases hvo : (Value.slice p L.length c).ownBlock with
   | none => exact Or.inl rfl
   | some b => exact Or.inr (fun e => by have := (HK.out.own.lt b hvo).1; have := Option.some.inj e; omega))).mono (by omega), fun x hx => by
    have h := (HK.out.rows x hx).over HT.out.2 hne
    exact ⟨h.1.mono (fun b hb => ⟨by have := hb.1; omega, hb.2⟩), h.2⟩, HB.out, grown_new HK.out.gr HT.out.2 (by omega)⟩
 have hlt' : (k : Int) < (E.length : Int) := by omega
 have hk0 : (0 : Int) ≤ (k : Int) := by omega
 obtain ⟨e, he⟩ : ∃ e, E[k]? = some e := ⟨_, List.getElem?_eq_getElem hlt⟩
 obtain ⟨b, off, rfl, hc⟩ := edT_cells K.out.e (by omega)
 obtain ⟨a0, a1⟩ := hc k e he
 have HE := Lib.hid he
 have hB5 := alloc_row (w := w5) #[.int .i64 e.r, .int .i64 e.i] 71 rfl
 have H5 := Lib.hid (And.intro hB5.1 hB5.2.1)
 clear hc he hB5
 go_upto_region 5 with fail
 clear a0 a1
 have hLE : Hid (L.length ≤ 1000) := Lib.hid (by have := HB.out.1; rw [List.length_take] at this; omega)
 have hLl := hLE.out
 generalize w5.alloc _ = w6 at *
 obtain ⟨g, hg⟩ : ∃ g, w5.heap.size = g := ⟨_, rfl⟩
 have HGE := Lib.hid hg
 rw [hg] at H5 ⊢
 clear hg
 have K6 := Lib.hid (K.out.keep H5.out.2)
 refine region_until (S := fun w' => Hid (w6.grownBy w' none)) (fun j => j == 11 || j == 12 || j == 13) (by kernel_rfl) (Lib.hid (grown_drew (grown_refl _ none))) (fun hHeld => ?_)
 refine anyU_take (i := 0) (oi := { dst := some 23, op := Op.fieldAddr 25 (Operand.tmp 7) 3, type := 0, pos := _, after := _, guard := none }) (v := ?_) rfl (by kernel_rfl) (by kernel_rfl) (by kernel_rfl) (by kernel_rfl) (by kernel_rfl) (fun _ _ _ h => h) (Or.inl ⟨by rfl, ?_⟩) hHeld ?_
 rotate_left 1
 ·intro u hSu
  go_simp
  first | done | with_reducible rfl
 (try simp only [Act.put, zA, zB, zC])
 refine anyU_take (i := 1) (oi := { dst := some 24, op := Op.load 23 (Operand.tmp 23), type := 23, pos := _, after := _, guard := none }) (v := ?_) rfl (by kernel_rfl) (by kernel_rfl) (by kernel_rfl) (by kernel_rfl) (by kernel_rfl) (fun _ _ _ h => h) (Or.inl ⟨by rfl, ?_⟩) hHeld ?_
 rotate_left 1
 ·intro u hSu
  obtain ⟨t0u, t1u⟩ := row_cells (kept_row K6.out.bT hSu.out (by simp))
  obtain ⟨d0u, d1u, d2u, d3u⟩ := row4T (kept_row K6.out.bB hSu.out (by simp))
  obtain ⟨m0u, m1u⟩ := row_cells (kept_row H5.out.1 hSu.out (by simp))
  go_simp
  first | done | with_reducible rfl
 (try simp only [Act.put, zA, zB, zC])
 refine anyU_take (i := 2) (oi := { dst := some 25, op := Op.fieldAddr 71 (Operand.tmp 9) 1, type := 0, pos := _, after := _, guard := none }) (v := ?_) rfl (by kernel_rfl) (by kernel_rfl) (by kernel_rfl) (by kernel_rfl) (by kernel_rfl) (fun _ _ _ h => h) (Or.inl ⟨by rfl, ?_⟩) hHeld ?_
 rotate_left 1
 ·intro u hSu
  go_simp
  first | done | with_reducible rfl
 (try simp only [Act.put, zA, zB, zC])
 refine anyU_take (i := 3) (oi := { dst := some 26, op := Op.load 3 (Operand.tmp 25), type := 3, pos := _, after := _, guard := none }) (v := ?_) rfl (by kernel_rfl) (by kernel_rfl) (by kernel_rfl) (by kernel_rfl) (by kernel_rfl) (fun _ _ _ h => h) (Or.inl ⟨by rfl, ?_⟩) hHeld ?_
 rotate_left 1
 ·intro u hSu
  obtain ⟨t0u, t1u⟩ := row_cells (kept_row K6.out.bT hSu.out (by simp))
  obtain ⟨d0u, d1u, d2u, d3u⟩ := row4T (kept_row K6.out.bB hSu.out (by simp))
  obtain ⟨m0u, m1u⟩ := row_cells (kept_row H5.out.1 hSu.out (by simp))
  go_simp
  first | done | with_reducible rfl
 (try simp only [Act.put, zA, zB, zC])
 refine anyU_take (i := 4) (oi := { dst := some 27, op := Op.load 45 (Operand.tmp 3), type := 45, pos := _, after := _, guard := none }) (v := ?_) rfl (by kernel_rfl) (by kernel_rfl) (by kernel_rfl) (by kernel_rfl) (by kernel_rfl) (fun _ _ _ h => h) (Or.inl ⟨by rfl, ?_⟩) hHeld ?_
 rotate_left 1
 ·intro u hSu
  obtain ⟨t0u, t1u⟩ := row_cells (kept_row K6.out.bT hSu.out (by simp))
  obtain ⟨d0u, d1u, d2u, d3u⟩ := row4T (kept_row K6.out.bB hSu.out (by simp))
  obtain ⟨m0u, m1u⟩ := row_cells (kept_row H5.out.1 hSu.out (by simp))
  go_simp
  first | done | with_reducible rfl
 (try simp only [Act.put, zA, zB, zC])
 refine anyU_take (i := 5) (oi := { dst := some 28, op := Op.move (Operand.tmp 2), type := 3, pos := _, after := _, guard := none }) (v := ?_) rfl (by kernel_rfl) (by kernel_rfl) (by kernel_rfl) (by kernel_rfl) (by kernel_rfl) (fun _ _ _ h => h) (Or.inl ⟨by rfl, ?_⟩) hHeld ?_
 rotate_left 1
 ·intro u hSu
  go_simp
  first | done | with_reducible rfl
 (try simp only [Act.put, zA, zB, zC])
 refine anyU_take (i := 6) (oi := { dst := some 29, op := Op.fieldAddr 71 (Operand.tmp 9) 0, type := 0, pos := _, after := _, guard := none }) (v := ?_) rfl (by kernel_rfl) (by kernel_rfl) (by kernel_rfl) (by kernel_rfl) (by kernel_rfl) (fun _ _ _ h => h) (Or.inl ⟨by rfl, ?_⟩) hHeld ?_
 rotate_left 1
 ·intro u hSu
  go_simp
  first | done | with_reducible rfl
 (try simp only [Act.put, zA, zB, zC])
 refine anyU_take (i := 7) (oi := { dst := some 30, op := Op.load 3 (Operand.tmp 29), type := 3, pos := _, after := _, guard := none }) (v := ?_) rfl (by kernel_rfl) (by kernel_rfl) (by kernel_rfl) (by kernel_rfl) (by kernel_rfl) (fun _ _ _ h => h) (Or.inl ⟨by rfl, ?_⟩) hHeld ?_
 rotate_left 1
 ·intro u hSu
  obtain ⟨t0u, t1u⟩ := row_cells (kept_row K6.out.bT hSu.out (by simp))
  obtain ⟨d0u, d1u, d2u, d3u⟩ := row4T (kept_row K6.out.bB hSu.out (by simp))
  obtain ⟨m0u, m1u⟩ := row_cells (kept_row H5.out.1 hSu.out (by simp))
  go_simp
  first | done | with_reducible rfl
 (try simp only [Act.put, zA, zB, zC])
 refine anyU_ready (rs := [8]) (by kernel_rfl) (by simp) ?_
 refine EachU.cons (o := { dst := some 31, op := Op.call { callee := Callee.value (Operand.func 114), args := #[Operand.tmp 27, Operand.tmp 28, Operand.tmp 30], argTypes := #[45, 3, 3] }, type := 22, pos := _, after := _, guard := none }) rfl (fun Kz hK => ?_) EachU.nil
 go_simp
 go_at_call 114
 refine (tnextTo_any ⟨R, L0, pR, cR, pL, cL⟩ ro e.r _ _ (K6.out.keep hHeld.out).t HPX.out.1 hl0 HPX.out.2.2 hl2 HPX.out.2.1).mono ?_
 rintro e' w7 ⟨X, p1, c1, rfl, hr, hn, hc, hNB, hg⟩
 have hr6 := hr.mono (q' := fun b => w6.heap.size ≤ b) (fun b hb => Nat.le_trans hHeld.out.size hb)
 have HX : Hid (RdX (w.heap.size + 4) w7 (.slice p L.length c) p1 c1 X) := Lib.hid ⟨(rd_and hr6).mono (fun b hb => ⟨by have := hb.1; have := K6.out.lo; omega, hb.2, fun e => by have := (K6.out.own.lt _ e.symm).2; have := hb.1; omega⟩), hn, hc⟩
 have HXM := Lib.hid hNB
 have HN := Lib.hid (grown_trans hHeld.out hg)
 clear hr hr6 hn hc hNB hg
 simp only
 refine hK.out _ _ (fun _ => HN) (fun hH2 => ?_)
 clear hK Kz hHeld
 have hHeld := hH2 rfl
 clear hH2
 (try simp only [Act.put, zA, zB, zC])
 refine anyU_take (i := 9) (oi := { dst := some 32, op := Op.build 36 #[(0, Operand.tmp 26), (1, Operand.tmp 31)], type := 36, pos := _, after := _, guard := none }) (v := ?_) rfl (by kernel_rfl) (by kernel_rfl) (by kernel_rfl) (by kernel_rfl) (by kernel_rfl) (fun _ _ _ h => h) (Or.inl ⟨by rfl, ?_⟩) hHeld ?_
 rotate_left 1
 ·intro u hSu
  obtain ⟨t0u, t1u⟩ := row_cells (kept_row K6.out.bT hSu.out (by simp))
  obtain ⟨d0u, d1u, d2u, d3u⟩ := row4T (kept_row K6.out.bB hSu.out (by simp))
  obtain ⟨m0u, m1u⟩ := row_cells (kept_row H5.out.1 hSu.out (by simp))
  go_simp
  first | done | with_reducible rfl
 (try simp only [Act.put, zA, zB, zC])
 refine anyU_ready (rs := [10]) (by kernel_rfl) (by simp) ?_
 refine EachU.cons (o := { dst := some 33, op := Op.buildSlice 23 1 #[(0, Operand.tmp 32)], type := 23, pos := _, after := _, guard := none }) rfl (fun Kz hK => ?_) EachU.nil
 have KX := Lib.hid (K6.out.keep hHeld.out)
 have hXl := HX.out.2.2
 go_simp
 refine hK.out _ _ (fun _ => hid_more hHeld (World.grownBy_alloc _ _ _)) (fun hH2 => ?_)
 clear hK Kz hHeld
 have hHeld := hH2 rfl
 clear hH2
 (try simp only [Act.put, zA, zB, zC])
 refine anyU_ready (rs := [11]) (by kernel_rfl) (by simp) ?_
 refine EachU.cons (o := { dst := some 34, op := Op.call { callee := Callee.builtin Builtin.append, args := #[Operand.tmp 24, Operand.tmp 33], argTypes := #[23, 23] }, type := 23, pos := _, after := _, guard := none }) rfl (fun Kz hK => ?_) EachU.nil
 refine step_append_lies _ (by rfl) _ _ 23 (by rfl) (w.heap.size + 4) 36 ii (.agg #[.int .i64 0, .slice none 0 0]) 2 32 Tryz.underlying23 hii hi0 hi1 hi2 rfl (by decide) (.slice p L.length c) L.length (L.flatMap rwC) (by rfl) (KX.out.own.alloc _) ⟨w7.heap.size, 0, none⟩ 1 1 (rwC ⟨e.i, X, p1, c1⟩) (by rfl) (by rfl) (rwB_row w7 ⟨e.i, X, p1, c1⟩ _) (rw_one ⟨e.i, X, p1, c1⟩) (by decide) (by unfold maxLen; omega) (by omega) (by have := KX.out.lo; simp; omega) _ rfl ?_
 intro g2 cap w8 hown hgrow hat hlt8
 have ga := World.grownBy_alloc w7 (.cells #[.int .i64 e.i, .slice p1 X.length c1] 36) none
 have hv : (Value.slice (some ⟨g2, 0, none⟩) (L.length + 1) cap).ownBlock = (Value.slice p L.length c).ownBlock ∨ ∀ b, some b = (Value.slice (some ⟨g2, 0, none⟩) (L.length + 1) cap).ownBlock → (w7.alloc (.cells #[.int .i64 e.i, .slice p1 X.length c1] 36)).heap.size ≤ b := by
  rcases hat with h | h
  ·exact Or.inl h.symm
  ·refine Or.inr fun b e => ?_
   have e2 : some b = some g2 := e
   have := Option.some.inj e2
   rw [this, h]
   exact Nat.le_refl _
 have HPS := Lib.hid ((KX.out.keep ga).push (x := ⟨e.i, X, p1, c1⟩) (v' := .slice (some ⟨g2, 0, none⟩) (L.length + 1) cap) (HX.out.keep ga) (by rw [List.length_append, List.flatMap_append]; simpa [rwC] using hown) hgrow hv)
 have HBM : Hid (BldM R L0 ro (E.take (k + 1)) (L ++ [⟨e.i, X, p1, c1⟩])) := Lib.hid (HB.out.push HE.out HXM.out p1 c1)
 have HLL : Hid ((L ++ [(⟨e.i, X, p1, c1⟩ : Rw)]).length = L.length + 1) := Lib.hid (by rw [List.length_append]; rfl)
 clear hown hgrow hat hlt8 ga hv HX HXM KX
 refine hK.out _ _ (fun h => by cases h) (fun _ => ?_)
 clear hK Kz
 (try simp only [Act.put, zA, zB, zC])
 refine anyU_ready (rs := [12]) (by kernel_rfl) (by simp) ?_
 refine EachU.cons (o := { dst := some 35, op := Op.fieldAddr 25 (Operand.tmp 7) 3, type := 0, pos := _, after := _, guard := none }) rfl (fun Kz hK => ?_) EachU.nil
 go_simp
 refine hK.out _ _ (fun h => by cases h) (fun _ => ?_)
 clear hK Kz
 (try simp only [Act.put, zA, zB, zC])
 refine anyU_ready (rs := [13]) (by kernel_rfl) (by simp) ?_
 refine EachU.cons (o := { dst := none, op := Op.store 23 (Operand.tmp 35) (Operand.tmp 34), type := 0, pos := _, after := _, guard := none }) rfl (fun Kz hK => ?_) EachU.nil
 obtain ⟨y0, y1, y2, y3⟩ := row4T HPS.out.1
 have f3 := frozen_of_row _ _ 3 _ _ HPS.out.1
 go_simp
 refine hK.out _ _ (fun h => by cases h) (fun _ => ?_)
 clear hK Kz
 (try simp only [Act.put, zA, zB, zC])
 refine anyU_done (by kernel_rfl) ?_ _
 clear hHeld
 have HBD := Lib.hid HPS.out.2
 clear y0 y1 y2 y3 f3 HPS
 go_wp2_with fail
 exact ⟨⟨k + 1, L ++ [⟨e.i, X, p1, c1⟩], some ⟨g2, 0, none⟩, cap, by omega, congrArg _ (by omega), HBM, by rw [HLL.out]; exact HBD⟩, by simp only [RowKit.intOf]; omega⟩
end Go.Proofs.YtahafijpcmphaaaGreat

/- tables: the program's Build. -/
namespace Go.Proofs.YtahafijpcmphaaaGreat
set_option maxRecDepth 100000
open Go.RowKit Bs
set_option maxHeartbeats 3200000 in
theorem tvalidT_any (T : Tg) (s n : Int) (E : List Ed) (pE : Option Addr) (cE : Nat) (q q2 : Nat → Prop) (w : World) (hT : TgOk w q T) (hE : RdF w q2 (.slice pE E.length cE) E.length (E.flatMap edC)) (hm : E.length ≤ 9223372036854775807) :
  Calls Tryz.prog 83 #[.agg #[.slice T.pR T.R.length T.cR, .slice T.pL T.L.length T.cL], .agg #[.int .i64 s, .int .i64 n, .slice pE E.length cE]] w fun e w' => e = .returned (.bool (okT T.R T.L && vPl s n E)) ∧ w.grownBy w' none := by
 obtain ⟨R, L0, pR, cR, pL, cL⟩ := T
 simp only
 have H0 := Lib.hid (alT_start s n hT hE)
 clear hT hE
 go_enter Tryz.func83, Tryz.ntmps83
 go_upto_region 1 with fail
 generalize (w.alloc _).alloc _ = wa at *
 obtain ⟨t0, t1⟩ := row_cells H0.out.bT
 obtain ⟨q0, q1, q2⟩ := row3B H0.out.bP
 go_wp2_with fail
 refine (tcheck_any ⟨R, L0, pR, cR, pL, cL⟩ _ wa H0.out.t).mono ?_
 rintro e w1 ⟨rfl, hg⟩
 have H1 := Lib.hid (H0.out.keep hg)
 clear hg H0 t0 t1 q0 q1 q2
 simp only
 by_cases hck : chk R L0 = 0
 case neg =>
  have hck' : (chk R L0 == 0) = false := by simpa using hck
  have HF : Hid (okT R L0 = false) := Lib.hid (by unfold okT; exact hck')
  clear hck
  go_wp2_with fail
  go_ret
  exact ⟨by rw [HF.out]; rfl, H1.out.gr⟩
 have HOK : Hid (okT R L0 = true) := Lib.hid (by unfold okT; simpa using hck)
 rw [hck]
 clear hck
 obtain ⟨t0, t1⟩ := row_cells H1.out.bT
 obtain ⟨q0, q1, q2⟩ := row3B H1.out.bP
 go_wp2_with fail
 refine (ivplan_any s n E pE cE _ w1 H1.out.e hm).mono ?_
 rintro e w2 ⟨rfl, hg⟩
 have H2 := Lib.hid (H1.out.keep hg)
 clear hg H1 t0 t1 q0 q1 q2
 simp only
 go_wp2_with fail
 go_ret
 exact ⟨by rw [HOK.out, Bool.true_and]; rfl, H2.out.gr⟩
set_option maxHeartbeats 6400000 in
theorem tBuild_any (T : Tg) (s n ro : Int) (E : List Ed) (pE : Option Addr) (cE : Nat) (q q2 : Nat → Prop) (w : World) (hT : TgOk w q T) (hE : RdF w q2 (.slice pE E.length cE) E.length (E.flatMap edC)) (hm : E.length ≤ 9223372036854775807) (hp : T.pL = none → T.cL = 0) (hl0 : T.R.length ≤ 1000) (hl1 : okT T.R T.L = true → T.R.length ≤ 12) (hl2 : T.L.length ≤ 1000) (hx : okT T.R T.L = true → I64 ro) :
  Calls Tryz.prog 34 #[.agg #[.slice T.pR T.R.length T.cR, .slice T.pL T.L.length T.cL], .agg #[.int .i64 s, .int .i64 n, .slice pE E.length cE], .int .i64 ro] w fun e w' => TBdPost T.R T.L ro s n E w e w' := by
 obtain ⟨R, L0, pR, cR, pL, cL⟩ := T
 simp only at hp hl0 hl1 hl2 hx ⊢
 have H0 := Lib.hid (b3_start s n hT hE)
 have HPX := Lib.hid (And.intro hp (And.intro hx hl1))
 clear hT hE hp hx hl1
 go_enter Tryz.func34, Tryz.ntmps34
 go_upto_region 1 with fail
 generalize ((w.alloc _).alloc _).alloc _ = wa at *
 obtain ⟨t0, t1⟩ := row_cells H0.out.bT
 obtain ⟨q0, q1, q2⟩ := row3B H0.out.bP
 go_wp2_with fail
 refine (tvalidT_any ⟨R, L0, pR, cR, pL, cL⟩ s n E pE cE _ _ wa H0.out.t H0.out.e hm).mono ?_
 rintro e w1 ⟨rfl, hg⟩
 have H1 := Lib.hid (H0.out.keep hg)
 clear hg H0 t0 t1 q0 q1 q2
 simp only
 obtain ⟨vb, hvb⟩ : ∃ vb, (okT R L0 && vPl s n E) = vb := ⟨_, rfl⟩
 rw [hvb]
 cases vb
 case false =>
  have HE : Hid (buE R L0 s n E ro = 1) := Lib.hid (bu_inv (fun h => by rw [h.1, h.2] at hvb; cases hvb))
  clear hvb
  obtain ⟨z0, z1, z2, z3⟩ := row4T H1.out.bR
  have f0 := frozen_of_row _ _ 0 _ _ H1.out.bR
  have f1 := frozen_of_row _ _ 1 _ _ H1.out.bR
  have f2 := frozen_of_row _ _ 2 _ _ H1.out.bR
  have f3 := frozen_of_row _ _ 3 _ _ H1.out.bR
  have HT := Lib.hid (store4B (.int .i64 0) (.int .i64 0) (.int .i64 0) (.slice none 0 0) H1.out.bR)
  have HK := Lib.hid H1.out
  clear H1
  go_wp2_with fail
  refine bodyPost_ret (res_tab_e rfl _ _ (w.heap.size + 1 + 1) _ _ _ _ rfl HT.out.1) rfl ?_
  exact tbd_zero HE.out (by decide) (grown_new HK.out.gr HT.out.2 (by omega))
 have HV : Hid (okT R L0 = true ∧ vPl s n E = true) := Lib.hid (by simpa using hvb)
 clear hvb
 obtain ⟨t0, t1⟩ := row_cells H1.out.bT
 obtain ⟨q0, q1, q2⟩ := row3B H1.out.bP
 go_wp2_with fail
 refine (thas_any ⟨R, L0, pR, cR, pL, cL⟩ ro _ w1 H1.out.t (by show R.length ≤ 1000000; omega)).mono ?_
 rintro e w2 ⟨rfl, hg⟩
 have H2 := Lib.hid (H1.out.keep hg)
 clear hg H1 t0 t1 q0 q1 q2
 simp only
 obtain ⟨hb, hhb⟩ : ∃ hb, hasV R L0 ro = hb := ⟨_, rfl⟩
 rw [hhb]
 cases hb
 case false =>
  have HE : Hid (buE R L0 s n E ro = 4) := Lib.hid (bu_unk HV.out hhb)
  clear hhb
  obtain ⟨z0, z1, z2, z3⟩ := row4T H2.out.bR
  have f0 := frozen_of_row _ _ 0 _ _ H2.out.bR
  have f1 := frozen_of_row _ _ 1 _ _ H2.out.bR
  have f2 := frozen_of_row _ _ 2 _ _ H2.out.bR
  have f3 := frozen_of_row _ _ 3 _ _ H2.out.bR
  have HT := Lib.hid (store4B (.int .i64 0) (.int .i64 0) (.int .i64 0) (.slice none 0 0) H2.out.bR)
  have HK := Lib.hid H2.out
  clear H2
  go_wp2_with fail
  refine bodyPost_ret (res_tab_e rfl _ _ (w.heap.size + 1 + 1) _ _ _ _ rfl HT.out.1) rfl ?_
  exact tbd_zero HE.out (by decide) (grown_new HK.out.gr HT.out.2 (by omega))
 have HH := Lib.hid hhb
 clear hhb
 obtain ⟨t0, t1⟩ := row_cells H2.out.bT
 obtain ⟨q0, q1, q2⟩ := row3B H2.out.bP
 go_wp2_with fail
 refine (tcap_any ⟨R, L0, pR, cR, pL, cL⟩ ro _ w2 H2.out.t (by show R.length ≤ 1000000; omega)).mono ?_
 rintro e w3 ⟨rfl, hg⟩
 have H3 := Lib.hid (H2.out.keep hg)
 clear hg H2 t0 t1 q0 q1 q2
 simp only
 obtain ⟨cb, hcb⟩ : ∃ cb, capV R L0 ro = cb := ⟨_, rfl⟩
 rw [hcb]
 cases cb
 case false =>
  have HE : Hid (buE R L0 s n E ro = 26) := Lib.hid (bu_cap HV.out HH.out hcb)
  clear hcb
  obtain ⟨z0, z1, z2, z3⟩ := row4T H3.out.bR
  have f0 := frozen_of_row _ _ 0 _ _ H3.out.bR
  have f1 := frozen_of_row _ _ 1 _ _ H3.out.bR
  have f2 := frozen_of_row _ _ 2 _ _ H3.out.bR
  have f3 := frozen_of_row _ _ 3 _ _ H3.out.bR
  have HT := Lib.hid (store4B (.int .i64 0) (.int .i64 0) (.int .i64 0) (.slice none 0 0) H3.out.bR)
  have HK := Lib.hid H3.out
  clear H3
  go_wp2_with fail
  refine bodyPost_ret (res_tab_e rfl _ _ (w.heap.size + 1 + 1) _ _ _ _ rfl HT.out.1) rfl ?_
  exact tbd_zero HE.out (by decide) (grown_new HK.out.gr HT.out.2 (by omega))
 have HC := Lib.hid hcb
 clear hcb
 have HE : Hid (buE R L0 s n E ro = 0) := Lib.hid (bu_ok HV.out HH.out HC.out)
 have hE24 := rows_len HV.out.2
 obtain ⟨t0, t1⟩ := row_cells H3.out.bT
 obtain ⟨q0, q1, q2⟩ := row3B H3.out.bP
 go_wp2_with fail
 refine (tbuild_any ⟨R, L0, pR, cR, pL, cL⟩ s n ro E pE cE _ _ w3 H3.out.t H3.out.e (by omega) HPX.out.1 hl0 HPX.out.2.2 hl2 HPX.out.2.1).mono ?_
 rintro e w4 ⟨L, p, c, rfl, hown, hrows, hM, hg⟩
 have H4 := Lib.hid (H3.out.keep hg)
 have HO := Lib.hid (And.intro hown (And.intro hrows hM))
 have HZ : Hid (w.heap.size + 3 ≤ w3.heap.size) := Lib.hid H3.out.lo
 clear hown hrows hM hg H3 t0 t1 q0 q1 q2
 simp only
 obtain ⟨z0, z1, z2, z3⟩ := row4T H4.out.bR
 have f0 := frozen_of_row _ _ 0 _ _ H4.out.bR
 have f1 := frozen_of_row _ _ 1 _ _ H4.out.bR
 have f2 := frozen_of_row _ _ 2 _ _ H4.out.bR
 have f3 := frozen_of_row _ _ 3 _ _ H4.out.bR
 have HT := Lib.hid (store4B (.int .i64 ro) (.int .i64 s) (.int .i64 n) (.slice p L.length c) H4.out.bR)
 have HK := Lib.hid H4.out
 clear H4
 go_wp2_with fail
 refine bodyPost_ret (res_tab_e rfl _ _ (w.heap.size + 1 + 1) _ _ _ _ rfl HT.out.1) rfl ?_
 obtain ⟨k1, k2, k3⟩ := HK.out.out HO.out.1 HO.out.2.1 HZ.out HT.out.2
 exact ⟨ro, s, n, L, p, c, 0, rfl, HE.out.symm, k1, k2, Or.inl ⟨rfl, rfl, rfl, rfl, HO.out.2.2⟩, k3⟩
end Go.Proofs.YtahafijpcmphaaaGreat

/- tables: awake. -/
namespace Go.Proofs.YtahafijpcmphaaaGreat
set_option maxRecDepth 100000
open Go.RowKit Bs
theorem rdf_rowT {w : World} {g : Nat} {t : TypeId} {n c : Nat} {xs : List Value} (h : w.heap[g]? = some (.cells xs.toArray t (0, 0))) : RdF w (· = g) (.slice (some ⟨g, 0, none⟩) n c) n xs :=
 ⟨some ⟨g, 0, none⟩, c, rfl, fun _ => ⟨g, 0, rfl, rfl, fun i x hi => by
  rw [cell_of_row _ _ _ _ _ _ h, Nat.zero_add]
  simpa using hi⟩⟩
theorem tbx_start (w : World) : ∃ w3, w3 = (((w.alloc (.cells #[.int .i64 1, .bool true, .int .i64 2, .bool false, .int .i64 3, .bool true] 92)).alloc (.cells #[.int .i64 1, .int .i64 2, .int .i64 1, .int .i64 1, .int .i64 0, .int .i64 2, .int .i64 3, .int .i64 1, .int .i64 1, .int .i64 0] 94)).alloc (.cells #[.slice (some ⟨w.heap.size, 0, none⟩) 3 3, .slice (some ⟨w.heap.size + 1, 0, none⟩) 2 2] 45)) ∧
  w3.heap[w.heap.size + 1 + 1]? = some (.cells #[.slice (some ⟨w.heap.size, 0, none⟩) 3 3, .slice (some ⟨w.heap.size + 1, 0, none⟩) 2 2] 45 (0, 0)) ∧ TgOk w3 (fun _ => True) ⟨tbxR, tbxL, some ⟨w.heap.size, 0, none⟩, 3, some ⟨w.heap.size + 1, 0, none⟩, 2⟩ ∧ w.grownBy w3 none := by
 obtain ⟨a1, g1, z1⟩ := alloc_row (w := w) #[.int .i64 1, .bool true, .int .i64 2, .bool false, .int .i64 3, .bool true] 92 rfl
 generalize w.alloc _ = w1 at *
 obtain ⟨a2, g2, z2⟩ := alloc_row (w := w1) #[.int .i64 1, .int .i64 2, .int .i64 1, .int .i64 1, .int .i64 0, .int .i64 2, .int .i64 3, .int .i64 1, .int .i64 1, .int .i64 0] 94 z1
 generalize w1.alloc _ = w2 at *
 obtain ⟨a3, g3, z3⟩ := alloc_row (w := w2) #[.slice (some ⟨w.heap.size, 0, none⟩) 3 3, .slice (some ⟨w.heap.size + 1, 0, none⟩) 2 2] 45 z2
 refine ⟨_, rfl, ?_⟩
 generalize w2.alloc _ = w3 at *
 exact ⟨a3, ⟨(rdf_rowT (xs := tbxR.flatMap rtC) (kept_row (kept_row a1 g2 (by simp)) g3 (by simp))).mono (fun _ _ => trivial), (rdf_rowT (xs := tbxL.flatMap lkC) (kept_row a2 g3 (by simp))).mono (fun _ _ => trivial), ⟨(by decide : 3 ≤ 3), (by decide : 3 ≤ 9223372036854775807)⟩, ⟨(by decide : 2 ≤ 2), (by decide : 2 ≤ 9223372036854775807)⟩⟩, grown_trans (grown_trans g1 g2) g3⟩
theorem tbx_ck (p : Option Addr) (c : Nat) : ckT 1 0 8 [⟨1, [3], p, c⟩] = 0 := by kernel_rfl
set_option maxHeartbeats 3200000 in
theorem awk11_any (w : World) : Calls Tryz.prog 21 #[] w fun e w' => e = .returned (.bool true) ∧ w.grownBy w' none := by
 obtain ⟨w3, h3, hb, hT, hg⟩ := tbx_start w
 have H3 := Lib.hid (And.intro hb (And.intro hT hg))
 clear hb hT hg
 go_enter Tryz.func21, Tryz.ntmps21
 go_upto_region 2 with fail
 rw [← h3]
 clear h3
 obtain ⟨t0, t1⟩ := row_cells H3.out.1
 have hb4 := alloc_row (w := w3) #[.int .i64 3, .int .i64 1] 71 rfl
 have H4 := Lib.hid (And.intro hb4.1 hb4.2.1)
 clear hb4
 go_wp2_with fail
 generalize w3.alloc _ = w4 at *
 generalize w3.heap.size = g4 at *
 refine (tBuild_any ⟨tbxR, tbxL, some ⟨w.heap.size, 0, none⟩, 3, some ⟨w.heap.size + 1, 0, none⟩, 2⟩ 0 8 1 tbxE (some ⟨g4, 0, none⟩) 1 _ _ w4 (H3.out.2.1.keep H4.out.2) (rdf_rowT (xs := tbxE.flatMap edC) H4.out.1) (by decide) (fun h => by cases h) (by show 3 ≤ 1000; decide) (fun _ => by show 3 ≤ 12; decide) (by show 2 ≤ 1000; decide) (fun _ => by unfold I64; omega)).mono ?_
 rintro e w5 ⟨r1, s1, n1, L, p, c, er, rfl, her, hown, hrows, hres, hg⟩
 simp only at her hres
 rw [tbx_bu] at her
 subst her
 obtain ⟨rfl, rfl, rfl, hM⟩ : r1 = 1 ∧ s1 = 0 ∧ n1 = 8 ∧ BldM tbxR tbxL 1 tbxE L := by
  rcases hres with h | h
  ·exact h.2
  ·exact absurd rfl h.1
 obtain ⟨x, rfl, hxi, hxn⟩ := tbx_bld hM
 obtain ⟨xi, xn, xp, xc⟩ := x
 simp only at hxi hxn
 subst hxi
 subst hxn
 have hx := hrows _ (List.mem_singleton.2 rfl)
 have hR : RdW w5 (fun _ => True) p c [⟨1, [3], xp, xc⟩] := ⟨(rdf_of_own2 hown).mono (fun _ _ => trivial), fun y hy => by
  rw [List.mem_singleton.1 hy]
  exact ⟨hx.1.mono (fun _ _ => trivial), hx.2.2⟩⟩
 obtain ⟨-, b, off, rfl, -, hc⟩ := rw_cells hR.rd (by show 0 < 1; decide)
 have a00 := hc 0 _ rfl
 have G5 := Lib.hid (grown_trans H3.out.2.2 (grown_trans H4.out.2 hg))
 have HR := Lib.hid hR
 have HA := Lib.hid a00
 clear hown hrows hres hg hM hx hR hc a00 t0 t1 H3 H4
 go_upto_region 3 with fail
 obtain ⟨k1, k2⟩ := tone_box w5 #[.int .i64 1, .int .i64 0, .int .i64 8, .slice (some ⟨b, off, none⟩) 1 c] 25
 have H6 := Lib.hid (And.intro k1 (And.intro (grown_trans G5.out k2) (HR.out.keep k2)))
 have a0 := k2.cell HA.out.1 (by simp)
 have a1 := k2.cell HA.out.2 (by simp)
 simp only [Nat.zero_mul, Nat.add_zero] at a0 a1
 clear k1 k2 HA HR G5
 obtain ⟨d0, d1, d2, d3⟩ := row4T H6.out.1
 generalize w5.alloc _ = w6 at *
 generalize w5.heap.size = B at *
 have hb7 := alloc_row (w := w6) #[.int .i64 3] 3 rfl
 have H7 := Lib.hid (And.intro hb7.1 hb7.2.1)
 clear hb7
 go_wp2_with fail
 refine (rintsG_any [3] [3] xp (some ⟨w6.heap.size, 0, none⟩) xc 1 _ _ _ ((H6.out.2.2.keep H7.out.2).ok _ (List.mem_singleton.2 rfl)).rd (rdf_rowT (xs := ([3] : List Int).map tv) H7.out.1) (by decide) (by decide)).mono ?_
 rintro e w7 ⟨rfl, hg⟩
 rw [show decide (([3] : List Int) = [3]) = true from rfl]
 have H8 := Lib.hid (And.intro (grown_trans H7.out.2 hg) (And.intro (kept_row H6.out.1 (grown_trans H7.out.2 hg) (by simp)) (H6.out.2.2.keep (grown_trans H7.out.2 hg))))
 clear hg H7 d0 d1 d2 d3 a0 a1
 obtain ⟨d0, d1, d2, d3⟩ := row4T H8.out.2.1
 go_wp2_with fail
 refine (tcheckT_any 1 0 8 (some ⟨b, off, none⟩) c [⟨1, [3], xp, xc⟩] _ w7 H8.out.2.2 (by show 1 ≤ 9223372036854775807; decide)).mono ?_
 rintro e w8 ⟨rfl, hg⟩
 rw [tbx_ck]
 have G := Lib.hid (grown_trans (grown_trans H6.out.2.1 H8.out.1) hg)
 clear hg d0 d1 d2 d3 H8 H6
 simp only
 go_wp2_with fail
 go_ret
 exact ⟨rfl, G.out⟩
end Go.Proofs.YtahafijpcmphaaaGreat

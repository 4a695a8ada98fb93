/- Parts of the proof, packed: TaFlS, TaFlW, TaFlH, TaFlP, MaPln, MaLay, MaSrt, MaAll, MaAwk, TaFlB, TaHpI. -/
import Derived.Test.YtahafijpcmphaaaGreatQt18
import Derived.Test.YtahafijpcmphaaaGreatQt6
import Derived.Test.YtahafijpcmphaaaGreatQt10
import Derived.Test.YtahafijpcmphaaaGreatQt2
import Derived.Test.YtahafijpcmphaaaGreatQt7
import Derived.Test.YtahafijpcmphaaaGreatQt4
import Derived.Deep.AppendLies
import Derived.Test.YtahafijpcmphaaaGreatQt5
import Derived.Test.YtahafijpcmphaaaGreatQt14
import Derived.Laws.StructEq
import Derived.Test.YtahafijpcmphaaaGreatQt11
/- tables: what the program's Hops keeps in memory. -/
namespace Go.Proofs.YtahafijpcmphaaaGreat
set_option maxRecDepth 100000
open Go.RowKit Bs
def ptB (b : Nat) : Value := .pointer (some ⟨b, 0, none⟩)
structure FJ (H : Nat) (W : World) (T : Tg) (z : Int) (v : Value) (st : List Int × List Int) (w : World) : Prop where
 bT : w.heap[H]? = some (.cells #[.slice T.pR T.R.length T.cR, .slice T.pL T.L.length T.cL] 45 (0, 0))
 bz : w.heap[H + 1]? = some (.cells #[.int .i64 z] 3 (0, 0))
 bh : w.heap[H + 2]? = some (.cells #[v] 22 (0, 0))
 bs : TRow w (H + 3) 102 (sn st.1)
 bf : w.heap[H + 4]? = some (.cells #[.func (.func 74) #[] #[ptB H, ptB (H + 1), ptB (H + 3), ptB (H + 2), ptB (H + 4)]] 103 (0, 0))
 t : TgOk w (· < H) T
 own : w.ownsRow (H + 5) 3 1 v st.2.length (st.2.map tv)
 gr : W.grownBy w none
 lo : W.heap.size ≤ H ∧ H + 5 ≤ w.heap.size
theorem FJ.keep {H : Nat} {W w w1 : World} {T : Tg} {z : Int} {v : Value} {st : List Int × List Int} (h : FJ H W T z v st w) (g : w.grownBy w1 none) : FJ H W T z v st w1 :=
 ⟨kept_row h.bT g (by simp), kept_row h.bz g (by simp), kept_row h.bh g (by simp), h.bs.kept g (by simp), kept_row h.bf g (by simp), h.t.keep g, own_keptN h.own g, grown_trans h.gr g, h.lo.1, Nat.le_trans h.lo.2 g.size⟩
theorem FJ.mark {H n : Nat} {W w : World} {T : Tg} {z : Int} {v : Value} {st : List Int × List Int} (h : FJ H W T z v st w) (hn : n < 100) : FJ H W T z v (st.1 ++ [(n : Int)], st.2) (w.setCell ⟨H + 3, n, none⟩ (.bool true)) ∧ JF (H + 1) w v (w.setCell ⟨H + 3, n, none⟩ (.bool true)) v := by
 have hl := h.lo
 have g : w.grownBy (w.setCell ⟨H + 3, n, none⟩ (.bool true)) (some (H + 3)) := grown_setCell _ _ _
 have hne : ∀ b, b ≠ H + 3 → some b ≠ some (H + 3) := fun b hb e => hb (Option.some.inj e)
 have hs := h.bs.set n (.bool true)
 rw [sn_snoc hn] at hs
 refine ⟨⟨kept_row h.bT g (hne _ (by omega)), kept_row h.bz g (hne _ (by omega)), kept_row h.bh g (hne _ (by omega)), hs, kept_row h.bf g (hne _ (by omega)), h.t.grown g (fun b hb => hne b (by omega)), own_otherL h.own g (by omega), grown_new h.gr g (by omega), hl.1, Nat.le_trans hl.2 g.size⟩, g.os, g.tape, g.output, g.size, fun b hb h1 h2 h3 => g.block b hb (hne b (by omega)), .inl rfl⟩
theorem FJ.push {H : Nat} {W w w1 : World} {T : Tg} {z y : Int} {v v' : Value} {st : List Int × List Int} (h : FJ H W T z v st w) (hown : w1.ownsRow (H + 5) 3 1 v' (st.2 ++ [y]).length ((st.2 ++ [y]).map tv)) (g : w.grownBy w1 v.ownBlock) (hv : v'.ownBlock = v.ownBlock ∨ ∃ b, v'.ownBlock = some b ∧ w.heap.size ≤ b) :
  w1.heap[H + 2]? = some (.cells #[v] 22 (0, 0)) ∧ FJ H W T z v' (st.1, st.2 ++ [y]) (w1.setCell ⟨H + 2, 0, none⟩ v') ∧ JF (H + 1) w v (w1.setCell ⟨H + 2, 0, none⟩ v') v' := by
 have hl := h.lo
 have hne : ∀ b, b < H + 5 → some b ≠ v.ownBlock := fun b hb e => by have := (h.own.lt b e.symm).1; omega
 have hB := kept_row h.bh g (hne _ (by omega))
 have g2 : w1.grownBy (w1.setCell ⟨H + 2, 0, none⟩ v') (some (H + 2)) := grown_setCell _ _ _
 have hn2 : ∀ b, b ≠ H + 2 → some b ≠ some (H + 2) := fun b hb e => hb (Option.some.inj e)
 refine ⟨hB, ⟨kept_row (kept_row h.bT g (hne _ (by omega))) g2 (hn2 _ (by omega)), kept_row (kept_row h.bz g (hne _ (by omega))) g2 (hn2 _ (by omega)), heap_setCell_same w1 (H + 2) 0 _ _ v' hB, (h.bs.kept g (hne _ (by omega))).kept g2 (hn2 _ (by omega)), kept_row (kept_row h.bf g (hne _ (by omega))) g2 (hn2 _ (by omega)), (h.t.grown g (fun b hb => hne b (by omega))).grown g2 (fun b hb => hn2 b (by omega)), own_otherL hown g2 (by omega), grown_new (grown_any h.gr g (fun b hb => hne b (by omega))) g2 (by omega), hl.1, Nat.le_trans (Nat.le_trans hl.2 g.size) g2.size⟩, g2.os.trans g.os, g2.tape.trans g.tape, g2.output.trans g.output, Nat.le_trans g.size g2.size, fun b hb h1 h2 h3 => (g2.block b (Nat.lt_of_lt_of_le hb g.size) (hn2 b (by omega))).trans (g.block b hb (fun e => h3 e.symm)), hv⟩
end Go.Proofs.YtahafijpcmphaaaGreat

/- tables: the closure of the program's Hops. -/
namespace Go.Proofs.YtahafijpcmphaaaGreat
set_option maxRecDepth 100000
open Go.RowKit Bs
theorem rdi_atF {w : World} {q : Nat → Prop} {p : Option Addr} {n c i : Nat} {x : Int} {X : List Int} (h : Rd w q (.slice p n c) (X.map tv)) (hi : X[i]? = some x) : ∃ b off, p = some ⟨b, off, none⟩ ∧ w.cell? ⟨b, off + i, none⟩ = some (.int .i64 x) := by
 obtain ⟨-, b, off, hp, -, hc⟩ := tvT_atH h hi
 exact ⟨b, off, hp, hc i x hi⟩
theorem hasI_memF {S : List Int} {x : Int} : hasI S x = true ↔ x ∈ S := by
 unfold hasI
 rw [List.any_eq_true]
 exact ⟨fun ⟨y, hy, e⟩ => (of_decide_eq_true e) ▸ hy, fun h => ⟨x, h, by simp⟩⟩
theorem fold_takeF {α β : Type} (f : β → α → β) {N : List α} {j : Nat} {y : α} (h : N[j]? = some y) (s : β) : (N.take (j + 1)).foldl f s = f ((N.take j).foldl f s) y := by
 rw [List.take_add_one, h, List.foldl_append]; rfl
set_option maxHeartbeats 6400000 in
theorem follow_any (H : Nat) (W : World) (T : Tg) (z : Int) (hp : T.pL = none → T.cL = 0) (hl1 : T.R.length ≤ 1000) (hl2 : T.L.length ≤ 1000) (hV : ∀ r, ∀ y ∈ nxt T.R T.L r z, y ∈ ids T.R ∧ 1 ≤ y ∧ y ≤ 99) :
  ∀ (f : Nat) (r : Int) (st : List Int × List Int) (v : Value) (w : World), FJ H W T z v st w → (okT T.R T.L = true → I64 r) → (∀ x ∈ st.1, x ∈ ids T.R) → st.1.Nodup → st.2.length ≤ st.1.length → (ids T.R).length < f + st.1.length →
  Calls Tryz.prog 74 #[.int .i64 r, ptB H, ptB (H + 1), ptB (H + 3), ptB (H + 2), ptB (H + 4)] w fun e w' => e = .returned (.tuple #[]) ∧ ∃ v', FJ H W T z v' (flw (fun a => nxt T.R T.L a z) (capV T.R T.L) f r st) w' ∧ JF (H + 1) w v w' v' := by
 intro f
 induction f with
 | zero =>
  intro r st v w h hr hs hn hh hl
  have := nodup_leH st.1 (ids T.R) hn hs
  omega
 | succ f ih =>
  intro r st v w h hr hs hn hh hl
  obtain ⟨i0, hi, hz0, hz1, hz2⟩ := info_parts info_int
  have e0 : EnterF (74) := enters_of Tryz.func74 (by kernel_rfl) rfl
  have IH := Lib.hid ih
  have HJ := Lib.hid h
  have HV := Lib.hid hV
  have HP := Lib.hid hp
  have HS0 := Lib.hid (And.intro hs (And.intro hn (And.intro hh hl)))
  obtain ⟨R, L, pR, cR, pL, cL⟩ := T
  simp only at HJ HV HP HS0 hl1 hl2 IH hr ⊢
  have HIR : Hid ((ids R).length = R.length) := Lib.hid (ids_len R)
  obtain ⟨t0, t1⟩ := row_cells HJ.out.bT
  have c1 : w.cell? ⟨H + 1, 0, none⟩ = some (.int .i64 z) := by rw [cell_of_row _ _ _ _ _ _ HJ.out.bz]; rfl
  clear ih h hs hn hh hl hV hp
  unfold ptB
  go_enter Tryz.func74, Tryz.ntmps74
  go_wp2_with fail
  refine (tnextW_any ⟨R, L, pR, cR, pL, cL⟩ r z _ w HJ.out.t hl1 hl2 HP.out hr).mono ?_
  rintro e w1 ⟨pN, cN, rfl, hrd, hcN, hpN, hg⟩
  have HR1 := Lib.hid (And.intro hrd hg)
  have HNV := Lib.hid (HV.out r)
  obtain ⟨N, hN⟩ : ∃ N, nxt R L r z = N := ⟨_, rfl⟩
  simp only at HR1 HNV ⊢
  rw [hN] at HR1 HNV
  have hNE := Lib.hid hN
  have hNl : N.length ≤ 9223372036854775807 := by rw [hN] at hcN; omega
  rw [hN]
  clear hrd hcN hpN hg hN t0 t1 c1
  have J0 : Hid (FJ H W ⟨R, L, pR, cR, pL, cL⟩ z v st w1 ∧ JF (H + 1) w1 v w1 v) := Lib.hid ⟨HJ.out.keep HR1.out.2, JF.refl _ _ _⟩
  go_wp2_with fail
  go_loopw [14] (fun a wr => ∃ (j : Nat) (st' : List Int × List Int) (v' : Value), j ≤ N.length ∧ a = .int .i64 (j : Int) ∧ Hid (FJ H W ⟨R, L, pR, cR, pL, cL⟩ z v' st' wr ∧ JF (H + 1) w1 v wr v') ∧ Hid (st' = (N.take j).foldl (flS (fun a => nxt R L a z) (capV R L) f) st ∧ (∀ x ∈ st'.1, x ∈ ids R) ∧ st'.1.Nodup ∧ st'.2.length ≤ st'.1.length ∧ (ids R).length < f + 1 + st'.1.length)) (fun a _ => N.length - (RowKit.intOf a).toNat)
  case atStart => exact ⟨0, st, v, Nat.zero_le _, rfl, J0, Lib.hid ⟨rfl, HS0.out.1, HS0.out.2.1, HS0.out.2.2.1, HS0.out.2.2.2⟩⟩
  case round =>
  obtain ⟨j, st', v', hj, rfl, J, HT⟩ := hrel
  clear J0
  obtain ⟨w2, hw2⟩ : ∃ w2, w2 = wr := ⟨_, rfl⟩
  rw [← hw2] at J ⊢
  clear hw2
  by_cases hlt : j < N.length
  case neg =>
   obtain rfl : j = N.length := by omega
   have hnl : ¬ (N.length : Int) < (N.length : Int) := by omega
   go_wp2_with fail
   have hT := HT.out.1
   rw [List.take_length] at hT
   refine bodyPost_end (results_none rfl _ _ _) rfl ⟨rfl, v', ?_, (JF.grown v HR1.out.2).trans J.out.2⟩
   rw [flw_succ]
   show FJ H W ⟨R, L, pR, cR, pL, cL⟩ z v' ((nxt R L r z).foldl (flS (fun a => nxt R L a z) (capV R L) f) st) w2
   rw [hNE.out, ← hT]
   exact J.out.1
  have hlt' : (j : Int) < (N.length : Int) := by omega
  have hj0 : (0 : Int) ≤ (j : Int) := by omega
  obtain ⟨y, hy⟩ : ∃ y, N[j]? = some y := ⟨_, List.getElem?_eq_getElem hlt⟩
  obtain ⟨hyV, hy1, hy2⟩ := HNV.out y (List.mem_of_getElem? hy)
  obtain ⟨m, rfl⟩ : ∃ m : Nat, y = (m : Int) := ⟨y.toNat, by omega⟩
  have hNr : Rd w2 (fun x => w.heap.size ≤ x) (.slice pN N.length cN) (N.map tv) := Rd.jf HR1.out.1 J.out.2 (fun b hb _ => by
   have := HJ.out.lo.2
   refine ⟨by omega, by omega, fun e => ?_⟩
   have := (HJ.out.own.lt b e).2
   omega)
  obtain ⟨b, off, rfl, a0⟩ := rdi_atF hNr hy
  have HY := Lib.hid hy
  have HYV := Lib.hid hyV
  have m2 : m < 100 := by omega
  have s0 := J.out.1.bs.cell (sn_at (S := st'.1) m2)
  have sf := J.out.1.bs.frozen m
  have i0' : (0 : Int) ≤ (m : Int) := by omega
  have i1' : (m : Int) < 100 := by omega
  clear hy hyV hNr
  cases hh : hasI st'.1 (m : Int)
  case true =>
   rw [hh] at s0
   have HM := Lib.hid (hasI_memF.1 hh)
   clear hh
   go_wp2_with fail
   refine ⟨⟨j + 1, st', v', by omega, congrArg _ (by omega), J, Lib.hid ⟨?_, HT.out.2⟩⟩, by simp only [RowKit.intOf]; omega⟩
   rw [fold_takeF _ HY.out, ← HT.out.1]
   unfold flS
   rw [if_pos HM.out]
  rw [hh] at s0
  have HM : Hid ((m : Int) ∉ st'.1) := Lib.hid (fun h => by rw [hasI_memF.2 h] at hh; cases hh)
  clear hh
  have HMK := Lib.hid (J.out.1.mark m2)
  go_upto_region 5 with fail
  clear s0 sf a0
  generalize w2.setCell _ _ = w3 at *
  obtain ⟨t0, t1⟩ := row_cells HMK.out.1.bT
  have HT2 : Hid ((∀ x ∈ st'.1 ++ [(m : Int)], x ∈ ids R) ∧ (st'.1 ++ [(m : Int)]).Nodup ∧ (ids R).length < f + (st'.1 ++ [(m : Int)]).length) := Lib.hid ⟨fun x hx => by
   rcases List.mem_append.1 hx with h | h
   ·exact HT.out.2.1 x h
   ·rw [List.mem_singleton.1 h]; exact HYV.out, List.nodup_append.2 ⟨HT.out.2.2.1, by simp, fun a ha b hb e => by rw [List.mem_singleton.1 hb] at e; subst e; exact HM.out ha⟩, by have := HT.out.2.2.2.2; rw [List.length_append]; show _ < f + (_ + 1); omega⟩
  go_wp2_with fail
  refine (tcap_any ⟨R, L, pR, cR, pL, cL⟩ (m : Int) _ w3 HMK.out.1.t (show R.length ≤ 1000000 by omega)).mono ?_
  rintro e w4 ⟨rfl, hg⟩
  have J4 := Lib.hid (And.intro (HMK.out.1.keep hg) (J.out.2.trans (HMK.out.2.trans (JF.grown v' hg))))
  clear hg HMK t0 t1
  simp only
  cases hcp : capV R L (m : Int)
  case false =>
   have HCP := Lib.hid hcp
   clear hcp
   have bf0 : w4.cell? ⟨H + 4, 0, none⟩ = some (.func (.func 74) #[] #[.pointer (some ⟨H, 0, none⟩), .pointer (some ⟨H + 1, 0, none⟩), .pointer (some ⟨H + 3, 0, none⟩), .pointer (some ⟨H + 2, 0, none⟩), .pointer (some ⟨H + 4, 0, none⟩)]) := by rw [cell_of_row _ _ _ _ _ _ J4.out.1.bf]; rfl
   have hcall := IH.out (m : Int) (st'.1 ++ [(m : Int)], st'.2) v' w4 J4.out.1 (fun _ => by unfold I64; omega) HT2.out.1 HT2.out.2.1 (by have := HT.out.2.2.2.1; simp only [List.length_append]; omega) HT2.out.2.2
   unfold ptB at hcall
   go_wp2_with fail
   refine hcall.mono ?_
   rintro e w5 ⟨rfl, v5, h5, k5⟩
   have H5 := Lib.hid (And.intro h5 (J4.out.2.trans k5))
   have hI := fl_inv (N := fun a => nxt R L a z) (cp := capV R L) (Q := (· ∈ ids R)) (fun y _ _ x hx => (HV.out y x hx).1) f (m : Int) (st'.1 ++ [(m : Int)], st'.2) (fun x hx => (HV.out (m : Int) x hx).1)
   have HIF := Lib.hid hI
   clear h5 k5 hcall J4 bf0 hI
   go_wp2_with fail
   refine ⟨⟨j + 1, _, v5, by omega, congrArg _ (by omega), H5, Lib.hid ⟨?_, ?_, HIF.out.nd HT2.out.2.1, ?_, ?_⟩⟩, by simp only [RowKit.intOf]; omega⟩
   ·rw [fold_takeF _ HY.out, ← HT.out.1]
    unfold flS
    rw [if_neg HM.out, if_neg (by rw [HCP.out]; decide)]
   ·exact fun x hx => (HIF.out.new x hx).elim (HT2.out.1 x) id
   ·exact fl_len f (m : Int) (st'.1 ++ [(m : Int)], st'.2) (by have := HT.out.2.2.2.1; simp only [List.length_append, List.length_singleton]; omega)
   ·have h6 : (st'.1 ++ [(m : Int)]).length ≤ _ := HIF.out.len
    have h7 := HT2.out.2.2
    omega
  case true =>
  have HCP := Lib.hid hcp
  clear hcp
  have hlen : st'.2.length ≤ 1000 := by
   have h1 := nodup_leH st'.1 (ids R) HT.out.2.2.1 HT.out.2.1
   have h2 := HIR.out
   have h3 := HT.out.2.2.2.1
   omega
  have bh0 : w4.cell? ⟨H + 2, 0, none⟩ = some v' := by rw [cell_of_row _ _ _ _ _ _ J4.out.1.bh]; rfl
  obtain ⟨pv, cv, rfl, -, -⟩ := own_shape J4.out.1.own
  have hlo := J4.out.1.lo
  go_wp2_with (at_builtin; refine hold_on ?_)
  refine Lib.hid ?_
  refine wpList_append_lies _ rfl _ _ 22 rfl (H + 5) 3 i0 (.int .i64 0) 1 8 Tryz.underlying22 hi hz0 hz1 hz2 rfl (by decide) (.slice pv st'.2.length cv) st'.2.length (st'.2.map tv) rfl (J4.out.1.own.alloc _) ⟨w4.heap.size, 0, none⟩ 1 1 [.int .i64 (m : Int)] rfl rfl (iv_rowH w4 (m : Int) _) (fun u hu => by rw [List.mem_singleton.1 hu]; rfl) (by decide) (by unfold maxLen; omega) (by omega) (by simp; omega) _ rfl ?_
  intro g cap w5 hown hgrow hat hlt5
  have ga := World.grownBy_alloc w4 (.cells #[.int .i64 (m : Int)] 3) none
  have hpu := (J4.out.1.keep ga).push (y := (m : Int)) (v' := .slice (some ⟨g, 0, none⟩) (st'.2.length + 1) cap) (by rw [List.length_append, List.map_append]; exact hown) hgrow (by
   rcases hat with h | h
   ·exact Or.inl h.symm
   ·exact Or.inr ⟨g, rfl, by rw [h]; exact Nat.le_refl _⟩)
  have bh5 : w5.cell? ⟨H + 2, 0, none⟩ = some (.slice pv st'.2.length cv) := by rw [cell_of_row _ _ _ _ _ _ hpu.1]; rfl
  have bf5 := frozen_of_row _ _ 0 _ _ hpu.1
  have H5 := Lib.hid (And.intro hpu.2.1 (J4.out.2.trans ((JF.grown _ ga).trans hpu.2.2)))
  clear hown hgrow hat hlt5 ga hpu bh0 J4
  go_wp2_with fail
  refine ⟨⟨j + 1, _, _, by omega, congrArg _ (by omega), H5, Lib.hid ⟨?_, HT2.out.1, HT2.out.2.1, ?_, ?_⟩⟩, by simp only [RowKit.intOf]; omega⟩
  ·rw [fold_takeF _ HY.out, ← HT.out.1]
   unfold flS
   rw [if_neg HM.out, if_pos HCP.out]
  ·have := HT.out.2.2.2.1
   simp only [List.length_append, List.length_singleton]
   omega
  ·have h7 := HT2.out.2.2
   show (ids R).length < f + 1 + (st'.1 ++ [(m : Int)]).length
   omega
end Go.Proofs.YtahafijpcmphaaaGreat

/- tables: the boxes of the program's Hops. -/

namespace Go.Proofs.YtahafijpcmphaaaGreat
set_option maxRecDepth 100000
open Go.RowKit Bs
def fnB (H : Nat) : Value := .func (.func 74) #[] #[ptB H, ptB (H + 1), ptB (H + 3), ptB (H + 2), ptB (H + 4)]
theorem zc_sn : Tryz.zeroCells102 = (sn []).toArray := by kernel_rfl
theorem fj_start {w : World} {T : Tg} {q : Nat → Prop} (z : Int) (hT : TgOk w q T) {H : Nat} (hH : w.heap.size = H) {wb : World} (hwb : wb = ((((w.alloc (.cells #[.slice T.pR T.R.length T.cR, .slice T.pL T.L.length T.cL] 45)).alloc (.cells #[.int .i64 z] 3)).alloc (.cells #[.slice none 0 0] 22)).alloc (.cells Tryz.zeroCells102 102)).alloc (.cells #[.nilFunc] 103)) :
  (wb.heap[H + 4]? = some (.cells #[.nilFunc] 103 (0, 0))) ∧ FJ H w T z (.slice none 0 0) ([], []) (wb.setCell ⟨H + 4, 0, none⟩ (fnB H)) := by
 subst hwb
 obtain ⟨a1, g1, z1⟩ := alloc_row (w := w) #[.slice T.pR T.R.length T.cR, .slice T.pL T.L.length T.cL] 45 hH
 generalize w.alloc _ = w1 at *
 obtain ⟨a2, g2, z2⟩ := alloc_row (w := w1) #[.int .i64 z] 3 z1
 generalize w1.alloc _ = w2 at *
 obtain ⟨a3, g3, z3⟩ := alloc_row (w := w2) #[.slice none 0 0] 22 z2
 generalize w2.alloc _ = w3 at *
 obtain ⟨a4, g4, z4⟩ := alloc_row (w := w3) Tryz.zeroCells102 102 z3
 generalize w3.alloc _ = w4 at *
 obtain ⟨a5, g5, z5⟩ := alloc_row (w := w4) #[.nilFunc] 103 z4
 generalize w4.alloc _ = w5 at *
 have g6 : w5.grownBy (w5.setCell ⟨H + 4, 0, none⟩ (fnB H)) (some (H + 4)) := grown_setCell _ _ _
 have hn : ∀ b, b ≠ H + 4 → some b ≠ some (H + 4) := fun b hb e => hb (Option.some.inj e)
 have g25 := grown_trans (grown_trans (grown_trans g2 g3) g4) g5
 have gg := grown_trans g1 g25
 have hbs : TRow w4 (H + 3) 102 (sn []) := by unfold TRow; rw [← zc_sn]; exact a4
 refine ⟨a5, kept_row (kept_row a1 g25 (by simp)) g6 (hn _ (by omega)), kept_row (kept_row a2 (grown_trans (grown_trans g3 g4) g5) (by simp)) g6 (hn _ (by omega)), kept_row (kept_row a3 (grown_trans g4 g5) (by simp)) g6 (hn _ (by omega)), (hbs.kept g5 (by simp)).kept g6 (hn _ (by omega)), heap_setCell_same w5 (H + 4) 0 _ _ (fnB H) a5, ((hT.old.keep gg).mono (fun b (hb : b < w.heap.size) => by omega)).grown g6 (fun b hb => hn b (by omega)), World.ownsRow_nil _ _ _ _, grown_new gg g6 (by omega), by omega, Nat.le_trans (by omega) g6.size⟩
end Go.Proofs.YtahafijpcmphaaaGreat

/- tables: the program's Hops. -/
namespace Go.Proofs.YtahafijpcmphaaaGreat
set_option maxRecDepth 100000
open Go.RowKit Bs
theorem toS_pw {d : List Int} (h : toS d d.length) : d.Pairwise (· ≤ ·) := by
 rw [List.pairwise_iff_getElem]
 intro i j hi hj hij
 have := h i j hij hj
 rw [List.getD_eq_getElem?_getD, List.getD_eq_getElem?_getD, List.getElem?_eq_getElem hi, List.getElem?_eq_getElem hj] at this
 exact this
set_option maxHeartbeats 3200000 in
theorem tinsN_any (w : World) : Calls Tryz.prog 125 #[.slice none 0 0, .int .i64 0, .int .i64 0] w fun e w' => e = .returned (.tuple #[]) ∧ w = w' := by
 go_enter Tryz.func125, Tryz.ntmps125
 go_wp2_with fail
 refine wp_loop_rounds 1 ?_
 rw [rounds_succ]
 go_wp2_with fail
 first | exact bodyPost_end (results_none rfl _ _ _) rfl ⟨rfl, rfl⟩ | exact bodyPost_ret (results_none rfl _ _ _) rfl ⟨rfl, rfl⟩
set_option maxHeartbeats 3200000 in
theorem tpdqN_any (k : Int) (w : World) : Calls Tryz.prog 106 #[.slice none 0 0, .int .i64 0, .int .i64 0, .int .i64 k] w fun e w' => e = .returned (.tuple #[]) ∧ w = w' := by
 go_enter Tryz.func106, Tryz.ntmps106
 go_wp2_with fail
 refine wp_loop_rounds 1 ?_
 rw [rounds_succ]
 go_wp2_with fail
 refine (tinsN_any w).mono ?_
 rintro e w' ⟨rfl, rfl⟩
 go_wp2_with fail
 first | exact bodyPost_end (results_none rfl _ _ _) rfl ⟨rfl, rfl⟩ | exact bodyPost_ret (results_none rfl _ _ _) rfl ⟨rfl, rfl⟩
set_option maxHeartbeats 3200000 in
theorem tsortN_any (w : World) : Calls Tryz.prog 76 #[.slice none 0 0] w fun e w' => e = .returned (.tuple #[]) ∧ w = w' := by
 go_enter Tryz.func76, Tryz.ntmps76
 go_wp2_with fail
 refine (tlen_any 0 (by omega) w).mono ?_
 rintro e w' ⟨k, rfl, rfl⟩
 go_wp2_with fail
 refine (tpdqN_any k w).mono ?_
 rintro e w' ⟨rfl, rfl⟩
 go_wp2_with fail
 first | exact bodyPost_end (results_none rfl _ _ _) rfl ⟨rfl, rfl⟩ | exact bodyPost_ret (results_none rfl _ _ _) rfl ⟨rfl, rfl⟩
def HopU (R : List Rt) (L : List Lk) (x z : Int) (M : List Int) : Prop := M.Nodup ∧ (∀ y ∈ M, y ∈ ids R) ∧ ∀ y, y ∈ M ↔ ∃ s, (∀ P : Int → Prop, P x → (∀ a b, P a → b ∈ nxt R L a z → capV R L b = false → P b) → P s) ∧ y ∈ nxt R L s z ∧ capV R L y = true
set_option maxHeartbeats 6400000 in
theorem thops0_any (T : Tg) (x z : Int) (q : Nat → Prop) (w : World) (hT : TgOk w q T) (hp : T.pL = none → T.cL = 0) (hl0 : T.R.length ≤ 1000) (hl1 : okT T.R T.L = true → T.R.length ≤ 12) (hl2 : T.L.length ≤ 1000) (hx : okT T.R T.L = true → I64 x) (hV : ∀ r, ∀ y ∈ nxt T.R T.L r z, y ∈ ids T.R ∧ 1 ≤ y ∧ y ≤ 99) :
  Calls Tryz.prog 31 #[.agg #[.slice T.pR T.R.length T.cR, .slice T.pL T.L.length T.cL], .int .i64 x, .int .i64 z] w fun e w' => ∃ (M : List Int) (p : Option Addr) (c : Nat), e = .returned (.slice p M.length c) ∧ Rd w' (w.heap.size ≤ ·) (.slice p M.length c) (M.map tv) ∧ (p = none → c = 0) ∧ (M.length ≤ c ∧ c ≤ 9223372036854775807) ∧ M.Pairwise (· < ·) ∧ HopU T.R T.L x z M ∧ w.grownBy w' none := by
 have e0 : EnterF (74) := enters_of Tryz.func74 (by kernel_rfl) rfl
 have hmf : ∀ (fn : Fn) (first cap : Array Value) (w : World), (Instr.makeFunc fn first cap).run Tryz.prog w = .ok (.func fn first cap) w := fun _ _ _ _ => rfl
 have hsf : ∀ (a : Addr) (fn : Fn) (first cap : Array Value) (m : Mode) (w : World), (store a (.func fn first cap) m).run Tryz.prog w = stored Tryz.prog w a (.func fn first cap) m := fun a fn first cap m w => run_store _ w a _ m rfl
 have HST := Lib.hid (fj_start z hT (H := w.heap.size) rfl rfl)
 have HU : Hid (HopU T.R T.L x z (flw (fun a => nxt T.R T.L a z) (capV T.R T.L) ((ids T.R).length + 1) x ([], [])).2) := Lib.hid (by
  obtain ⟨h1, h2⟩ := fl_hops (N := fun a => nxt T.R T.L a z) (cp := capV T.R T.L) (V := ids T.R) (fun r y hy => (hV r y hy).1) x (f := (ids T.R).length + 1) (Nat.lt_succ_self _)
  exact ⟨h1, fun y hy => by obtain ⟨s, -, hs, -⟩ := (h2 y).1 hy; exact (hV s y hs).1, h2⟩)
 have HFA := Lib.hid (follow_any w.heap.size w T z hp (by omega) hl2 hV ((ids T.R).length + 1) x ([], []))
 have HXI := Lib.hid (And.intro hx hl1)
 clear hT hp hx hV hl1
 go_enter Tryz.func31, Tryz.ntmps31
 go_upto_region 4 with fail
 generalize ((((w.alloc _).alloc _).alloc _).alloc _).alloc _ = wb at *
 obtain ⟨H, hH⟩ : ∃ H, w.heap.size = H := ⟨_, rfl⟩
 have HH := Lib.hid hH
 rw [hH] at HST HFA ⊢
 clear hH
 have n0 : wb.cell? ⟨H + 4, 0, none⟩ = some .nilFunc := by rw [cell_of_row _ _ _ _ _ _ HST.out.1]; rfl
 have f0 : wb.frozen? ⟨H + 4, 0, none⟩ = false := frozen_of_row _ _ _ _ _ HST.out.1
 have K := Lib.hid HST.out.2
 unfold fnB ptB at K
 clear HST
 rw [show H + 1 + 1 + 1 + 1 = H + 4 from rfl, show H + 1 + 1 + 1 = H + 3 from rfl, show H + 1 + 1 = H + 2 from rfl]
 go_upto_region 5 with fail
 clear n0 f0
 generalize wb.setCell _ _ = wc at *
 have bf0 : wc.cell? ⟨H + 4, 0, none⟩ = some (.func (.func 74) #[] #[.pointer (some ⟨H, 0, none⟩), .pointer (some ⟨H + 1, 0, none⟩), .pointer (some ⟨H + 3, 0, none⟩), .pointer (some ⟨H + 2, 0, none⟩), .pointer (some ⟨H + 4, 0, none⟩)]) := by rw [cell_of_row _ _ _ _ _ _ K.out.bf]; rfl
 have hcall := HFA.out (.slice none 0 0) wc K.out HXI.out.1 (fun y hy => (by cases hy)) List.nodup_nil (Nat.le_refl _) (by simp)
 unfold ptB at hcall
 go_wp2_with fail
 refine hcall.mono ?_
 rintro e w5 ⟨rfl, v5, h5, -⟩
 have K5 := Lib.hid h5
 clear h5 hcall bf0 K HFA
 have hul : (flw (fun a => nxt T.R T.L a z) (capV T.R T.L) ((ids T.R).length + 1) x ([], [])).2.length ≤ 12 := by
  by_cases hok : okT T.R T.L = true
  ·have h1 := nodup_leH _ (ids T.R) HU.out.1 HU.out.2.1
   have h2 := ids_len T.R
   have h3 := HXI.out.2 hok
   omega
  ·have h0 := List.eq_nil_iff_forall_not_mem.2 (fun y (hy : y ∈ (flw (fun a => nxt T.R T.L a z) (capV T.R T.L) ((ids T.R).length + 1) x ([], [])).2) => by
    obtain ⟨s, -, -, hc⟩ := (HU.out.2.2 y).1 hy
    unfold capV at hc
    rw [Bool.and_eq_true] at hc
    exact hok hc.1)
   rw [h0]
   exact Nat.zero_le _
 obtain ⟨ST, hST⟩ : ∃ ST, flw (fun a => nxt T.R T.L a z) (capV T.R T.L) ((ids T.R).length + 1) x ([], []) = ST := ⟨_, rfl⟩
 rw [hST] at hul HU K5
 clear hST HXI
 have bh0 : w5.cell? ⟨H + 2, 0, none⟩ = some v5 := by rw [cell_of_row _ _ _ _ _ _ K5.out.bh]; rfl
 have hlo := K5.out.lo
 rcases own_formF K5.out.own with ⟨rfl, h0⟩ | ⟨g, cap, rfl, hc1, hc2⟩
 ·have hnil : ST.2 = [] := List.eq_nil_of_length_eq_zero h0
  clear h0
  go_wp2_with fail
  refine (tsortN_any w5).mono ?_
  rintro e w6 ⟨rfl, rfl⟩
  go_wp2_with fail
  go_ret
  rw [hnil] at HU
  exact ⟨[], none, 0, rfl, ⟨none, 0, rfl, fun h => absurd rfl h⟩, fun _ => rfl, ⟨Nat.le_refl _, by show (0 : Nat) ≤ _; omega⟩, List.Pairwise.nil, HU.out, K5.out.gr⟩
 have hgl := (K5.out.own.lt g rfl)
 go_wp2_with fail
 refine (tsort_any (H + 5) g cap ST.2.length ST.2 w5 K5.out.own rfl hul).mono ?_
 rintro e w6 ⟨d, hd, rfl⟩
 have HD := Lib.hid hd.out
 have bh6 : w6.cell? ⟨H + 2, 0, none⟩ = some (.slice (some ⟨g, 0, none⟩) ST.2.length cap) := HD.out.1.gr.cell bh0 (by simp; omega)
 clear hd bh0
 go_wp2_with fail
 go_ret
 have hdl := HD.out.1.len
 have hpw : d.Pairwise (· ≤ ·) := toS_pw (by rw [hdl]; exact HD.out.2)
 have hnd : d.Nodup := HD.out.1.perm.nodup_iff.2 HU.out.1
 refine ⟨d, some ⟨g, 0, none⟩, cap, (by show Ending.returned (.slice (some ⟨g, 0, none⟩) ST.2.length cap) = _; rw [hdl]), ?_, fun h => (by cases h), by omega, ?_, ⟨hnd, fun y hy => HU.out.2.1 y (HD.out.1.perm.mem_iff.1 hy), fun y => HD.out.1.perm.mem_iff.trans (HU.out.2.2 y)⟩, grown_new K5.out.gr HD.out.1.gr (by omega)⟩
 ·have := (rd_of_own HD.out.1.own).mono (q' := (w.heap.size ≤ ·)) (fun b hb => by have := K5.out.lo.1; omega)
  rw [← hdl] at this
  exact this
 ·refine List.pairwise_iff_getElem.2 fun i j hi hj hij => ?_
  have h1 := List.pairwise_iff_getElem.1 hpw i j hi hj hij
  have h2 := List.pairwise_iff_getElem.1 hnd i j hi hj hij
  omega
end Go.Proofs.YtahafijpcmphaaaGreat

/- empty -/
namespace Go.Proofs.YtahafijpcmphaaaGreat
set_option maxRecDepth 100000
end Go.Proofs.YtahafijpcmphaaaGreat

/- empty -/
namespace Go.Proofs.YtahafijpcmphaaaGreat
set_option maxRecDepth 100000
end Go.Proofs.YtahafijpcmphaaaGreat

/- empty -/
namespace Go.Proofs.YtahafijpcmphaaaGreat
set_option maxRecDepth 100000
end Go.Proofs.YtahafijpcmphaaaGreat

/- empty -/
namespace Go.Proofs.YtahafijpcmphaaaGreat
set_option maxRecDepth 100000
end Go.Proofs.YtahafijpcmphaaaGreat

/- masks: the laws' example. -/
namespace Go.Proofs.YtahafijpcmphaaaGreat
set_option maxRecDepth 100000
open Go.RowKit Go.Maps Bs
theorem asc_same : ∀ {l m : List Int}, l.Pairwise (· < ·) → m.Pairwise (· < ·) → (∀ x, x ∈ l ↔ x ∈ m) → l = m
 | [], [], _, _, _ => rfl
 | [], b :: m, _, _, h => by have := (h b).2 (by simp); cases this
 | a :: l, [], _, _, h => by have := (h a).1 (by simp); cases this
 | a :: l, b :: m, hl, hm, h => by
  obtain ⟨h1, h2⟩ := List.pairwise_cons.1 hl
  obtain ⟨h3, h4⟩ := List.pairwise_cons.1 hm
  have e : a = b := by
   rcases List.mem_cons.1 ((h a).1 (by simp)) with e | e
   ·exact e
   ·rcases List.mem_cons.1 ((h b).2 (by simp)) with e2 | e2
    ·exact e2.symm
    ·have := h1 b e2; have := h3 a e; omega
  subst e
  refine congrArg _ (asc_same h2 h4 fun x => ⟨fun hx => ?_, fun hx => ?_⟩)
  ·rcases List.mem_cons.1 ((h x).1 (List.mem_cons_of_mem _ hx)) with e | e
   ·have := h1 x hx; omega
   ·exact e
  ·rcases List.mem_cons.1 ((h x).2 (List.mem_cons_of_mem _ hx)) with e | e
   ·have := h3 x hx; omega
   ·exact e
end Go.Proofs.YtahafijpcmphaaaGreat

/- tables: the program's Hops and the reference's give the same list. -/
namespace Go.Proofs.YtahafijpcmphaaaGreat
set_option maxRecDepth 100000
open Go.RowKit Bs
end Go.Proofs.YtahafijpcmphaaaGreat

/- tables: what the program's Hops gives, in the reference's words; both tables have the same rows. -/
namespace Go.Proofs.YtahafijpcmphaaaGreat
set_option maxRecDepth 100000
open Go.RowKit Bs
theorem nxt_hasT {R : List Rt} {L : List Lk} {r z u : Int} (h : u ∈ nxt R L r z) : hasV R L r = true ∧ hasV R L z = true ∧ r ≠ z := by
 obtain ⟨-, h2⟩ := nxt_near h
 obtain ⟨x, d, h3, h4, h5⟩ := nearB_iff.1 h2
 obtain ⟨h6, h7, h8⟩ := dst_both h4
 refine ⟨hasV_iff.2 ⟨h6, h7⟩, hasV_iff.2 ⟨h6, h8⟩, ?_⟩
 rintro rfl
 rw [dst_self (dst_some.1 h4).1] at h4
 have e := Option.some.inj h4
 have := (dst_bd h3).1
 omega
theorem nxt_rngT (R : List Rt) (L : List Lk) (z r : Int) : ∀ y ∈ nxt R L r z, y ∈ ids R ∧ 1 ≤ y ∧ y ≤ 99 := by
 intro y hy
 obtain ⟨h1, h2⟩ := nxt_near hy
 obtain ⟨x, d, h3, -, -⟩ := nearB_iff.1 h2
 exact ⟨h1, (dst_bd h3).2.1⟩
theorem hopU_hops {R : List Rt} {L : List Lk} {x z : Int} {M : List Int} (hU : HopU R L x z M) : HopsIs R L x z M := by
 unfold HopsIs
 by_cases hc : hasV R L x = true ∧ hasV R L z = true ∧ x ≠ z
 ·rw [if_pos hc]
  refine fun y => (hU.2.2 y).trans ?_
  unfold HopM HopC
  simp only [stV_nxt hc.2.1]
 ·rw [if_neg hc]
  refine List.eq_nil_iff_forall_not_mem.2 fun y hy => ?_
  obtain ⟨s, hs, h1, -⟩ := (hU.2.2 y).1 hy
  have hz : ∀ u, u ∉ nxt R L x z := fun u hu => hc (nxt_hasT hu)
  have e := hs (fun a => a = x) rfl (fun a b ha hb _ => by subst ha; exact absurd hb (hz b))
  subst e
  exact hz y h1
end Go.Proofs.YtahafijpcmphaaaGreat

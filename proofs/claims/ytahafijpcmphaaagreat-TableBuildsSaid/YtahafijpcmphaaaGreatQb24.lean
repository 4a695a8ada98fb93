/- Parts of the proof, packed: TaFlP, MaPln, MaLay, MaSrt, MaAll, MaAwk, TaFlB, TaHpI. -/
import Derived.Test.YtahafijpcmphaaaGreatQb23
import Derived.Test.YtahafijpcmphaaaGreatQb8
import Derived.Test.YtahafijpcmphaaaGreatQb19
import Derived.Deep.AppendLies
import Derived.Laws.StructEq
import Derived.Test.YtahafijpcmphaaaGreatQb13
import Derived.Test.YtahafijpcmphaaaGreatQb15
/- tables: the program's Hops. -/
namespace Go.Proofs.YtahafijpcmphaaaGreat
open Go.RowKit Bs
set_option maxRecDepth 100000 in
theorem toS_pw {d : List Int} (h : toS d d.length) : d.Pairwise (· ≤ ·) := by
  rw [List.pairwise_iff_getElem]
  intro i j hi hj hij
  have := h i j hij hj
  rw [List.getD_eq_getElem?_getD, List.getD_eq_getElem?_getD, List.getElem?_eq_getElem hi, List.getElem?_eq_getElem hj] at this
  exact this
set_option maxRecDepth 100000 in
set_option maxHeartbeats 3200000 in
theorem tinsN_any (w : World) : Calls Tryz.prog 125 #[.slice none 0 0, .int .i64 0, .int .i64 0] w fun e w' => e = .returned (.tuple #[]) ∧ w = w' := by
  go_enter Tryz.func125, Tryz.ntmps125
  go_wp2_with fail
  refine wp_loop_rounds 1 ?_
  rw [rounds_succ]
  go_wp2_with fail
  first | exact bodyPost_end (results_none rfl _ _ _) rfl ⟨rfl, rfl⟩ | exact bodyPost_ret (results_none rfl _ _ _) rfl ⟨rfl, rfl⟩
set_option maxRecDepth 100000 in
set_option maxHeartbeats 3200000 in
theorem tpdqN_any (k : Int) (w : World) : Calls Tryz.prog 106 #[.slice none 0 0, .int .i64 0, .int .i64 0, .int .i64 k] w fun e w' => e = .returned (.tuple #[]) ∧ w = w' := by
  go_enter Tryz.func106, Tryz.ntmps106
  go_wp2_with fail
  refine wp_loop_rounds 1 ?_
  rw [rounds_succ]
  go_wp2_with fail
  refine (tinsN_any w).mono ?_
  rintro e w' ⟨rfl, rfl⟩
  go_wp2_with fail
  first | exact bodyPost_end (results_none rfl _ _ _) rfl ⟨rfl, rfl⟩ | exact bodyPost_ret (results_none rfl _ _ _) rfl ⟨rfl, rfl⟩
set_option maxRecDepth 100000 in
set_option maxHeartbeats 3200000 in
theorem tsortN_any (w : World) : Calls Tryz.prog 76 #[.slice none 0 0] w fun e w' => e = .returned (.tuple #[]) ∧ w = w' := by
  go_enter Tryz.func76, Tryz.ntmps76
  go_wp2_with fail
  refine (tlen_any 0 (by omega) w).mono ?_
  rintro e w' ⟨k, rfl, rfl⟩
  go_wp2_with fail
  refine (tpdqN_any k w).mono ?_
  rintro e w' ⟨rfl, rfl⟩
  go_wp2_with fail
  first | exact bodyPost_end (results_none rfl _ _ _) rfl ⟨rfl, rfl⟩ | exact bodyPost_ret (results_none rfl _ _ _) rfl ⟨rfl, rfl⟩
/-- What the program's Hops gives before it sorts. -/
def HopU (R : List Rt) (L : List Lk) (x z : Int) (M : List Int) : Prop := M.Nodup ∧ (∀ y ∈ M, y ∈ ids R) ∧ ∀ y, y ∈ M ↔ ∃ s, (∀ P : Int → Prop, P x → (∀ a b, P a → b ∈ nxt R L a z → capV R L b = false → P b) → P s) ∧ y ∈ nxt R L s z ∧ capV R L y = true
set_option maxRecDepth 100000 in
set_option maxHeartbeats 6400000 in
theorem thops0_any (T : Tg) (x z : Int) (q : Nat → Prop) (w : World) (hT : TgOk w q T) (hp : T.pL = none → T.cL = 0) (hl0 : T.R.length ≤ 1000) (hl1 : okT T.R T.L = true → T.R.length ≤ 12) (hl2 : T.L.length ≤ 1000) (hx : okT T.R T.L = true → I64 x) (hV : ∀ r, ∀ y ∈ nxt T.R T.L r z, y ∈ ids T.R ∧ 1 ≤ y ∧ y ≤ 99) :
    Calls Tryz.prog 31 #[.agg #[.slice T.pR T.R.length T.cR, .slice T.pL T.L.length T.cL], .int .i64 x, .int .i64 z] w fun e w' => ∃ (M : List Int) (p : Option Addr) (c : Nat), e = .returned (.slice p M.length c) ∧ Rd w' (w.heap.size ≤ ·) (.slice p M.length c) (M.map tv) ∧ (p = none → c = 0) ∧ (M.length ≤ c ∧ c ≤ 9223372036854775807) ∧ M.Pairwise (· < ·) ∧ HopU T.R T.L x z M ∧ w.grownBy w' none := by
  have e0 : EnterF (74) := enters_of Tryz.func74 (by kernel_rfl) rfl
  have hmf : ∀ (fn : Fn) (first cap : Array Value) (w : World), (Instr.makeFunc fn first cap).run Tryz.prog w = .ok (.func fn first cap) w := fun _ _ _ _ => rfl
  have hsf : ∀ (a : Addr) (fn : Fn) (first cap : Array Value) (m : Mode) (w : World), (store a (.func fn first cap) m).run Tryz.prog w = stored Tryz.prog w a (.func fn first cap) m := fun a fn first cap m w => run_store _ w a _ m rfl
  have HST := Lib.hid (fj_start z hT (H := w.heap.size) rfl rfl)
  have HU : Hid (HopU T.R T.L x z (flw (fun a => nxt T.R T.L a z) (capV T.R T.L) ((ids T.R).length + 1) x ([], [])).2) := Lib.hid (by
    obtain ⟨h1, h2⟩ := fl_hops (N := fun a => nxt T.R T.L a z) (cp := capV T.R T.L) (V := ids T.R) (fun r y hy => (hV r y hy).1) x (f := (ids T.R).length + 1) (Nat.lt_succ_self _)
    exact ⟨h1, fun y hy => by obtain ⟨s, -, hs, -⟩ := (h2 y).1 hy; exact (hV s y hs).1, h2⟩)
  have HFA := Lib.hid (follow_any w.heap.size w T z hp (by omega) hl2 hV ((ids T.R).length + 1) x ([], []))
  have HXI := Lib.hid (And.intro hx hl1)
  clear hT hp hx hV hl1
  go_enter Tryz.func31, Tryz.ntmps31
  go_upto_region 4 with fail
  generalize ((((w.alloc _).alloc _).alloc _).alloc _).alloc _ = wb at *
  obtain ⟨H, hH⟩ : ∃ H, w.heap.size = H := ⟨_, rfl⟩
  have HH := Lib.hid hH
  rw [hH] at HST HFA ⊢
  clear hH
  have n0 : wb.cell? ⟨H + 4, 0, none⟩ = some .nilFunc := by rw [cell_of_row _ _ _ _ _ _ HST.out.1]; rfl
  have f0 : wb.frozen? ⟨H + 4, 0, none⟩ = false := frozen_of_row _ _ _ _ _ HST.out.1
  have K := Lib.hid HST.out.2
  unfold fnB ptB at K
  clear HST
  rw [show H + 1 + 1 + 1 + 1 = H + 4 from rfl, show H + 1 + 1 + 1 = H + 3 from rfl, show H + 1 + 1 = H + 2 from rfl]
  go_upto_region 5 with fail
  clear n0 f0
  generalize wb.setCell _ _ = wc at *
  have bf0 : wc.cell? ⟨H + 4, 0, none⟩ = some (.func (.func 74) #[] #[.pointer (some ⟨H, 0, none⟩), .pointer (some ⟨H + 1, 0, none⟩), .pointer (some ⟨H + 3, 0, none⟩), .pointer (some ⟨H + 2, 0, none⟩), .pointer (some ⟨H + 4, 0, none⟩)]) := by rw [cell_of_row _ _ _ _ _ _ K.out.bf]; rfl
  have hcall := HFA.out (.slice none 0 0) wc K.out HXI.out.1 (fun y hy => (by cases hy)) List.nodup_nil (Nat.le_refl _) (by simp)
  unfold ptB at hcall
  go_wp2_with fail
  refine hcall.mono ?_
  rintro e w5 ⟨rfl, v5, h5, -⟩
  have K5 := Lib.hid h5
  clear h5 hcall bf0 K HFA
  have hul : (flw (fun a => nxt T.R T.L a z) (capV T.R T.L) ((ids T.R).length + 1) x ([], [])).2.length ≤ 12 := by
    by_cases hok : okT T.R T.L = true
    · have h1 := nodup_leH _ (ids T.R) HU.out.1 HU.out.2.1
      have h2 := ids_len T.R
      have h3 := HXI.out.2 hok
      omega
    · have h0 := List.eq_nil_iff_forall_not_mem.2 (fun y (hy : y ∈ (flw (fun a => nxt T.R T.L a z) (capV T.R T.L) ((ids T.R).length + 1) x ([], [])).2) => by
        obtain ⟨s, -, -, hc⟩ := (HU.out.2.2 y).1 hy
        unfold capV at hc
        rw [Bool.and_eq_true] at hc
        exact hok hc.1)
      rw [h0]
      exact Nat.zero_le _
  obtain ⟨ST, hST⟩ : ∃ ST, flw (fun a => nxt T.R T.L a z) (capV T.R T.L) ((ids T.R).length + 1) x ([], []) = ST := ⟨_, rfl⟩
  rw [hST] at hul HU K5
  clear hST HXI
  have bh0 : w5.cell? ⟨H + 2, 0, none⟩ = some v5 := by rw [cell_of_row _ _ _ _ _ _ K5.out.bh]; rfl
  have hlo := K5.out.lo
  rcases own_formF K5.out.own with ⟨rfl, h0⟩ | ⟨g, cap, rfl, hc1, hc2⟩
  · have hnil : ST.2 = [] := List.eq_nil_of_length_eq_zero h0
    clear h0
    go_wp2_with fail
    refine (tsortN_any w5).mono ?_
    rintro e w6 ⟨rfl, rfl⟩
    go_wp2_with fail
    go_ret
    rw [hnil] at HU
    exact ⟨[], none, 0, rfl, ⟨none, 0, rfl, fun h => absurd rfl h⟩, fun _ => rfl, ⟨Nat.le_refl _, by show (0 : Nat) ≤ _; omega⟩, List.Pairwise.nil, HU.out, K5.out.gr⟩
  have hgl := (K5.out.own.lt g rfl)
  go_wp2_with fail
  refine (tsort_any (H + 5) g cap ST.2.length ST.2 w5 K5.out.own rfl hul).mono ?_
  rintro e w6 ⟨d, hd, rfl⟩
  have HD := Lib.hid hd.out
  have bh6 : w6.cell? ⟨H + 2, 0, none⟩ = some (.slice (some ⟨g, 0, none⟩) ST.2.length cap) := HD.out.1.gr.cell bh0 (by simp; omega)
  clear hd bh0
  go_wp2_with fail
  go_ret
  have hdl := HD.out.1.len
  have hpw : d.Pairwise (· ≤ ·) := toS_pw (by rw [hdl]; exact HD.out.2)
  have hnd : d.Nodup := HD.out.1.perm.nodup_iff.2 HU.out.1
  refine ⟨d, some ⟨g, 0, none⟩, cap, (by show Ending.returned (.slice (some ⟨g, 0, none⟩) ST.2.length cap) = _; rw [hdl]), ?_, fun h => (by cases h), by omega, ?_, ⟨hnd, fun y hy => HU.out.2.1 y (HD.out.1.perm.mem_iff.1 hy), fun y => HD.out.1.perm.mem_iff.trans (HU.out.2.2 y)⟩, grown_new K5.out.gr HD.out.1.gr (by omega)⟩
  · have := (rd_of_own HD.out.1.own).mono (q' := (w.heap.size ≤ ·)) (fun b hb => by have := K5.out.lo.1; omega)
    rw [← hdl] at this
    exact this
  · refine List.pairwise_iff_getElem.2 fun i j hi hj hij => ?_
    have h1 := List.pairwise_iff_getElem.1 hpw i j hi hj hij
    have h2 := List.pairwise_iff_getElem.1 hnd i j hi hj hij
    omega
end Go.Proofs.YtahafijpcmphaaaGreat

/- empty -/
namespace Go.Proofs.YtahafijpcmphaaaGreat
end Go.Proofs.YtahafijpcmphaaaGreat

/- empty -/
namespace Go.Proofs.YtahafijpcmphaaaGreat
end Go.Proofs.YtahafijpcmphaaaGreat

/- empty -/
namespace Go.Proofs.YtahafijpcmphaaaGreat
end Go.Proofs.YtahafijpcmphaaaGreat

/- empty -/
namespace Go.Proofs.YtahafijpcmphaaaGreat
end Go.Proofs.YtahafijpcmphaaaGreat

/- masks: the laws' example. -/
namespace Go.Proofs.YtahafijpcmphaaaGreat
open Go.RowKit Go.Maps Bs
set_option maxRecDepth 100000 in
theorem asc_same : ∀ {l m : List Int}, l.Pairwise (· < ·) → m.Pairwise (· < ·) → (∀ x, x ∈ l ↔ x ∈ m) → l = m
  | [], [], _, _, _ => rfl
  | [], b :: m, _, _, h => by have := (h b).2 (by simp); cases this
  | a :: l, [], _, _, h => by have := (h a).1 (by simp); cases this
  | a :: l, b :: m, hl, hm, h => by
    obtain ⟨h1, h2⟩ := List.pairwise_cons.1 hl
    obtain ⟨h3, h4⟩ := List.pairwise_cons.1 hm
    have e : a = b := by
      rcases List.mem_cons.1 ((h a).1 (by simp)) with e | e
      · exact e
      · rcases List.mem_cons.1 ((h b).2 (by simp)) with e2 | e2
        · exact e2.symm
        · have := h1 b e2; have := h3 a e; omega
    subst e
    refine congrArg _ (asc_same h2 h4 fun x => ⟨fun hx => ?_, fun hx => ?_⟩)
    · rcases List.mem_cons.1 ((h x).1 (List.mem_cons_of_mem _ hx)) with e | e
      · have := h1 x hx; omega
      · exact e
    · rcases List.mem_cons.1 ((h x).2 (List.mem_cons_of_mem _ hx)) with e | e
      · have := h3 x hx; omega
      · exact e
end Go.Proofs.YtahafijpcmphaaaGreat

/- tables: the program's Hops and the reference's give the same list. -/
namespace Go.Proofs.YtahafijpcmphaaaGreat
open Go.RowKit Bs
end Go.Proofs.YtahafijpcmphaaaGreat

/- tables: what the program's Hops gives, in the reference's words; both tables have the same rows. -/
namespace Go.Proofs.YtahafijpcmphaaaGreat
open Go.RowKit Bs
set_option maxRecDepth 100000 in
theorem nxt_hasT {R : List Rt} {L : List Lk} {r z u : Int} (h : u ∈ nxt R L r z) : hasV R L r = true ∧ hasV R L z = true ∧ r ≠ z := by
  obtain ⟨-, h2⟩ := nxt_near h
  obtain ⟨x, d, h3, h4, h5⟩ := nearB_iff.1 h2
  obtain ⟨h6, h7, h8⟩ := dst_both h4
  refine ⟨hasV_iff.2 ⟨h6, h7⟩, hasV_iff.2 ⟨h6, h8⟩, ?_⟩
  rintro rfl
  rw [dst_self (dst_some.1 h4).1] at h4
  have e := Option.some.inj h4
  have := (dst_bd h3).1
  omega
set_option maxRecDepth 100000 in
theorem nxt_rngT (R : List Rt) (L : List Lk) (z r : Int) : ∀ y ∈ nxt R L r z, y ∈ ids R ∧ 1 ≤ y ∧ y ≤ 99 := by
  intro y hy
  obtain ⟨h1, h2⟩ := nxt_near hy
  obtain ⟨x, d, h3, -, -⟩ := nearB_iff.1 h2
  exact ⟨h1, (dst_bd h3).2.1⟩
set_option maxRecDepth 100000 in
/-- The program's list is what the reference asks for. -/
theorem hopU_hops {R : List Rt} {L : List Lk} {x z : Int} {M : List Int} (hU : HopU R L x z M) : HopsIs R L x z M := by
  unfold HopsIs
  by_cases hc : hasV R L x = true ∧ hasV R L z = true ∧ x ≠ z
  · rw [if_pos hc]
    refine fun y => (hU.2.2 y).trans ?_
    unfold HopM HopC
    simp only [stV_nxt hc.2.1]
  · rw [if_neg hc]
    refine List.eq_nil_iff_forall_not_mem.2 fun y hy => ?_
    obtain ⟨s, hs, h1, -⟩ := (hU.2.2 y).1 hy
    have hz : ∀ u, u ∉ nxt R L x z := fun u hu => hc (nxt_hasT hu)
    have e := hs (fun a => a = x) rfl (fun a b ha hb _ => by subst ha; exact absurd hb (hz b))
    subst e
    exact hz y h1
set_option maxRecDepth 100000 in
theorem hops_uniq {R : List Rt} {L : List Lk} {x z : Int} {M N : List Int} (hM : M.Pairwise (· < ·)) (hN : N.Pairwise (· < ·)) (h1 : HopsIs R L x z M) (h2 : HopsIs R L x z N) : M = N := by
  unfold HopsIs at h1 h2
  split at h1
  · rename_i hc
    rw [if_pos hc] at h2
    exact asc_same hM hN (fun y => (h1 y).trans (h2 y).symm)
  · rename_i hc
    rw [if_neg hc] at h2
    rw [h1, h2]
set_option maxRecDepth 100000 in
theorem nxB_uniq {R : List Rt} {L : List Lk} {x z : Int} {M N : List Int} (h1 : NxB R L x z M) (h2 : NxB R L x z N) : M = N := by
  unfold NxB at h1 h2
  split at h1
  · rename_i hc; rw [if_pos hc] at h2; rw [h1, h2]
  · rename_i hc
    rw [if_neg hc] at h2
    split at h1
    · rename_i hd; rw [if_pos hd] at h2; exact hops_uniq h1.1 h2.1 h1.2.2 h2.2.2
    · rename_i hd; rw [if_neg hd] at h2; rw [h1, h2]
set_option maxRecDepth 100000 in
theorem bldM_uniq {R : List Rt} {L0 : List Lk} {ro : Int} {E : List Ed} {A B : List Rw} (h1 : BldM R L0 ro E A) (h2 : BldM R L0 ro E B) : A.map rw0 = B.map rw0 := by
  refine List.ext_getElem? fun i => ?_
  rw [List.getElem?_map, List.getElem?_map]
  cases ha : A[i]? with
  | none =>
    have : B[i]? = none := by
      have := List.getElem?_eq_none_iff.1 ha
      exact List.getElem?_eq_none_iff.2 (by rw [h2.1, ← h1.1]; exact this)
    rw [this]
  | some a =>
    have hi := (List.getElem?_eq_some_iff.1 ha).1
    have hiB : i < B.length := by rw [h2.1, ← h1.1]; exact hi
    have hiE : i < E.length := by rw [← h1.1]; exact hi
    obtain ⟨b, hb⟩ : ∃ b, B[i]? = some b := ⟨_, List.getElem?_eq_getElem hiB⟩
    obtain ⟨e, he⟩ : ∃ e, E[i]? = some e := ⟨_, List.getElem?_eq_getElem hiE⟩
    rw [hb]
    obtain ⟨c1, c2⟩ := h1.2 i e a he ha
    obtain ⟨c3, c4⟩ := h2.2 i e b he hb
    have c5 := nxB_uniq c2 c4
    obtain ⟨a1, a2, a3, a4⟩ := a
    obtain ⟨b1, b2, b3, b4⟩ := b
    simp only at c1 c3 c5
    simp [rw0, c1, c3, c5]
end Go.Proofs.YtahafijpcmphaaaGreat

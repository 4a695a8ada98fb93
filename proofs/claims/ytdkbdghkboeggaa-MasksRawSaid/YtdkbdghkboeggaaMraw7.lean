/- Parts of the proof, packed: MaRPl. -/
import Derived.Test.YtdkbdghkboeggaaMraw3
import Derived.Test.YtdkbdghkboeggaaMraw6
import Derived.Deep.AppendLies
/- masks, the reference's functions: Planes. -/
namespace Go.Proofs.Ytdkbdghkboeggaa
open Go.RowKit Go.Maps Bs
set_option maxRecDepth 100000 in
theorem iv_row (w : World) (x : Int) (t : TypeId) : ∀ j u, [Value.int .i64 x][j]? = some u → (w.alloc (.cells #[.int .i64 x] t)).cell? ((⟨w.heap.size, 0, none⟩ : Addr).add j) = some u := by
  intro j u hu
  rw [add_plain]
  have hb := heap_alloc_new w (.cells #[.int .i64 x] t)
  rcases j with _ | j
  · cases hu; exact cell_of_row _ _ _ _ _ _ hb
  · simp at hu
/-- The numbers of the first k next hops. -/
def plK (n k : Nat) : List Int := (plL n 8).take k
set_option maxRecDepth 100000 in
theorem plK_next {n k : Nat} (h : k < n) : plK n (k + 1) = plK n k ++ [((plC n 8 k : Nat) : Int)] := by
  unfold plK
  rw [List.take_add_one, plL_at h]; rfl
set_option maxRecDepth 100000 in
theorem plK_len {n k : Nat} (h : k ≤ n) : (plK n k).length = k := by unfold plK; rw [List.length_take, plL_len]; omega
set_option maxRecDepth 100000 in
theorem plK_end (n : Nat) : plK n n = plL n 8 := by unfold plK; exact List.take_of_length_le (by rw [plL_len]; omega)
/-- While the numbers come. -/
structure PR (W : World) (C : Nat) (x : Rw) (v : Value) (M : List Int) (w : World) : Prop where
  bx : w.heap[W.heap.size]? = some (.cells #[.int .i64 x.id, .slice x.p x.nx.length x.c] 28 (0, 0))
  own : w.ownsRow C 3 1 v M.length (M.map tv)
  gr : W.grownBy w none
  lo : W.heap.size < C ∧ C ≤ w.heap.size
set_option maxRecDepth 100000 in
theorem PR.keep {W : World} {C : Nat} {x : Rw} {v : Value} {M : List Int} {w w1 : World} (h : PR W C x v M w) (g : w.grownBy w1 none) : PR W C x v M w1 :=
  ⟨kept_row h.bx g (by simp), h.own.kept g (by cases v.ownBlock <;> simp), grown_trans h.gr g, h.lo.1, Nat.le_trans h.lo.2 g.size⟩
set_option maxRecDepth 100000 in
theorem PR.put {W : World} {C : Nat} {x : Rw} {v v' : Value} {M M2 : List Int} {w w1 : World} (h : PR W C x v M w) (hown : w1.ownsRow C 3 1 v' M2.length (M2.map tv)) (g : w.grownBy w1 v.ownBlock) : PR W C x v' M2 w1 := by
  have hlo := h.lo
  have hne : ∀ b, b < C → some b ≠ v.ownBlock := fun b hb e => by have := (h.own.lt b e.symm).1; omega
  exact ⟨kept_row h.bx g (hne _ hlo.1), hown, grown_any h.gr g (fun b hb => hne b (by omega)), h.lo.1, Nat.le_trans h.lo.2 g.size⟩
set_option maxRecDepth 100000 in
set_option maxHeartbeats 6400000 in
theorem rplanes_any (x : Rw) (w : World) (hl : x.nx.length ≤ 100) :
    Calls Try.prog 11 #[.agg #[.int .i64 x.id, .slice x.p x.nx.length x.c]] w fun e w' => ∃ v, e = .returned v ∧ w'.ownsRow w.heap.size 3 1 v x.nx.length ((plL x.nx.length 8).map tv) ∧ w.grownBy w' none := by
  obtain ⟨ii, hii, hi0, hi1, hi2⟩ := info_parts info_int
  obtain ⟨k1, k2⟩ := tone_box w #[.int .i64 x.id, .slice x.p x.nx.length x.c] 28
  have H0 : Hid (PR w (w.alloc (.cells #[.int .i64 x.id, .slice x.p x.nx.length x.c] 28)).heap.size x (.slice none 0 0) (plK x.nx.length 0) _) := Lib.hid ⟨k1, World.ownsRow_nil _ _ _ _, k2, by simp, Nat.le_refl _⟩
  clear k1 k2
  go_enter Try.func11, Try.ntmps11
  go_upto_region 1 with fail
  generalize w.alloc _ = wa at *
  generalize wa.heap.size = C at *
  obtain ⟨n, hn⟩ : ∃ n, x.nx.length = n := ⟨_, rfl⟩
  have HN := Lib.hid hn
  rw [hn] at hl H0
  clear hn
  go_wp2_with fail
  go_loopw [3, 4] (fun vo a wr => ∃ (k : Nat) (po : Option Addr) (co : Nat), k ≤ n ∧ a = .int .i64 (k : Int) ∧ vo = .slice po (plK n k).length co ∧ Hid (PR w C x (.slice po (plK n k).length co) (plK n k) wr)) (fun _ a _ => n - (RowKit.intOf a).toNat)
  case atStart => exact ⟨0, none, 0, Nat.zero_le _, rfl, rfl, H0⟩
  case round =>
  clear H0
  obtain ⟨k, po, co, hk, rfl, rfl, A1⟩ := hrel
  obtain ⟨w6, hw6⟩ : ∃ w6, w6 = wr := ⟨_, rfl⟩
  rw [← hw6] at A1 ⊢
  clear hw6
  obtain ⟨d0, d1⟩ := rowR2 A1.out.bx
  rw [HN.out] at d1
  by_cases hlt : k < n
  case neg =>
    obtain rfl : k = n := by omega
    have hnl : ¬ (k : Int) < (k : Int) := by omega
    go_wp2_with fail
    go_ret
    have ho := A1.out.own
    rw [plK_end] at ho
    rw [plK_end, plL_len] at *
    rw [HN.out]
    exact ⟨_, rfl, ho.mono (Nat.le_of_lt A1.out.lo.1), A1.out.gr⟩
  case pos =>
  have hlt' : (k : Int) < (n : Int) := by omega
  go_wp2_with fail
  clear d0 d1
  go_loopw [5, 6] (fun u a wr => ∃ m : Nat, m ≤ 8 ∧ a = .int .i64 (m : Int) ∧ u = .int .i64 ((plC n m k : Nat) : Int) ∧ Hid (PR w C x (.slice po (plK n k).length co) (plK n k) wr)) (fun _ a _ => 8 - (RowKit.intOf a).toNat)
  case atStart => exact ⟨0, Nat.zero_le _, rfl, rfl, A1⟩
  case round =>
  clear A1
  obtain ⟨m, hm, rfl, rfl, A1⟩ := hrel
  obtain ⟨w7, hw7⟩ : ∃ w7, w7 = wr := ⟨_, rfl⟩
  rw [← hw7] at A1 ⊢
  clear hw7
  obtain ⟨d0, d1⟩ := rowR2 A1.out.bx
  rw [HN.out] at d1
  have hcl := plC_le n m k
  by_cases hm8 : m < 8
  case pos =>
    have hm8' : (m : Int) < 8 := by omega
    obtain ⟨j, hj⟩ : ∃ j, m % n = j := ⟨_, rfl⟩
    have hjl : j < n := by rw [← hj]; exact Nat.mod_lt _ (by omega)
    have r1 : ((m : Int)).tmod (n : Int) = (j : Int) := by rw [Int.tmod_eq_emod_of_nonneg (by omega), ← hj]; exact (Int.natCast_emod m n).symm
    have r1b : ((m : Int)) % (n : Int) = (j : Int) := by rw [← hj]; exact (Int.natCast_emod m n).symm
    have r2 : IntKind.i64.wrap (j : Int) = (j : Int) := IntWalk.i64_in _ (by omega)
    have r0 : (n : Int) ≠ 0 := by omega
    have HS := Lib.hid (plC_succ n m k)
    rw [hj] at HS
    clear hj
    by_cases hjk : j = k
    · have hjk' : ((j : Int) == (k : Int)) = true := beq_iff_eq.2 (by omega)
      have HE : Hid (plC n (m + 1) k = plC n m k + 1) := Lib.hid (by rw [HS.out, if_pos hjk])
      clear hjk HS
      generalize plC n m k = y at *
      go_wp2_with fail
      exact ⟨⟨m + 1, by omega, congrArg _ (by omega), by rw [HE.out]; exact congrArg _ (by omega), A1⟩, by simp only [RowKit.intOf]; omega⟩
    · have hjk' : ((j : Int) == (k : Int)) = false := beq_eq_false_iff_ne.2 (by omega)
      have HE : Hid (plC n (m + 1) k = plC n m k) := Lib.hid (by rw [HS.out, if_neg hjk]; omega)
      clear hjk HS
      generalize plC n m k = y at *
      go_wp2_with fail
      exact ⟨⟨m + 1, by omega, congrArg _ (by omega), by rw [HE.out], A1⟩, by simp only [RowKit.intOf]; omega⟩
  obtain rfl : m = 8 := by omega
  have HE : Hid (plK n (k + 1) = plK n k ++ [((plC n 8 k : Nat) : Int)]) := Lib.hid (plK_next hlt)
  have hMl : (plK n k).length ≤ 100 := by rw [plK_len hk]; omega
  obtain ⟨M, hM⟩ : ∃ M, plK n k = M := ⟨_, rfl⟩
  obtain ⟨M2, hM2⟩ : ∃ M2, plK n (k + 1) = M2 := ⟨_, rfl⟩
  generalize plC n 8 k = y at *
  rw [hM] at A1 HE hMl ⊢
  rw [hM2] at HE
  have HM2 := Lib.hid hM2
  have HO2 := Lib.hid A1.out.own
  have hsz : C ≤ w7.heap.size := A1.out.lo.2
  clear hM hM2 d0 d1
  go_wp2_with (at_builtin; refine hold_on ?_)
  refine Lib.hid ?_
  refine wpList_append_lies _ rfl _ _ 26 rfl C 3 ii (.int .i64 0) 1 8 Try.underlying26 hii hi0 hi1 hi2 rfl (by decide) (.slice po M.length co) M.length (M.map tv) rfl (HO2.out.alloc _) ⟨w7.heap.size, 0, none⟩ 1 1 [.int .i64 (y : Int)] rfl rfl (iv_row w7 y _) (ivF_one y) (by decide) (by unfold maxLen; omega) (by omega) (by simp; omega) _ rfl ?_
  intro g cap w8 hown hgrow hat hlt8
  have A2 := Lib.hid ((A1.out.keep (World.grownBy_alloc _ _ none)).put (M2 := M ++ [(y : Int)]) (by rw [List.length_append, List.map_append]; simpa [tv] using hown) hgrow)
  rw [← HE.out] at A2
  have HL : Hid (M.length + 1 = M2.length) := Lib.hid (by rw [HE.out, List.length_append]; rfl)
  rw [HL.out] at A2 ⊢
  clear hown hgrow hat hlt8 HO2 A1 hsz HL HE hMl
  go_wp2_with fail
  exact ⟨⟨k + 1, some ⟨g, 0, none⟩, cap, by omega, congrArg _ (by omega), by rw [HM2.out], by rw [HM2.out]; exact A2⟩, by simp only [RowKit.intOf]; omega⟩
end Go.Proofs.Ytdkbdghkboeggaa

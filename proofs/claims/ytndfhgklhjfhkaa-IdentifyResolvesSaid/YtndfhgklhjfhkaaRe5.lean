/- Parts of the proof, packed: IdRck, IdRcn, ToHasF, IdRrs, IdSam, IdReLaw. -/
import Derived.Test.YtndfhgklhjfhkaaRe3
import Derived.Deep.CutRange
import Derived.Test.YtndfhgklhjfhkaaRe2
import Derived.BigQuiet
import Derived.Test.YtndfhgklhjfhkaaRe4
import Derived.Deep.AppendLies
import Derived.Laws.StructEq
/- The reference's Check of claims. -/
namespace Go.Proofs.Ytndfhgklhjfhkaa
open Go.RowKit Bs
set_option maxRecDepth 100000 in
set_option maxHeartbeats 12800000 in
theorem ircheck_any (l : List Od) (p : Option Addr) (c : Nat) (q : Nat → Prop) (w : World) (hR : RdF w q (.slice p l.length c) l.length (l.flatMap odC)) (hm : l.length ≤ 9223372036854775807) :
    Calls Try.prog 16 #[.slice p l.length c] w fun e w' => e = .returned (.int .i64 (ckO l)) ∧ w.grownBy w' none := by
  have HR := Lib.hid hR
  clear hR
  go_enter Try.func16, Try.ntmps16
  by_cases h1 : 192 < l.length
  · have h1' : (192 : Int) < (l.length : Int) := by omega
    go_wp2_with fail
    go_ret
    exact ⟨by unfold ckO; rw [if_pos h1]; rfl, grown_refl _ _⟩
  have h1' : ¬ (192 : Int) < (l.length : Int) := by omega
  have G0 : Hid (w.grownBy w none) := Lib.hid (grown_refl _ _)
  go_wp2_with fail
  go_loopw [3] (fun a wr => ∃ k : Nat, k ≤ l.length ∧ a = .int .i64 (k : Int) ∧ Hid (w.grownBy wr none) ∧ Hid ((l.take k).any wrO = false)) (fun a _ => l.length - (RowKit.intOf a).toNat)
  case atStart => exact ⟨0, Nat.zero_le _, rfl, G0, Lib.hid rfl⟩
  case round =>
    obtain ⟨w2, rfl⟩ : ∃ w2, w2 = wr := ⟨_, rfl⟩
    obtain ⟨k, hk, rfl, G, HN⟩ := hrel
    clear G0
    by_cases hlt : k < l.length
    · obtain ⟨-, b, off, rfl, -, hc⟩ := od_cells (HR.out.keep G.out) (by omega)
      obtain ⟨x, hx⟩ : ∃ x, l[k]? = some x := ⟨_, List.getElem?_eq_getElem hlt⟩
      obtain ⟨a0, a1, a2, a3⟩ := hc k x hx
      have HX := Lib.hid hx
      have hbl := block_lt_of_cell a0
      have HB := Lib.hid (heap_alloc_new w2 (.cells #[.int .i64 x.s, .int .i64 x.i, .int .i64 x.l] 60))
      have HG := Lib.hid (World.grownBy_alloc w2 (.cells #[.int .i64 x.s, .int .i64 x.i, .int .i64 x.l] 60) none)
      have HA0 := Lib.hid a0
      clear hc hx
      go_upto_region 7 with fail
      clear a0 a1 a2 a3
      generalize w2.alloc _ = w3 at *
      have G1 := Lib.hid (grown_trans G.out HG.out)
      have d0 := HG.out.cell HA0.out (by simp)
      have e0 : w3.cell? ⟨w2.heap.size, 0, none⟩ = some (.int .i64 x.s) := cell_of_row _ _ _ _ _ _ HB.out
      have e1 : w3.cell? ⟨w2.heap.size, 1, none⟩ = some (.int .i64 x.i) := cell_of_row _ _ _ _ _ _ HB.out
      have e2 : w3.cell? ⟨w2.heap.size, 2, none⟩ = some (.int .i64 x.l) := cell_of_row _ _ _ _ _ _ HB.out
      have HT : Hid (wrO x = true → ckO l = 2) := Lib.hid (fun h => by unfold ckO; rw [if_neg h1, any_at HX.out h]; rfl)
      have HF : Hid (wrO x = false → (l.take (k + 1)).any wrO = false) := Lib.hid (fun h => any_take HN.out HX.out h)
      have HW : Hid (wrO x = !(inV x.r 1 99 && inV x.s 0 7 && inV x.i 1 256 && vl x.l)) := Lib.hid rfl
      obtain ⟨b1, h1⟩ : ∃ b, inV x.r 1 99 = b := ⟨_, rfl⟩
      obtain ⟨b2, h2⟩ : ∃ b, inV x.s 0 7 = b := ⟨_, rfl⟩
      obtain ⟨b3, h3⟩ : ∃ b, inV x.i 1 256 = b := ⟨_, rfl⟩
      obtain ⟨b4, h4⟩ : ∃ b, vl x.l = b := ⟨_, rfl⟩
      rw [h1, h2, h3, h4] at HW
      have H1 := Lib.hid h1
      have H2 := Lib.hid h2
      have H3 := Lib.hid h3
      have H4 := Lib.hid h4
      clear h1 h2 h3 h4 G HN HG HA0 HB
      cases b1
      case false =>
        go_wp2_with ((first | (go_at_call 50; first | with_reducible refine (rin10_lit x.r 1 99 _ H1.out _).mono ?_ | with_reducible refine (rin10_lit x.s 0 7 _ H2.out _).mono ?_ | with_reducible refine (rin10_lit x.i 1 256 _ H3.out _).mono ?_) | (go_at_call 51; refine (vlr10_lit _ _ H4.out _).mono ?_)); rintro e w' ⟨rfl, rfl⟩)
        go_ret
        rw [HT.out (by rw [HW.out]; rfl)]
        exact ⟨rfl, G1.out⟩
      cases b2
      case false =>
        go_wp2_with ((first | (go_at_call 50; first | with_reducible refine (rin10_lit x.r 1 99 _ H1.out _).mono ?_ | with_reducible refine (rin10_lit x.s 0 7 _ H2.out _).mono ?_ | with_reducible refine (rin10_lit x.i 1 256 _ H3.out _).mono ?_) | (go_at_call 51; refine (vlr10_lit _ _ H4.out _).mono ?_)); rintro e w' ⟨rfl, rfl⟩)
        go_ret
        rw [HT.out (by rw [HW.out]; rfl)]
        exact ⟨rfl, G1.out⟩
      cases b3
      case false =>
        go_wp2_with ((first | (go_at_call 50; first | with_reducible refine (rin10_lit x.r 1 99 _ H1.out _).mono ?_ | with_reducible refine (rin10_lit x.s 0 7 _ H2.out _).mono ?_ | with_reducible refine (rin10_lit x.i 1 256 _ H3.out _).mono ?_) | (go_at_call 51; refine (vlr10_lit _ _ H4.out _).mono ?_)); rintro e w' ⟨rfl, rfl⟩)
        go_ret
        rw [HT.out (by rw [HW.out]; rfl)]
        exact ⟨rfl, G1.out⟩
      cases b4
      case false =>
        go_wp2_with ((first | (go_at_call 50; first | with_reducible refine (rin10_lit x.r 1 99 _ H1.out _).mono ?_ | with_reducible refine (rin10_lit x.s 0 7 _ H2.out _).mono ?_ | with_reducible refine (rin10_lit x.i 1 256 _ H3.out _).mono ?_) | (go_at_call 51; refine (vlr10_lit _ _ H4.out _).mono ?_)); rintro e w' ⟨rfl, rfl⟩)
        go_ret
        rw [HT.out (by rw [HW.out]; rfl)]
        exact ⟨rfl, G1.out⟩
      go_wp2_with ((first | (go_at_call 50; first | with_reducible refine (rin10_lit x.r 1 99 _ H1.out _).mono ?_ | with_reducible refine (rin10_lit x.s 0 7 _ H2.out _).mono ?_ | with_reducible refine (rin10_lit x.i 1 256 _ H3.out _).mono ?_) | (go_at_call 51; refine (vlr10_lit _ _ H4.out _).mono ?_)); rintro e w' ⟨rfl, rfl⟩)
      exact ⟨⟨k + 1, by omega, congrArg _ (by omega), G1, Lib.hid (HF.out (by rw [HW.out]; rfl))⟩, by simp only [RowKit.intOf]; omega⟩
    · obtain rfl : k = l.length := by omega
      have HN2 : Hid (l.any wrO = false) := Lib.hid (any_end HN.out (Nat.le_refl _))
      clear HN
      go_wp2_with fail
      go_loopw [5] (fun a wr => ∃ k : Nat, 1 ≤ k ∧ (k ≤ l.length ∨ k = 1) ∧ a = .int .i64 (k : Int) ∧ Hid (w.grownBy wr none) ∧ Hid (∀ i x y, i + 1 < k → l[i]? = some x → l[i + 1]? = some y → ltO x y = true)) (fun a _ => l.length - (RowKit.intOf a).toNat)
      case atStart => exact ⟨1, by omega, Or.inr rfl, rfl, G, Lib.hid (fun i x y h => by omega)⟩
      case round =>
        clear G
        obtain ⟨w3, rfl⟩ : ∃ w3, w3 = wr := ⟨_, rfl⟩
        obtain ⟨k, hk1, hk, rfl, G, HN⟩ := hrel
        by_cases hlt : k < l.length
        · obtain ⟨j, rfl⟩ : ∃ j, k = j + 1 := ⟨k - 1, by omega⟩
          obtain ⟨-, b, off, rfl, hq, hc⟩ := od_cells (HR.out.keep G.out) (by omega)
          obtain ⟨x, hx⟩ : ∃ x, l[j]? = some x := ⟨_, List.getElem?_eq_getElem (by omega)⟩
          obtain ⟨y, hy⟩ : ∃ y, l[j + 1]? = some y := ⟨_, List.getElem?_eq_getElem hlt⟩
          obtain ⟨a0, a1, a2, a3⟩ := hc j x hx
          obtain ⟨b0, b1, b2, b3⟩ := hc (j + 1) y hy
          have HXY := Lib.hid (And.intro hx hy)
          have ew1 : ((j : Int) + 1 - 1) = (j : Int) := by omega
          have ew2 : IntKind.i64.wrap ((j : Int) + 1 - 1) = (j : Int) := by rw [ew1, IntWalk.i64_in _ (by omega)]
          have ew3 : IntKind.i64.wrap (j : Int) = (j : Int) := IntWalk.i64_in _ (by omega)
          have j0 : (0 : Int) ≤ (j : Int) := by omega
          have j1 : (0 : Int) ≤ (j : Int) + 1 := by omega
          have j2 : (j : Int) < (l.length : Int) := by omega
          have j3 : (j : Int) + 1 < (l.length : Int) := by omega
          have j4 : ((j : Int) + 1).toNat = j + 1 := by omega
          have hbl := block_lt_of_cell a0
          clear hc hx hy
          have hcast : ((j + 1 : Nat) : Int) = (j : Int) + 1 := by omega
          rw [hcast]
          go_upto_region 12 with fail
          go_cut [6, 7] from 53 to 61 (fun u v wx => ∃ g1 g2 : Nat, u = .pointer (some ⟨g1, 0, none⟩) ∧ v = .pointer (some ⟨g2, 0, none⟩) ∧ Hid (wx.heap[g1]? = some (.cells #[.int .i64 x.r, .int .i64 x.s, .int .i64 x.i, .int .i64 x.l] 62 (0, 0)) ∧ wx.heap[g2]? = some (.cells #[.int .i64 y.r, .int .i64 y.s, .int .i64 y.i, .int .i64 y.l] 62 (0, 0)) ∧ w3.grownBy wx none))
          case first =>
            go_region
            · go_wp2_with fail
              go_meet
              obtain ⟨k1, k2, k3, k4⟩ := two_boxes w3 #[.int .i64 x.r, .int .i64 x.s, .int .i64 x.i, .int .i64 x.l] #[.int .i64 y.r, .int .i64 y.s, .int .i64 y.i, .int .i64 y.l] 62 62
              exact ⟨_, _, rfl, rfl, Lib.hid ⟨k1, k2, grown_drew k3⟩⟩
            · go_wp2_with fail
              go_meet
              obtain ⟨k1, k2, k3, k4⟩ := two_boxes w3 #[.int .i64 y.r, .int .i64 y.s, .int .i64 y.i, .int .i64 y.l] #[.int .i64 x.r, .int .i64 x.s, .int .i64 x.i, .int .i64 x.l] 62 62
              exact ⟨_, _, rfl, rfl, Lib.hid ⟨k2, k1, grown_drew k3⟩⟩
          case rest =>
          obtain ⟨g1, g2, rfl, rfl, HB⟩ := hcut
          clear a0 a1 a2 a3 b0 b1 b2 b3 hbl
          rename_i wx
          obtain ⟨d0, d1, d2, d3⟩ := row4i HB.out.1
          obtain ⟨e0, e1, e2, e3⟩ := row4i HB.out.2.1
          have G1 := Lib.hid (grown_trans G.out HB.out.2.2)
          have HT : Hid (ltO x y = false → ckO l = 25) := Lib.hid (fun h => by
            unfold ckO; rw [if_neg h1, HN2.out, ascO_hit HXY.out.1 HXY.out.2 h]; rfl)
          have HF : Hid (ltO x y = true → ∀ i x2 y2, i + 1 < j + 1 + 1 → l[i]? = some x2 → l[i + 1]? = some y2 → ltO x2 y2 = true) := Lib.hid (fun h i x2 y2 hi hx2 hy2 => by
            by_cases hij : i = j
            · subst hij
              have e1 := HXY.out.1.symm.trans hx2
              have e2 := HXY.out.2.symm.trans hy2
              injection e1 with e1
              injection e2 with e2
              subst e1
              subst e2
              exact h
            · exact HN.out i x2 y2 (by omega) hx2 hy2)
          clear HB G HN HXY
          by_cases q1 : y.r < x.r
          · go_wp2_with fail
            go_ret
            rw [HT.out (decide_eq_false (by omega))]
            exact ⟨rfl, G1.out⟩
          · by_cases q2 : x.r = y.r
            · have q2' : (x.r == y.r) = true := by simpa using q2
              by_cases q3 : y.s ≤ x.s
              · have H := Lib.hid (HT.out (decide_eq_false (by omega)))
                have Q2 := Lib.hid q2
                clear q2
                go_wp2_with fail
                go_ret
                rw [H.out]
                exact ⟨rfl, G1.out⟩
              · have H := Lib.hid (HF.out (decide_eq_true (by omega)))
                have Q2 := Lib.hid q2
                clear q2
                go_wp2_with fail
                exact ⟨⟨j + 1 + 1, by omega, Or.inl (by omega), congrArg _ (by omega), G1, H⟩, by simp only [RowKit.intOf]; omega⟩
            · have q2' : (x.r == y.r) = false := by simpa using q2
              have H := Lib.hid (HF.out (decide_eq_true (by omega)))
              clear q2
              go_wp2_with fail
              exact ⟨⟨j + 1 + 1, by omega, Or.inl (by omega), congrArg _ (by omega), G1, H⟩, by simp only [RowKit.intOf]; omega⟩
        · have h2 : ¬ (k : Int) < (l.length : Int) := by omega
          have H := Lib.hid (ascO_end fun i x y hi hx hy => HN.out i x y (by omega) hx hy)
          go_wp2_with fail
          go_ret
          refine ⟨?_, G.out⟩
          unfold ckO
          rw [if_neg h1, HN2.out, H.out]; rfl
end Go.Proofs.Ytndfhgklhjfhkaa

/- The reference's claimed, Conflicts, Length, Free. -/
namespace Go.Proofs.Ytndfhgklhjfhkaa
open Go.RowKit Bs
set_option maxRecDepth 100000 in
set_option maxHeartbeats 6400000 in
theorem irclm_any (l : List Od) (p : Option Addr) (c : Nat) (sub id : Int) (q : Nat → Prop) (w : World) (hR : RdF w q (.slice p l.length c) l.length (l.flatMap odC)) (hm : l.length ≤ 1000) :
    Calls Try.prog 62 #[.slice p l.length c, .int .i64 sub, .int .i64 id] w fun e w' => e = .returned (.int .i64 (cnt l sub id : Int)) ∧ w = w' := by
  have HR := Lib.hid hR
  clear hR
  go_enter Try.func62, Try.ntmps62
  go_wp2_with fail
  go_loopw [7, 8] (fun v a wr => ∃ k : Nat, k ≤ l.length ∧ a = .int .i64 (k : Int) ∧ (∃ n : Nat, n ≤ k ∧ v = .int .i64 (n : Int) ∧ Hid (cnt (l.take k) sub id = n)) ∧ wr = w) (fun _ a _ => l.length - (RowKit.intOf a).toNat)
  case atStart => exact ⟨0, by omega, rfl, ⟨0, Nat.le_refl _, rfl, Lib.hid rfl⟩, rfl⟩
  case round =>
    obtain ⟨k, hk, rfl, ⟨n, hnk, rfl, HN⟩, rfl⟩ := hrel
    by_cases hlt : k < l.length
    · obtain ⟨-, b, off, rfl, -, hc⟩ := od_cells HR.out (by omega)
      obtain ⟨x, hx⟩ : ∃ x, l[k]? = some x := ⟨_, List.getElem?_eq_getElem hlt⟩
      obtain ⟨a0, a1, a2, a3⟩ := hc k x hx
      have HS := Lib.hid (cnt_take hx sub id)
      clear hc hx
      by_cases h1 : x.s = sub
      · have h1' : (x.s == sub) = true := by simpa using h1
        by_cases h2 : x.i = id
        · have h2' : (x.i == id) = true := by simpa using h2
          have HE : Hid (cnt (l.take (k + 1)) sub id = n + 1) := Lib.hid (by rw [HS.out, HN.out, if_pos ⟨h1, h2⟩])
          clear h1 h2
          go_wp2_with fail
          exact ⟨⟨k + 1, by omega, congrArg _ (by omega), ⟨n + 1, by omega, congrArg _ (by omega), HE⟩, (by first | rfl | trivial)⟩, by simp only [RowKit.intOf]; omega⟩
        · have h2' : (x.i == id) = false := by simpa using h2
          have HE : Hid (cnt (l.take (k + 1)) sub id = n) := Lib.hid (by rw [HS.out, HN.out, if_neg (fun h => h2 h.2)]; rfl)
          clear h1 h2
          go_wp2_with fail
          exact ⟨⟨k + 1, by omega, congrArg _ (by omega), ⟨n, by omega, rfl, HE⟩, (by first | rfl | trivial)⟩, by simp only [RowKit.intOf]; omega⟩
      · have h1' : (x.s == sub) = false := by simpa using h1
        have HE : Hid (cnt (l.take (k + 1)) sub id = n) := Lib.hid (by rw [HS.out, HN.out, if_neg (fun h => h1 h.1)]; rfl)
        clear h1
        go_wp2_with fail
        exact ⟨⟨k + 1, by omega, congrArg _ (by omega), ⟨n, by omega, rfl, HE⟩, (by first | rfl | trivial)⟩, by simp only [RowKit.intOf]; omega⟩
    · obtain rfl : k = l.length := by omega
      have HE : Hid (cnt l sub id = n) := Lib.hid (by rw [← HN.out, List.take_length])
      go_wp2_with fail
      go_ret
      rw [HE.out]
      exact ⟨rfl, rfl⟩
end Go.Proofs.Ytndfhgklhjfhkaa

/- The reference's Has and Named; Same of equal topologies. -/
namespace Go.Proofs.Ytndfhgklhjfhkaa
open Go.RowKit Bs
set_option maxRecDepth 100000 in
set_option maxHeartbeats 1600000 in
theorem rhas4_any (X : List Int) (x : Int) (p : Option Addr) (c : Nat) (q : Nat → Prop) (w : World) (hR : Rd w q (.slice p X.length c) (X.map tv)) (hm : X.length ≤ 9223372036854775807) :
    Calls Try.prog 30 #[.slice p X.length c, .int .i64 x] w fun e w' => e = .returned (.bool (hasI X x)) ∧ w = w' := by
  have HR := Lib.hid hR
  have HN0 : Hid ((X.take 0).any (fun y => decide (y = x)) = false) := Lib.hid rfl
  clear hR
  go_enter Try.func30, Try.ntmps30
  go_wp2_with fail
  go_loopw [5] (fun a wr => ∃ k : Nat, k ≤ X.length ∧ a = .int .i64 (k : Int) ∧ Hid ((X.take k).any (fun y => decide (y = x)) = false) ∧ wr = w) (fun a _ => X.length - (RowKit.intOf a).toNat)
  case atStart => exact ⟨0, Nat.zero_le _, rfl, HN0, rfl⟩
  case round =>
    obtain ⟨k, hk, rfl, HN, rfl⟩ := hrel
    by_cases hlt : k < X.length
    · obtain ⟨-, b, off, rfl, -, hc⟩ := rdi_at HR.out (by omega)
      obtain ⟨y, hy⟩ : ∃ y, X[k]? = some y := ⟨_, List.getElem?_eq_getElem hlt⟩
      have d0 := hc k y hy
      have HY := Lib.hid hy
      clear hc hy HN0
      by_cases hyx : y = x
      · have HT : Hid (hasI X x = true) := Lib.hid (any_at HY.out (decide_eq_true hyx))
        subst hyx
        go_wp2_with fail
        go_ret
        rw [HT.out]
        exact ⟨rfl, rfl⟩
      · have HN2 := Lib.hid (any_take HN.out HY.out (decide_eq_false hyx))
        have h' : (y == x) = false := by simpa using hyx
        go_wp2_with fail
        exact ⟨⟨k + 1, by omega, congrArg _ (by omega), HN2, (by first | rfl | trivial)⟩, by simp only [RowKit.intOf]; omega⟩
    · have HT : Hid (hasI X x = false) := Lib.hid (any_end HN.out (by omega))
      obtain rfl : k = X.length := by omega
      go_wp2_with fail
      go_ret
      rw [HT.out]
      exact ⟨rfl, rfl⟩
end Go.Proofs.Ytndfhgklhjfhkaa

/- The reference's Resolve. -/
namespace Go.Proofs.Ytndfhgklhjfhkaa
open Go.RowKit Bs
def toZ (g : List Nat) : List Int := g.map (fun m : Nat => (m : Int))
set_option maxRecDepth 100000 in
theorem toZ_snoc (g : List Nat) (m : Nat) : toZ (g ++ [m]) = toZ g ++ [(m : Int)] := by unfold toZ; rw [List.map_append]; rfl
set_option maxRecDepth 100000 in
theorem toZ_len (g : List Nat) : (toZ g).length = g.length := List.length_map ..
set_option maxRecDepth 100000 in
theorem has_giv (g : List Nat) (m : Nat) : hasI (toZ g) (m : Int) = decide (0 < g.count m) := by
  unfold hasI toZ
  by_cases h : 0 < g.count m
  · rw [decide_eq_true h, List.any_eq_true]
    exact ⟨(m : Int), List.mem_map.2 ⟨m, List.count_pos_iff.1 h, rfl⟩, decide_eq_true rfl⟩
  · rw [decide_eq_false h, Bool.eq_false_iff]
    intro h2
    obtain ⟨x, hx, he⟩ := List.any_eq_true.1 h2
    obtain ⟨j, hj, rfl⟩ := List.mem_map.1 hx
    have : j = m := by have := of_decide_eq_true he; omega
    subst this
    exact h (List.count_pos_iff.2 hj)
/-- While the reference settles: the list, what was given. -/
structure RR (W : World) (l : List Od) (p : Option Addr) (c : Nat) (vo vg : Value) (out : List Od) (giv : List Nat) (w : World) : Prop where
  ow : w.ownsRow W.heap.size 62 4 vo out.length (out.flatMap odC)
  og : w.ownsRow W.heap.size 3 1 vg (toZ giv).length ((toZ giv).flatMap ivC)
  ap : ∀ g, vo.ownBlock = some g → vg.ownBlock ≠ some g
  rd : RdF w (· < W.heap.size) (.slice p l.length c) l.length (l.flatMap odC)
  gr : W.grownBy w none
section
variable {W w w1 : World} {l : List Od} {p : Option Addr} {c : Nat} {vo vg v' : Value} {out N : List Od} {giv : List Nat}
set_option maxRecDepth 100000 in
theorem RR.keep (h : RR W l p c vo vg out giv w) (g : w.grownBy w1 none) : RR W l p c vo vg out giv w1 :=
  ⟨h.ow.kept g (by cases vo.ownBlock <;> simp), h.og.kept g (by cases vg.ownBlock <;> simp), h.ap, h.rd.keep g, grown_trans h.gr g⟩
set_option maxRecDepth 100000 in
theorem RR.start (hR : RdF w (· < W.heap.size) (.slice p l.length c) l.length (l.flatMap odC)) (g : W.grownBy w none) : RR W l p c (.slice none 0 0) (.slice none 0 0) [] [] w :=
  ⟨World.ownsRow_nil _ _ _ _, World.ownsRow_nil _ _ _ _, fun g h => (by cases h), hR, g⟩
set_option maxRecDepth 100000 in
/-- A box of the call's own is written. -/
theorem RR.box {b : Nat} (h : RR W l p c vo vg out giv w) (g : w.grownBy w1 (some b)) (hb : W.heap.size ≤ b) (h1 : vo.ownBlock ≠ some b) (h2 : vg.ownBlock ≠ some b) : RR W l p c vo vg out giv w1 := by
  refine ⟨h.ow.kept g ?_, h.og.kept g ?_, h.ap, h.rd.grown g (fun x hx e => by have := Option.some.inj e; omega), grown_new h.gr g hb⟩
  · cases hv : vo.ownBlock with
    | none => exact .inl rfl
    | some x => exact .inr fun e => h1 (by rw [hv]; exact e)
  · cases hv : vg.ownBlock with
    | none => exact .inl rfl
    | some x => exact .inr fun e => h2 (by rw [hv]; exact e)
set_option maxRecDepth 100000 in
theorem RR.addG {o : Obj} {g cap n m : Nat} (h : RR W l p c vo vg out giv w) (hown : w1.ownsRow W.heap.size 3 1 (.slice (some ⟨g, 0, none⟩) n cap) (toZ (giv ++ [m])).length ((toZ (giv ++ [m])).flatMap ivC)) (hg : (w.alloc o).grownBy w1 vg.ownBlock) (hat : vg.ownBlock = some g ∨ g = (w.alloc o).heap.size) :
    RR W l p c vo (.slice (some ⟨g, 0, none⟩) n cap) out (giv ++ [m]) w1 := by
  have h1 := h.keep (World.grownBy_alloc w o none)
  have hne : ∀ x, vo.ownBlock = some x → vg.ownBlock ≠ some x := h.ap
  refine ⟨h1.ow.kept hg ?_, hown, fun x hx e => ?_, h1.rd.grown hg (fun b hb e => by have := (h.og.lt b e.symm).1; omega), grown_any h1.gr hg (fun b hb e => by have := (h.og.lt b e.symm).1; omega)⟩
  · cases hv : vo.ownBlock with
    | none => exact .inl rfl
    | some x => exact .inr fun e => hne x hv e.symm
  · have e2 : g = x := Option.some.inj e
    subst e2
    rcases hat with h3 | h3
    · exact hne g hx h3
    · have := (h1.ow.lt g hx).2
      omega
set_option maxRecDepth 100000 in
theorem RR.addO {o : Obj} {g cap n : Nat} (h : RR W l p c vo vg out giv w) (hown : w1.ownsRow W.heap.size 62 4 (.slice (some ⟨g, 0, none⟩) n cap) N.length (N.flatMap odC)) (hg : (w.alloc o).grownBy w1 vo.ownBlock) (hat : vo.ownBlock = some g ∨ g = (w.alloc o).heap.size) :
    RR W l p c (.slice (some ⟨g, 0, none⟩) n cap) vg N giv w1 := by
  have h1 := h.keep (World.grownBy_alloc w o none)
  refine ⟨hown, h1.og.kept hg ?_, fun x hx e => ?_, h1.rd.grown hg (fun b hb e => by have := (h.ow.lt b e.symm).1; omega), grown_any h1.gr hg (fun b hb e => by have := (h.ow.lt b e.symm).1; omega)⟩
  · cases hv : vg.ownBlock with
    | none => exact .inl rfl
    | some x => exact .inr fun e => h.ap x e.symm hv
  · have e2 : g = x := Option.some.inj hx
    subst e2
    rcases hat with h3 | h3
    · exact h.ap g h3 e
    · have := (h1.og.lt g e).2
      omega
end
set_option maxRecDepth 100000 in
theorem iv_cells (w : World) (z : Int) (t : TypeId) : ∀ j u, [Value.int .i64 z][j]? = some u → (w.alloc (.cells #[.int .i64 z] t)).cell? ((⟨w.heap.size, 0, none⟩ : Addr).add j) = some u := cell_one w _ t
set_option maxRecDepth 100000 in
theorem od_cellsN (w : World) (x : Od) (t : TypeId) : ∀ j u, (odC x)[j]? = some u → (w.alloc (.cells #[.int .i64 x.r, .int .i64 x.s, .int .i64 x.i, .int .i64 x.l] t)).cell? ((⟨w.heap.size, 0, none⟩ : Addr).add j) = some u := fun j u hu => od_row w x t j u (by simpa using hu)
set_option maxRecDepth 100000 in
set_option maxHeartbeats 25600000 in
theorem irres_any (l : List Od) (p : Option Addr) (c : Nat) (sub : Int) (q : Nat → Prop) (w : World) (hR : RdF w q (.slice p l.length c) l.length (l.flatMap odC)) (hm : l.length ≤ 9223372036854775807) :
    Calls Try.prog 32 #[.slice p l.length c, .int .i64 sub] w fun e w' => ResPost l sub w e w' := by
  obtain ⟨ii, hii, hn0, hn1, hn2⟩ := info_parts info_int
  obtain ⟨io, hio, ho0, ho1, ho2⟩ := info_parts info_od
  have HR := Lib.hid hR.old
  clear hR
  go_enter Try.func32, Try.ntmps32
  go_wp2_with fail
  refine (ircheck_any l p c _ w HR.out hm).mono ?_
  rintro e w1 ⟨rfl, hg⟩
  have G1 := Lib.hid hg
  clear hg
  by_cases h0 : ckO l = 0
  case neg =>
    have h0' : (ckO l != 0) = true := by simpa using h0
    have HX : Hid (rsX l sub = ckO l ∧ rsO l sub = []) := Lib.hid ⟨by unfold rsX; rw [if_pos h0], by unfold rsO; rw [if_pos h0]⟩
    clear h0
    go_wp2_with fail
    go_ret2
    exact res_no HX.out.1 HX.out.2 G1.out
  have H0 := Lib.hid h0
  have hl := (ck_any h0).1
  have E0 : Hid (RR w l p c (.slice none 0 0) (.slice none 0 0) [] [] w1) := Lib.hid (RR.start (HR.out.keep G1.out) G1.out)
  have R0 : Hid (rsv l sub 0 = some ([], [])) := Lib.hid rfl
  rw [h0]
  clear h0 G1
  go_wp2_with fail
  go_loopw [7, 8, 9] (fun v u a wr => ∃ (k : Nat) (out : List Od) (giv : List Nat) (po pg : Option Addr) (co cg : Nat), k ≤ l.length ∧ a = .int .i64 (k : Int) ∧ v = .slice po out.length co ∧ u = .slice pg (toZ giv).length cg ∧ Hid (rsv l sub k = some (out, giv)) ∧ Hid (RR w l p c (.slice po out.length co) (.slice pg (toZ giv).length cg) out giv wr)) (fun _ _ a _ => l.length - (RowKit.intOf a).toNat)
  case atStart => exact ⟨0, [], [], none, none, 0, 0, by omega, rfl, rfl, rfl, R0, E0⟩
  case round =>
  clear E0 R0
  obtain ⟨k, out, giv, po, pg, co, cg, hk, rfl, rfl, rfl, HRS, N⟩ := hrel
  by_cases hlt : k < l.length
  case neg =>
    obtain rfl : k = l.length := by omega
    have hol := (rsv_len hk HRS.out).1
    have HP : Hid (ResPost l sub w (.returned (.tuple #[.slice po out.length co, .int .i64 0])) wr) := Lib.hid (by
      have h1 : rsX l sub = 0 := by unfold rsX; rw [if_neg (fun h => h H0.out), HRS.out]; rfl
      have h2 : rsO l sub = out := by unfold rsO; rw [if_neg (fun h => h H0.out), HRS.out]; rfl
      exact ⟨po, co, by rw [h1, h2], by rw [h2]; exact N.out.ow, N.out.gr⟩)
    clear N hol
    go_wp2_with fail
    go_ret2
    exact HP.out
  have hlt' : (k : Int) < (l.length : Int) := by omega
  obtain ⟨w2, hw2⟩ : ∃ w2, w2 = wr := ⟨_, rfl⟩
  rw [← hw2] at N ⊢
  clear hw2
  obtain ⟨-, b, off, rfl, -, hcc⟩ := od_cells N.out.rd (by omega)
  obtain ⟨x, hx⟩ : ∃ x, l[k]? = some x := ⟨_, List.getElem?_eq_getElem hlt⟩
  obtain ⟨a0, a1, a2, a3⟩ := hcc k x hx
  have hol := (rsv_len hk HRS.out).1
  have hgl := (rsv_len hk HRS.out).2
  have HX := Lib.hid (And.intro hx (And.intro hol hgl))
  have HB := Lib.hid (heap_alloc_new w2 (.cells #[.int .i64 x.r, .int .i64 x.s, .int .i64 x.i, .int .i64 x.l] 62))
  have HG := Lib.hid (World.grownBy_alloc w2 (.cells #[.int .i64 x.r, .int .i64 x.s, .int .i64 x.i, .int .i64 x.l] 62) none)
  have HNB : Hid ((Value.slice po out.length co).ownBlock ≠ some w2.heap.size ∧ (Value.slice pg (toZ giv).length cg).ownBlock ≠ some w2.heap.size ∧ w.heap.size ≤ w2.heap.size) := Lib.hid ⟨fun e => by have := (N.out.ow.lt _ e).2; omega, fun e => by have := (N.out.og.lt _ e).2; omega, N.out.gr.size⟩
  clear hcc hx hol hgl
  go_upto_region 10 with fail
  clear a0 a1 a2 a3
  generalize w2.alloc _ = w3 at *
  generalize w2.heap.size = Bx at *
  have N1 : Hid (RR w l (some ⟨b, off, none⟩) c (.slice po out.length co) (.slice pg (toZ giv).length cg) out giv w3 ∧ w3.heap[Bx]? = some (.cells #[.int .i64 x.r, .int .i64 x.s, .int .i64 x.i, .int .i64 x.l] 62 (0, 0))) := Lib.hid ⟨N.out.keep HG.out, HB.out⟩
  clear N HG HB
  have HC0 : Hid (cnt (l.take 0) sub x.i = 0) := Lib.hid rfl
  go_wp2_with fail
  go_loopw [11, 12] (fun v a wz => ∃ (j n : Nat), j ≤ k ∧ n ≤ j ∧ a = .int .i64 (j : Int) ∧ v = .int .i64 (n : Int) ∧ Hid (cnt (l.take j) sub x.i = n) ∧ Hid (RR w l (some ⟨b, off, none⟩) c (.slice po out.length co) (.slice pg (toZ giv).length cg) out giv wz ∧ wz.heap[Bx]? = some (.cells #[.int .i64 x.r, .int .i64 x.s, .int .i64 x.i, .int .i64 x.l] 62 (0, 0)))) (fun _ a _ => k - (RowKit.intOf a).toNat)
  case atStart => exact ⟨0, 0, by omega, Nat.le_refl _, rfl, rfl, HC0, N1⟩
  case round =>
  clear N1 HC0
  obtain ⟨j, n, hj, hnj, rfl, rfl, HCN, N1⟩ := hrel
  obtain ⟨w4, hw4⟩ : ∃ w4, w4 = wr := ⟨_, rfl⟩
  rw [← hw4] at N1 ⊢
  clear hw4
  obtain ⟨d0, d1, d2, d3⟩ := row4i N1.out.2
  by_cases hjk : j < k
  case pos =>
    have hjk' : (j : Int) < (k : Int) := by omega
    obtain ⟨-, b', off', e1, -, hcc⟩ := od_cells N1.out.1.rd (by omega)
    injection e1 with e1
    injection e1 with e2 e3
    subst e2
    subst e3
    obtain ⟨y, hy⟩ : ∃ y, l[j]? = some y := ⟨_, List.getElem?_eq_getElem (by omega)⟩
    obtain ⟨a0, a1, a2, a3⟩ := hcc j y hy
    have HS := Lib.hid (cnt_take hy sub x.i)
    have hjl : (j : Int) < (l.length : Int) := by omega
    clear hcc hy
    by_cases h1 : y.s = sub
    · have h1' : (y.s == sub) = true := by simpa using h1
      by_cases h2 : y.i = x.i
      · have h2' : (y.i == x.i) = true := by simpa using h2
        have HE : Hid (cnt (l.take (j + 1)) sub x.i = n + 1) := Lib.hid (by rw [HS.out, HCN.out, if_pos ⟨h1, h2⟩])
        have N2 := Lib.hid (And.intro (N1.out.1.keep (grown_drew (grown_refl w4 none))) (kept_row N1.out.2 (grown_drew (grown_refl w4 none)) (by simp)))
        clear h1 h2 N1
        go_wp2_with fail
        go_region
        change Exit.then _ _ _ _ w4.drew
        generalize w4.drew = w5 at *
        go_wp2_with fail
        exact ⟨⟨j + 1, n + 1, by omega, by omega, congrArg _ (by omega), congrArg _ (by omega), HE, N2⟩, by simp only [RowKit.intOf]; omega⟩
      · have h2' : (y.i == x.i) = false := by simpa using h2
        have HE : Hid (cnt (l.take (j + 1)) sub x.i = n) := Lib.hid (by rw [HS.out, HCN.out, if_neg (fun h => h2 h.2)]; rfl)
        have N2 := Lib.hid (And.intro (N1.out.1.keep (grown_drew (grown_refl w4 none))) (kept_row N1.out.2 (grown_drew (grown_refl w4 none)) (by simp)))
        clear h1 h2 N1
        go_wp2_with fail
        go_region
        change Exit.then _ _ _ _ w4.drew
        generalize w4.drew = w5 at *
        go_wp2_with fail
        exact ⟨⟨j + 1, n, by omega, by omega, congrArg _ (by omega), rfl, HE, N2⟩, by simp only [RowKit.intOf]; omega⟩
    · have h1' : (y.s == sub) = false := by simpa using h1
      have HE : Hid (cnt (l.take (j + 1)) sub x.i = n) := Lib.hid (by rw [HS.out, HCN.out, if_neg (fun h => h1 h.1)]; rfl)
      have N2 := Lib.hid (And.intro (N1.out.1.keep (grown_drew (grown_refl w4 none))) (kept_row N1.out.2 (grown_drew (grown_refl w4 none)) (by simp)))
      clear h1 N1
      go_wp2_with fail
      go_region
      change Exit.then _ _ _ _ w4.drew
      generalize w4.drew = w5 at *
      go_wp2_with fail
      exact ⟨⟨j + 1, n, by omega, by omega, congrArg _ (by omega), rfl, HE, N2⟩, by simp only [RowKit.intOf]; omega⟩
  obtain rfl : k = j := by omega
  have hkk : ¬ (k : Int) < (k : Int) := by omega
  by_cases h1 : x.s = sub
  case neg =>
    have h1' : (x.s == sub) = false := by simpa using h1
    have NK : Hid (rsv l sub (k + 1) = some (out ++ [⟨x.r, x.s, x.i, x.l⟩], giv)) := Lib.hid (rsv_keep HRS.out HX.out.1 (decide_eq_false (fun h => h1 h.1)))
    have N2 := N1
    clear N1 h1 HNB
    have HO := Lib.hid N2.out.1.ow
    have hbs : w.heap.size ≤ w4.heap.size := N2.out.1.gr.size
    go_wp2_with (at_builtin; refine hold_on ?_)
    refine Lib.hid ?_
    refine wpList_append_lies _ rfl _ _ 23 rfl w.heap.size 62 io (.agg #[.int .i64 0, .int .i64 0, .int .i64 0, .int .i64 0]) 4 32 Try.underlying23 hio ho0 ho1 ho2 rfl (by decide) (.slice po out.length co) out.length (out.flatMap odC) rfl (HO.out.alloc _) ⟨w4.heap.size, 0, none⟩ 1 1 (odC ⟨x.r, x.s, x.i, x.l⟩) rfl rfl ?c1 ?c2 (by decide) ?c3 ?c4 ?c5 _ rfl ?_
    try (case c1 => exact od_cellsN _ ⟨x.r, x.s, x.i, x.l⟩ _)
    case c2 => exact od_one ⟨x.r, x.s, x.i, x.l⟩
    case c3 => (have := HX.out.2.1; unfold maxLen; omega)
    case c4 => (have := HX.out.2.1; omega)
    case c5 => first | omega | (simp; omega)
    intro g6 cap6 w6 hown6 hg6 hat6 hlt6
    have N3 := Lib.hid (N2.out.1.addO (N := out ++ [⟨x.r, x.s, x.i, x.l⟩]) (by rw [List.length_append, List.flatMap_append]; simpa [odC] using hown6) hg6 (hat6.imp id fun e => by rw [e]; try simp))
    have NL : (out ++ [(⟨x.r, x.s, x.i, x.l⟩ : Od)]).length = out.length + 1 := by simp
    clear hown6 hg6 hat6 hlt6 HO N2
    rw [show (Value.slice (some ⟨g6, 0, none⟩) (out.length + 1) cap6) = Value.slice (some ⟨g6, 0, none⟩) (out ++ [(⟨x.r, x.s, x.i, x.l⟩ : Od)]).length cap6 from by rw [NL]] at N3
    go_wp2_with fail
    exact ⟨⟨k + 1, out ++ [⟨x.r, x.s, x.i, x.l⟩], giv, _, pg, _, cg, by omega, congrArg _ (by omega), by rw [NL], rfl, NK, N3⟩, by simp only [RowKit.intOf]; omega⟩
  have h1' : (x.s == sub) = true := by simpa using h1
  by_cases hnz : n = 0
  case pos =>
    subst hnz
    have NK : Hid (rsv l sub (k + 1) = some (out ++ [⟨x.r, x.s, x.i, x.l⟩], giv)) := Lib.hid (rsv_keep HRS.out HX.out.1 (decide_eq_false (fun h => by have := h.2; rw [HCN.out] at this; omega)))
    have N2 := N1
    clear N1 h1 HNB
    have HO := Lib.hid N2.out.1.ow
    have hbs : w.heap.size ≤ w4.heap.size := N2.out.1.gr.size
    go_wp2_with (at_builtin; refine hold_on ?_)
    refine Lib.hid ?_
    refine wpList_append_lies _ rfl _ _ 23 rfl w.heap.size 62 io (.agg #[.int .i64 0, .int .i64 0, .int .i64 0, .int .i64 0]) 4 32 Try.underlying23 hio ho0 ho1 ho2 rfl (by decide) (.slice po out.length co) out.length (out.flatMap odC) rfl (HO.out.alloc _) ⟨w4.heap.size, 0, none⟩ 1 1 (odC ⟨x.r, x.s, x.i, x.l⟩) rfl rfl ?c1 ?c2 (by decide) ?c3 ?c4 ?c5 _ rfl ?_
    try (case c1 => exact od_cellsN _ ⟨x.r, x.s, x.i, x.l⟩ _)
    case c2 => exact od_one ⟨x.r, x.s, x.i, x.l⟩
    case c3 => (have := HX.out.2.1; unfold maxLen; omega)
    case c4 => (have := HX.out.2.1; omega)
    case c5 => first | omega | (simp; omega)
    intro g6 cap6 w6 hown6 hg6 hat6 hlt6
    have N3 := Lib.hid (N2.out.1.addO (N := out ++ [⟨x.r, x.s, x.i, x.l⟩]) (by rw [List.length_append, List.flatMap_append]; simpa [odC] using hown6) hg6 (hat6.imp id fun e => by rw [e]; try simp))
    have NL : (out ++ [(⟨x.r, x.s, x.i, x.l⟩ : Od)]).length = out.length + 1 := by simp
    clear hown6 hg6 hat6 hlt6 HO N2
    rw [show (Value.slice (some ⟨g6, 0, none⟩) (out.length + 1) cap6) = Value.slice (some ⟨g6, 0, none⟩) (out ++ [(⟨x.r, x.s, x.i, x.l⟩ : Od)]).length cap6 from by rw [NL]] at N3
    go_wp2_with fail
    exact ⟨⟨k + 1, out ++ [⟨x.r, x.s, x.i, x.l⟩], giv, _, pg, _, cg, by omega, congrArg _ (by omega), by rw [NL], rfl, NK, N3⟩, by simp only [RowKit.intOf]; omega⟩
  have hn0' : (0 : Int) < (n : Int) := by omega
  have HEL : Hid (erl l sub k x = true) := Lib.hid (decide_eq_true ⟨h1, by rw [HCN.out]; omega⟩)
  clear h1
  have HM0 : Hid (∀ i : Nat, 1 ≤ i → i < 1 → cgv l sub giv i ≠ 0) := Lib.hid (fun i h1 h2 => by omega)
  go_wp2_with fail
  go_loopw [13] (fun a wz => ∃ m : Nat, 1 ≤ m ∧ m ≤ 257 ∧ a = .int .i64 (m : Int) ∧ wz = w4 ∧ Hid (∀ i : Nat, 1 ≤ i → i < m → cgv l sub giv i ≠ 0)) (fun a _ => 257 - (RowKit.intOf a).toNat)
  case atStart => exact ⟨1, Nat.le_refl _, by omega, rfl, rfl, HM0⟩
  case round =>
  clear HM0
  obtain ⟨m, hm1, hm2, rfl, rfl, HM⟩ := hrel
  by_cases hm3 : m ≤ 256
  case neg =>
    obtain rfl : m = 257 := by omega
    have HX2 : Hid (rsX l sub = 9 ∧ rsO l sub = []) := Lib.hid (by
      have h9 := rsv_none_le (rsv_none HRS.out HX.out.1 HEL.out (frL_none (fun i q1 q2 => HM.out i q1 (by omega)))) (show k + 1 ≤ l.length by omega)
      unfold rsX rsO
      rw [if_neg (show ¬ ckO l ≠ 0 from fun h => h H0.out), if_neg (show ¬ ckO l ≠ 0 from fun h => h H0.out), h9]
      exact ⟨rfl, rfl⟩)
    have G9 := Lib.hid N1.out.1.gr
    go_wp2_with fail
    go_ret2
    exact res_no HX2.out.1 HX2.out.2 G9.out
  have hm3' : (m : Int) ≤ 256 := by omega
  obtain ⟨z, hz⟩ : ∃ z, cnt l sub m = z := ⟨_, rfl⟩
  have HZ := Lib.hid hz
  have cC : ∀ W : World, W = wr → Calls Try.prog 62 #[.slice (some ⟨b, off, none⟩) l.length c, .int .i64 sub, .int .i64 (m : Int)] W fun e w' => e = .returned (.int .i64 (z : Int)) ∧ W = w' := fun W hW => by subst hW; rw [← hz]; exact irclm_any l _ c sub m _ _ N1.out.1.rd (by omega)
  have CC := Lib.hid cC
  clear cC hz
  obtain ⟨hb, hhb⟩ : ∃ hb, hasI (toZ giv) (m : Int) = hb := ⟨_, rfl⟩
  have HHB := Lib.hid hhb
  have hgl := HX.out.2.2
  have cH : ∀ W : World, W = wr → Calls Try.prog 30 #[.slice pg (toZ giv).length cg, .int .i64 (m : Int)] W fun e w' => e = .returned (.bool hb) ∧ W = w' := fun W hW => by
    subst hW
    rw [← hhb]
    have h2 := N1.out.1.og
    rw [flat_iv] at h2
    exact rhas4_any (toZ giv) m pg cg _ _ (rd_of_own h2) (by rw [toZ_len]; omega)
  have CH := Lib.hid cH
  clear cH hhb hgl
  by_cases hz0 : 0 < z
  case pos =>
    have hz1 : (0 : Int) < (z : Int) := by omega
    have HM2 : Hid (∀ i : Nat, 1 ≤ i → i < m + 1 → cgv l sub giv i ≠ 0) := Lib.hid (fun i q1 q2 => by
      by_cases hi : i = m
      · subst hi; unfold cgv; rw [HZ.out]; omega
      · exact HM.out i q1 (by omega))
    go_wp2_with fail
    refine (CC.out _ rfl).mono ?_
    rintro e w' ⟨rfl, rfl⟩
    go_wp2_with fail
    exact ⟨⟨m + 1, by omega, by omega, congrArg _ (by omega), (by first | rfl | trivial), HM2⟩, by simp only [RowKit.intOf]; omega⟩
  have hz1 : ¬ (0 : Int) < (z : Int) := by omega
  cases hb with
  | true =>
    have HM2 : Hid (∀ i : Nat, 1 ≤ i → i < m + 1 → cgv l sub giv i ≠ 0) := Lib.hid (fun i q1 q2 => by
      by_cases hi : i = m
      · subst hi
        have h9 := HHB.out
        rw [has_giv] at h9
        have := of_decide_eq_true h9
        unfold cgv
        omega
      · exact HM.out i q1 (by omega))
    go_wp2_with fail
    refine (CC.out _ rfl).mono ?_
    rintro e w' ⟨rfl, rfl⟩
    go_wp2_with fail
    refine (CH.out _ rfl).mono ?_
    rintro e w' ⟨rfl, rfl⟩
    go_wp2_with fail
    exact ⟨⟨m + 1, by omega, by omega, congrArg _ (by omega), (by first | rfl | trivial), HM2⟩, by simp only [RowKit.intOf]; omega⟩
  | false =>
    have hfr : frL (cgv l sub giv) = some m := frL_some hm1 hm3 (by
      have h9 := HHB.out
      rw [has_giv] at h9
      have := of_decide_eq_false h9
      have := HZ.out
      unfold cgv
      omega) HM.out
    have NK : Hid (rsv l sub (k + 1) = some (out ++ [⟨x.r, x.s, (m : Int), x.l⟩], giv ++ [m])) := Lib.hid (rsv_new HRS.out HX.out.1 HEL.out hfr)
    have HOG := Lib.hid N1.out.1.og
    have hbs0 : w.heap.size ≤ wr.heap.size := N1.out.1.gr.size
    clear hfr HEL HM HZ HHB
    go_wp2_with fail
    refine (CC.out _ rfl).mono ?_
    rintro e w' ⟨rfl, rfl⟩
    go_wp2_with fail
    refine (CH.out _ rfl).mono ?_
    rintro e w' ⟨rfl, rfl⟩
    clear CC CH
    go_wp2_with (at_builtin; refine hold_on ?_)
    refine Lib.hid ?_
    refine wpList_append_lies _ rfl _ _ 22 rfl w.heap.size 3 ii (.int .i64 0) 1 8 Try.underlying22 hii hn0 hn1 hn2 rfl (by decide) (.slice pg (toZ giv).length cg) (toZ giv).length ((toZ giv).flatMap ivC) rfl (HOG.out.alloc _) ⟨wr.heap.size, 0, none⟩ 1 1 [.int .i64 (m : Int)] rfl rfl ?c1 ?c2 (by decide) ?c3 ?c4 ?c5 _ rfl ?_
    try (case c1 => exact iv_cells _ _ _)
    case c2 => intro u hu; simp at hu; subst hu; rfl
    case c3 => (have := HX.out.2.2; have := toZ_len giv; unfold maxLen; omega)
    case c4 => (have := HX.out.2.2; have := toZ_len giv; omega)
    case c5 => first | omega | (simp; omega)
    intro g5 cap5 w5 hown5 hg5 hat5 hlt5
    have hne : some Bx ≠ (Value.slice pg (toZ giv).length cg).ownBlock := fun e => HNB.out.2.1 e.symm
    have hk5 := kept_row (kept_row N1.out.2 (World.grownBy_alloc wr (.cells #[.int .i64 (m : Int)] 3) none) (by simp)) hg5 hne
    have hBx := (Array.getElem?_eq_some_iff.1 N1.out.2).1
    have htl : (toZ (giv ++ [m])).length = (toZ giv).length + 1 := by rw [toZ_len, toZ_len, List.length_append]; rfl
    have N5 := N1.out.1.addG (m := m) (by rw [htl, toZ_snoc, List.flatMap_append]; simpa [ivC] using hown5) hg5 (hat5.imp id fun e => by rw [e]; try simp)
    have hg5B : g5 ≠ Bx := fun e => by
      subst e
      rcases hat5 with h | h
      · exact HNB.out.2.1 h
      · have : g5 = wr.heap.size + 1 := by rw [h]; simp
        omega
    have h2B : (Value.slice po out.length co).ownBlock ≠ some Bx := HNB.out.1
    have hsB := heap_setCell_same w5 Bx 2 _ _ (.int .i64 (m : Int)) hk5
    have N6 := N5.box (grown_setCell w5 ⟨Bx, 2, none⟩ (.int .i64 (m : Int))) HNB.out.2.2 h2B (fun e => hg5B (Option.some.inj e))
    rw [show (Value.slice (some ⟨g5, 0, none⟩) ((toZ giv).length + 1) cap5) = Value.slice (some ⟨g5, 0, none⟩) (toZ (giv ++ [m])).length cap5 from by rw [htl]] at N6
    have N2 : Hid (RR w l (some ⟨b, off, none⟩) c (.slice po out.length co) (.slice (some ⟨g5, 0, none⟩) (toZ (giv ++ [m])).length cap5) out (giv ++ [m]) (w5.setCell ⟨Bx, 2, none⟩ (.int .i64 (m : Int))) ∧ (w5.setCell ⟨Bx, 2, none⟩ (.int .i64 (m : Int))).heap[Bx]? = some (.cells #[.int .i64 x.r, .int .i64 x.s, .int .i64 (m : Int), .int .i64 x.l] 62 (0, 0))) := Lib.hid ⟨N6, hsB⟩
    obtain ⟨f0, f1, f2, f3⟩ := row4i hk5
    have fz := frozen_of_row _ _ 2 _ _ hk5
    have HTL := Lib.hid htl
    clear hown5 hg5 hat5 hlt5 hne N5 N6 hsB h2B hg5B htl N1 HOG HNB d0 d1 d2 d3 hk5
    go_upto_region 24 with fail
    generalize w5.setCell _ _ = w7 at *
    clear f0 f1 f2 f3 fz
    obtain ⟨d0, d1, d2, d3⟩ := row4i N2.out.2
    rw [← HTL.out]
    have HO := Lib.hid N2.out.1.ow
    have hbs : w.heap.size ≤ w7.heap.size := N2.out.1.gr.size
    go_wp2_with (at_builtin; refine hold_on ?_)
    refine Lib.hid ?_
    refine wpList_append_lies _ rfl _ _ 23 rfl w.heap.size 62 io (.agg #[.int .i64 0, .int .i64 0, .int .i64 0, .int .i64 0]) 4 32 Try.underlying23 hio ho0 ho1 ho2 rfl (by decide) (.slice po out.length co) out.length (out.flatMap odC) rfl (HO.out.alloc _) ⟨w7.heap.size, 0, none⟩ 1 1 (odC ⟨x.r, x.s, (m : Int), x.l⟩) rfl rfl ?c1 ?c2 (by decide) ?c3 ?c4 ?c5 _ rfl ?_
    try (case c1 => exact od_cellsN _ ⟨x.r, x.s, (m : Int), x.l⟩ _)
    case c2 => exact od_one ⟨x.r, x.s, (m : Int), x.l⟩
    case c3 => (have := HX.out.2.1; unfold maxLen; omega)
    case c4 => (have := HX.out.2.1; omega)
    case c5 => first | omega | (simp; omega)
    intro g6 cap6 w6 hown6 hg6 hat6 hlt6
    have N3 := Lib.hid (N2.out.1.addO (N := out ++ [⟨x.r, x.s, (m : Int), x.l⟩]) (by rw [List.length_append, List.flatMap_append]; simpa [odC] using hown6) hg6 (hat6.imp id fun e => by rw [e]; try simp))
    have NL : (out ++ [(⟨x.r, x.s, (m : Int), x.l⟩ : Od)]).length = out.length + 1 := by simp
    clear hown6 hg6 hat6 hlt6 HO N2
    rw [show (Value.slice (some ⟨g6, 0, none⟩) (out.length + 1) cap6) = Value.slice (some ⟨g6, 0, none⟩) (out ++ [(⟨x.r, x.s, (m : Int), x.l⟩ : Od)]).length cap6 from by rw [NL]] at N3
    go_wp2_with fail
    exact ⟨⟨k + 1, out ++ [⟨x.r, x.s, (m : Int), x.l⟩], giv ++ [m], _, _, _, _, by omega, congrArg _ (by omega), by rw [NL], rfl, NK, N3⟩, by simp only [RowKit.intOf]; omega⟩
end Go.Proofs.Ytndfhgklhjfhkaa

/- The laws' same: lists of claims that are equal. -/
namespace Go.Proofs.Ytndfhgklhjfhkaa
open Go.RowKit Bs
set_option maxRecDepth 100000 in
set_option maxHeartbeats 3200000 in
theorem isame_any (l : List Od) (p1 p2 : Option Addr) (c1 c2 : Nat) (q1 q2 : Nat → Prop) (w : World) (h1 : RdF w q1 (.slice p1 l.length c1) l.length (l.flatMap odC)) (h2 : RdF w q2 (.slice p2 l.length c2) l.length (l.flatMap odC)) (hm : l.length ≤ 9223372036854775807) :
    Calls Try.prog 33 #[.slice p1 l.length c1, .slice p2 l.length c2] w fun e w' => e = .returned (.bool true) ∧ w.grownBy w' none := by
  have H := Lib.hid (And.intro h1 h2)
  clear h1 h2
  go_enter Try.func33, Try.ntmps33
  go_wp2_with fail
  go_loopw [5] (fun a wr => ∃ k : Nat, k ≤ l.length ∧ a = .int .i64 (k : Int) ∧ w.grownBy wr none) (fun a _ => l.length - (RowKit.intOf a).toNat)
  case atStart => exact ⟨0, Nat.zero_le _, rfl, grown_refl _ _⟩
  case round =>
    obtain ⟨k, hk, rfl, hG⟩ := hrel
    by_cases hlt : k < l.length
    · have hlt' : (k : Int) < (l.length : Int) := by omega
      obtain ⟨-, b1, o1, rfl, _, hc1⟩ := od_cells (H.out.1.keep hG) (by omega)
      obtain ⟨-, b2, o2, rfl, _, hc2⟩ := od_cells (H.out.2.keep hG) (by omega)
      obtain ⟨y, hy⟩ : ∃ y, l[k]? = some y := ⟨_, List.getElem?_eq_getElem hlt⟩
      obtain ⟨a0, a1, a2, a3⟩ := hc1 k y hy
      obtain ⟨e0, e1, e2, e3⟩ := hc2 k y hy
      clear hy
      have HG := Lib.hid hG
      clear hc1 hc2 hG
      go_wp2_with fail
      go_region
      have HG2 := Lib.hid (grown_drew HG.out)
      clear HG a0 a1 a2 a3 e0 e1 e2 e3
      change Exit.then _ _ _ _ wr.drew
      generalize wr.drew = w2 at *
      go_wp2_with fail
      exact ⟨⟨k + 1, by omega, congrArg _ (by omega), HG2.out⟩, by simp only [RowKit.intOf]; omega⟩
    · obtain rfl : k = l.length := by omega
      have HG := Lib.hid hG
      clear hG
      go_wp2_with fail
      go_ret
      exact ⟨rfl, HG.out⟩
end Go.Proofs.Ytndfhgklhjfhkaa

/- The law IdentifyResolves. -/
namespace Go.Proofs.Ytndfhgklhjfhkaa
open Go.RowKit Bs
/-- What a call that settles leaves. -/
def ResT (l : List Od) (sub : Int) (w : World) (e : Ending) (w' : World) : Prop :=
  ∃ p c, e = .returned (.tuple #[.slice p (rsO l sub).length c, .int .i64 (rsX l sub)]) ∧ RdF w' (fun _ => True) (.slice p (rsO l sub).length c) (rsO l sub).length ((rsO l sub).flatMap odC) ∧ w.grownBy w' none
set_option maxRecDepth 100000 in
theorem res_t {l : List Od} {sub : Int} {w : World} {e : Ending} {w' : World} (h : ResPost l sub w e w') : ResT l sub w e w' := by
  obtain ⟨p, c, rfl, ho, hg⟩ := h
  exact ⟨p, c, rfl, (rdf_of_own ho).mono (fun _ _ => trivial), hg⟩
set_option maxRecDepth 100000 in
theorem rsO_len {l : List Od} {sub : Int} : (rsO l sub).length ≤ l.length := by
  unfold rsO
  split
  · exact Nat.zero_le _
  · cases h : rsv l sub l.length with
    | none => exact Nat.zero_le _
    | some r =>
      obtain ⟨o, g⟩ := r
      exact Nat.le_of_eq (rsv_len (Nat.le_refl _) h).1
set_option maxRecDepth 100000 in
set_option maxHeartbeats 25600000 in
theorem resolves_walk (v : Value) (rl : List Od) (rp : Option Addr) (rc : Nat) (sub : Int) (w : World) (hv : IntsIn w v) (hR : RdF w (· < w.heap.size) (.slice rp rl.length rc) rl.length (rl.flatMap odC)) (hn : rp = none → rc = 0) (hc : rl.length ≤ rc ∧ rc ≤ 9223372036854775807) :
    Calls Try.prog 6 #[v, .slice rp rl.length rc, .int .i64 sub] w fun e w' => e = .returned (.bool true) ∧ w.grownBy w' none := by
  have HV := Lib.hid hv
  have HR := Lib.hid hR
  have HC := Lib.hid (And.intro hn hc)
  have hrm : rl.length ≤ 9223372036854775807 := Nat.le_trans hc.1 hc.2
  clear hv hR hn hc
  go_enter Try.func6, Try.ntmps6
  go_wp2_with fail
  refine (new_any v w HV.out).mono ?_
  rintro e w1 ⟨rfl, hg1, hT1⟩
  have H1 := Lib.hid (And.intro hg1 (And.intro hT1 (HR.out.keep hg1)))
  clear hg1 hT1 HV HR
  obtain ⟨a, ha⟩ : ∃ a, w.heap.size = a := ⟨_, rfl⟩
  have HA := Lib.hid ha
  rw [ha] at H1 ⊢
  clear ha
  go_wp2_with fail
  refine (tclaims_any a 7 6 (by omega) (by unfold I64; omega) _ H1.out.2.1).mono ?_
  rintro e w2 ⟨l, p, c, rfl, hll, -, ho, hs⟩
  obtain ⟨pp, cc, e2, hc1, hc2⟩ := own_shape ho
  injection e2 with e3 e4 e5
  subst e3
  subst e5
  have HL : Hid (LV l p c) := Lib.hid ⟨own_nlI ho, ⟨hc1, hc2⟩, by omega⟩
  have h2 := grown_new H1.out.1 hs.1 (by rw [HA.out]; exact Nat.le_refl _)
  have hla := H1.out.2.1.lt
  have r2 := H1.out.2.2.grown hs.1 (fun b hb e => by have := Option.some.inj e; omega)
  have r1 : RdF w2 (a < ·) (.slice p l.length c) l.length (l.flatMap odC) := (rdf_of_own ho).mono (fun b hb => by omega)
  obtain ⟨n1, n2⟩ := tone_box w2 #[.slice p l.length c, .slice rp rl.length rc] 23
  have H2 := Lib.hid (And.intro (grown_trans h2 n2) (And.intro (hs.2.keep n2) (And.intro n1 (And.intro (r1.keep n2) (And.intro (r2.keep n2) hs.2.lt)))))
  clear ho hs hc1 hc2 h2 r2 r1 n1 n2 H1 hll e4 hla
  go_wp2_with fail
  refine (range_any a 0 3 (by omega) (by omega) (by omega) (by omega) _ H2.out.2.1).mono ?_
  rintro e w3 ⟨s0, rfl, -, hs⟩
  obtain ⟨n1, n2⟩ := tone_box w3 #[.int .i64 s0, .int .i64 sub] 3
  have H3 : Hid (LW w a w2.heap.size w3.heap.size l rl p rp c rc s0 sub _) := Lib.hid ⟨kept_row (kept_row H2.out.2.2.1 hs.1 (fun e => by have := Option.some.inj e; have := H2.out.2.2.2.2.2; omega)) n2 (by simp), n1, ((H2.out.2.2.2.1.grown hs.1 (fun b hb e => by have := Option.some.inj e; omega)).mono (fun _ _ => trivial)).keep n2, ((H2.out.2.2.2.2.1.grown hs.1 (fun b hb e => by have := Option.some.inj e; omega)).mono (fun _ _ => trivial)).keep n2, grown_trans (grown_new H2.out.1 hs.1 (by rw [HA.out]; exact Nat.le_refl _)) n2⟩
  clear hs H2 n1 n2
  go_upto_region 4 with fail
  generalize w3.alloc _ = w4 at *
  generalize w2.heap.size = D at *
  generalize w3.heap.size = E at *
  clear HA
  by_cases hraw : rl.length ≤ 200
  case neg =>
    have hraw' : ¬ (rl.length : Int) ≤ 200 := by omega
    go_wp2_with fail
    go_loopw [10] (fun x wr => x = .int .i64 0 ∧ Hid (w.grownBy wr none)) (fun x _ => 0)
    case atStart => exact ⟨rfl, Lib.hid H3.out.gr⟩
    case round =>
    obtain ⟨rfl, G⟩ := hrel
    go_wp2_with fail
    refine (iawake_any wr).mono ?_
    rintro e w8 ⟨rfl, hg⟩
    have G2 := Lib.hid (grown_trans G.out hg)
    clear hg
    go_wp2_with fail
    go_ret
    exact ⟨rfl, G2.out⟩
  have hraw' : (rl.length : Int) ≤ 200 := by omega
  have HRL : Hid (LV rl rp rc) := Lib.hid ⟨HC.out.1, HC.out.2, hraw⟩
  clear HC hraw
  go_wp2_with fail
  go_loopw [10] (fun x wr => ∃ i : Nat, i ≤ 2 ∧ x = .int .i64 (i : Int) ∧ Hid (LW w a D E l rl p rp c rc s0 sub wr)) (fun x _ => 2 - (RowKit.intOf x).toNat)
  case atStart => exact ⟨0, by omega, rfl, H3⟩
  case round =>
  clear H3
  obtain ⟨i, hi, rfl, H4⟩ := hrel
  by_cases hi2 : i < 2
  case neg =>
    obtain rfl : i = 2 := by omega
    have G := Lib.hid H4.out.gr
    go_wp2_with fail
    refine (iawake_any wr).mono ?_
    rintro e w8 ⟨rfl, hg⟩
    have G2 := Lib.hid (grown_trans G.out hg)
    clear hg
    go_wp2_with fail
    go_ret
    exact ⟨rfl, G2.out⟩
  have hi2' : (i : Int) < 2 := by omega
  obtain ⟨w6, hw6⟩ : ∃ w6, w6 = wr := ⟨_, rfl⟩
  rw [← hw6] at H4 ⊢
  clear hw6
  obtain ⟨l1, p1, c1, hlv, cl, hrd⟩ := H4.out.list HL.out HRL.out hi2
  obtain ⟨s1, cs⟩ := H4.out.num hi2
  have hm1 := hlv.m
  have HF := Lib.hid (And.intro cl cs)
  have CF : Hid (∀ W, Hid (w6.grownBy W none) → Calls Try.prog 31 #[.slice p1 l1.length c1, .int .i64 s1] W fun e w' => ResT l1 s1 W e w') := Lib.hid (fun W hW => (ires_any l1 p1 c1 s1 _ W (hrd.keep hW.out) hlv.n hlv.c).mono fun _ _ h => res_t h)
  have CG : Hid (∀ W, Hid (w6.grownBy W none) → Calls Try.prog 32 #[.slice p1 l1.length c1, .int .i64 s1] W fun e w' => ResT l1 s1 W e w') := Lib.hid (fun W hW => (irres_any l1 p1 c1 s1 _ W (hrd.keep hW.out) (by omega)).mono fun _ _ h => res_t h)
  have HOL := Lib.hid (Nat.le_trans (rsO_len (l := l1) (sub := s1)) hlv.m)
  have GZ : Hid (w6.grownBy w6 none) := Lib.hid (grown_refl _ _)
  unfold ResT at CF CG
  obtain ⟨OX, hOX⟩ : ∃ z, rsX l1 s1 = z := ⟨_, rfl⟩
  obtain ⟨OL, hOL⟩ : ∃ z, rsO l1 s1 = z := ⟨_, rfl⟩
  rw [hOX, hOL] at CF CG
  rw [hOL] at HOL
  clear hOX hOL hrd hlv
  go_upto_region 7 with fail
  go_region_held3 (fun w' => w'.cell? ⟨D, i, none⟩ = some (.slice p1 l1.length c1) ∧ w'.cell? ⟨E, i, none⟩ = some (.int .i64 s1) ∧ Hid (w6.grownBy w' none))
    (first | with_reducible exact keep2v HF.out (hid_drew GZ) | (with_reducible exact keep2v HF.out (hid_drew (hid_more GZ hg))) | (go_split_ands; with_reducible refine keep2v HF.out ?_; with_reducible assumption) | (go_split_ands; with_reducible refine keep2v HF.out (hid_more ?_ hg); with_reducible assumption) | (go_split_ands; with_reducible refine keep2v HF.out (hid_more ?_ hg2); with_reducible assumption) | (go_split_ands; with_reducible refine keep2v HF.out (hid_more ?_ hg3); with_reducible assumption) | (go_split_ands; with_reducible refine keep2v HF.out (hid_more ?_ hg4); with_reducible assumption) | (go_split_ands; with_reducible refine keep2v HF.out (hid_more ?_ hg5); with_reducible assumption))
    ((go_at_call 31; go_split_ands; refine (CF.out _ ?_).mono ?_; assumption; rintro e w' ⟨q1, d1, rfl, hf1, hg⟩))
  all_goals
    go_split_ands
    clear GZ cl cs CF
    have HG1 := (by assumption : Hid (w6.grownBy _ none))
    have HF1 := Lib.hid (hf1.keep (grown_refl _ _))
    clear hf1
    obtain ⟨cl, cs, -⟩ := keep2v HF.out HG1
    go_upto_region 8 with fail
    go_region_held3 (fun w' => w'.cell? ⟨D, i, none⟩ = some (.slice p1 l1.length c1) ∧ w'.cell? ⟨E, i, none⟩ = some (.int .i64 s1) ∧ Hid (w6.grownBy w' none))
      (first | with_reducible exact keep2v HF.out (hid_drew HG1) | (with_reducible exact keep2v HF.out (hid_drew (hid_more HG1 hg))) | (go_split_ands; with_reducible refine keep2v HF.out ?_; with_reducible assumption) | (go_split_ands; with_reducible refine keep2v HF.out (hid_more ?_ hg); with_reducible assumption) | (go_split_ands; with_reducible refine keep2v HF.out (hid_more ?_ hg2); with_reducible assumption) | (go_split_ands; with_reducible refine keep2v HF.out (hid_more ?_ hg3); with_reducible assumption) | (go_split_ands; with_reducible refine keep2v HF.out (hid_more ?_ hg4); with_reducible assumption) | (go_split_ands; with_reducible refine keep2v HF.out (hid_more ?_ hg5); with_reducible assumption))
      ((go_at_call 32; go_split_ands; refine (CG.out _ ?_).mono ?_; assumption; rintro e w' ⟨q2, d2, rfl, hf2, hg2⟩))
    all_goals
      go_split_ands
      clear HG1 cl cs CG
      have HG2 := (by assumption : Hid (w6.grownBy _ none))
      have HR1 := Lib.hid (HF1.out.keep (grown_drew (grown_refl _ none)) |>.keep hg2)
      have HR2 := Lib.hid hf2
      clear hf2 HF1 hg2
      have H5 := Lib.hid (H4.out.keep HG2.out)
      clear HG2 H4
      go_wp2_with fail
      refine (isame_any OL _ _ _ _ _ _ _ HR1.out HR2.out (by have := HOL.out; omega)).mono ?_
      rintro e w9 ⟨rfl, hg⟩
      have H6 := Lib.hid (H5.out.keep hg)
      clear hg H5
      go_wp2_with fail
      exact ⟨⟨i + 1, by omega, congrArg _ (by omega), H6⟩, by simp only [RowKit.intOf]; omega⟩
end Go.Proofs.Ytndfhgklhjfhkaa

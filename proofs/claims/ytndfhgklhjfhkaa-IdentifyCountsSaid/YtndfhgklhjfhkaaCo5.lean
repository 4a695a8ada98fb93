/- Parts of the proof, packed: IdLwS, IdRck, IdRcn, IdCoLaw, IdOpn. -/
import Derived.Test.YtndfhgklhjfhkaaCo4
import Derived.Test.YtndfhgklhjfhkaaCo3
import Derived.Deep.CutRange
import Derived.Test.YtndfhgklhjfhkaaCo1
/- What the laws on claims hold in memory: the tape, two lists of claims, two numbers. -/
namespace Go.Proofs.Ytndfhgklhjfhkaa
open Go.RowKit Bs
set_option maxRecDepth 100000 in
theorem own_nlI {w : World} {base size n m c : Nat} {e : TypeId} {p : Option Addr} {xs : List Value} (h : w.ownsRow base e size (.slice p m c) n xs) : p = none → c = 0 := by
  rintro rfl
  rcases h.2 with ⟨e1, _⟩ | ⟨g', cap', cur, hv, _⟩
  · injection e1
  · cases hv
/-- The tape at a; the lists in D, the numbers in E. -/
structure LW (W : World) (a D E : Nat) (l0 l1 : List Od) (p0 p1 : Option Addr) (c0 c1 : Nat) (s0 s1 : Int) (w : World) : Prop where
  di : w.heap[D]? = some (.cells #[.slice p0 l0.length c0, .slice p1 l1.length c1] 23 (0, 0))
  ei : w.heap[E]? = some (.cells #[.int .i64 s0, .int .i64 s1] 3 (0, 0))
  r0 : RdF w (fun _ => True) (.slice p0 l0.length c0) l0.length (l0.flatMap odC)
  r1 : RdF w (fun _ => True) (.slice p1 l1.length c1) l1.length (l1.flatMap odC)
  gr : W.grownBy w none
/-- One of the lists, with where it lies. -/
structure LV (l : List Od) (p : Option Addr) (c : Nat) : Prop where
  n : p = none → c = 0
  c : l.length ≤ c ∧ c ≤ 9223372036854775807
  m : l.length ≤ 200
section
variable {W w w1 : World} {a D E : Nat} {l0 l1 : List Od} {p0 p1 : Option Addr} {c0 c1 : Nat} {s0 s1 : Int}
set_option maxRecDepth 100000 in
theorem LW.keep (h : LW W a D E l0 l1 p0 p1 c0 c1 s0 s1 w) (g : w.grownBy w1 none) : LW W a D E l0 l1 p0 p1 c0 c1 s0 s1 w1 := ⟨kept_row h.di g (by simp), kept_row h.ei g (by simp), h.r0.keep g, h.r1.keep g, grown_trans h.gr g⟩
set_option maxRecDepth 100000 in
theorem LW.list (h : LW W a D E l0 l1 p0 p1 c0 c1 s0 s1 w) (h0 : LV l0 p0 c0) (h1 : LV l1 p1 c1) {i : Nat} (hi : i < 2) :
    ∃ l p c, LV l p c ∧ w.cell? ⟨D, i, none⟩ = some (.slice p l.length c) ∧ RdF w (fun _ => True) (.slice p l.length c) l.length (l.flatMap odC) := by
  rcases i with _ | _ | i
  · exact ⟨l0, p0, c0, h0, cell_of_row _ _ 0 _ _ _ h.di, h.r0⟩
  · exact ⟨l1, p1, c1, h1, cell_of_row _ _ 1 _ _ _ h.di, h.r1⟩
  · omega
set_option maxRecDepth 100000 in
theorem LW.num (h : LW W a D E l0 l1 p0 p1 c0 c1 s0 s1 w) {i : Nat} (hi : i < 2) : ∃ s : Int, w.cell? ⟨E, i, none⟩ = some (.int .i64 s) := by
  rcases i with _ | _ | i
  · exact ⟨s0, cell_of_row _ _ 0 _ _ _ h.ei⟩
  · exact ⟨s1, cell_of_row _ _ 1 _ _ _ h.ei⟩
  · omega
set_option maxRecDepth 100000 in
theorem keep2v {b c i j : Nat} {x y : Value} (h : w.cell? ⟨b, i, none⟩ = some x ∧ w.cell? ⟨c, j, none⟩ = some y) (hg : Hid (w.grownBy w1 none)) :
    w1.cell? ⟨b, i, none⟩ = some x ∧ w1.cell? ⟨c, j, none⟩ = some y ∧ Hid (w.grownBy w1 none) := ⟨hg.out.cell h.1 (by simp), hg.out.cell h.2 (by simp), hg⟩
set_option maxRecDepth 100000 in
theorem RI.rdT {v : Value} {M : List Int} (h : RI W v M w) : ∃ p c, v = .slice p M.length c ∧ Rd w (fun _ => True) (.slice p M.length c) (M.map fun z => Value.int .i64 z) := by
  obtain ⟨p, c, rfl, -, -⟩ := own_shape h.own
  exact ⟨p, c, rfl, h.rd.mono fun _ _ => trivial⟩
end
/-- What a call that gives numbers leaves. -/
def IntsP (M : List Int) (w : World) (e : Ending) (w' : World) : Prop := ∃ p c, e = .returned (.slice p M.length c) ∧ Rd w' (fun _ => True) (.slice p M.length c) (M.map fun z => Value.int .i64 z) ∧ w.grownBy w' none
set_option maxRecDepth 100000 in
theorem ri_ints {M : List Int} {w : World} {e : Ending} {w' : World} (h : ∃ v, e = .returned v ∧ RI w v M w') : IntsP M w e w' := by
  obtain ⟨v, rfl, h⟩ := h
  obtain ⟨p, c, rfl, h2⟩ := h.rdT
  exact ⟨p, c, rfl, h2, h.gr⟩
end Go.Proofs.Ytndfhgklhjfhkaa

/- The reference's Check of claims. -/
namespace Go.Proofs.Ytndfhgklhjfhkaa
open Go.RowKit Bs
set_option maxRecDepth 100000 in
set_option maxHeartbeats 12800000 in
theorem ircheck_any (l : List Od) (p : Option Addr) (c : Nat) (q : Nat → Prop) (w : World) (hR : RdF w q (.slice p l.length c) l.length (l.flatMap odC)) (hm : l.length ≤ 9223372036854775807) :
    Calls Try.prog 16 #[.slice p l.length c] w fun e w' => e = .returned (.int .i64 (ckO l)) ∧ w.grownBy w' none := by
  have HR := Lib.hid hR
  clear hR
  go_enter Try.func16, Try.ntmps16
  by_cases h1 : 192 < l.length
  · have h1' : (192 : Int) < (l.length : Int) := by omega
    go_wp2_with fail
    go_ret
    exact ⟨by unfold ckO; rw [if_pos h1]; rfl, grown_refl _ _⟩
  have h1' : ¬ (192 : Int) < (l.length : Int) := by omega
  have G0 : Hid (w.grownBy w none) := Lib.hid (grown_refl _ _)
  go_wp2_with fail
  go_loopw [3] (fun a wr => ∃ k : Nat, k ≤ l.length ∧ a = .int .i64 (k : Int) ∧ Hid (w.grownBy wr none) ∧ Hid ((l.take k).any wrO = false)) (fun a _ => l.length - (RowKit.intOf a).toNat)
  case atStart => exact ⟨0, Nat.zero_le _, rfl, G0, Lib.hid rfl⟩
  case round =>
    obtain ⟨w2, rfl⟩ : ∃ w2, w2 = wr := ⟨_, rfl⟩
    obtain ⟨k, hk, rfl, G, HN⟩ := hrel
    clear G0
    by_cases hlt : k < l.length
    · obtain ⟨-, b, off, rfl, -, hc⟩ := od_cells (HR.out.keep G.out) (by omega)
      obtain ⟨x, hx⟩ : ∃ x, l[k]? = some x := ⟨_, List.getElem?_eq_getElem hlt⟩
      obtain ⟨a0, a1, a2, a3⟩ := hc k x hx
      have HX := Lib.hid hx
      have hbl := block_lt_of_cell a0
      have HB := Lib.hid (heap_alloc_new w2 (.cells #[.int .i64 x.s, .int .i64 x.i, .int .i64 x.l] 60))
      have HG := Lib.hid (World.grownBy_alloc w2 (.cells #[.int .i64 x.s, .int .i64 x.i, .int .i64 x.l] 60) none)
      have HA0 := Lib.hid a0
      clear hc hx
      go_upto_region 7 with fail
      clear a0 a1 a2 a3
      generalize w2.alloc _ = w3 at *
      have G1 := Lib.hid (grown_trans G.out HG.out)
      have d0 := HG.out.cell HA0.out (by simp)
      have e0 : w3.cell? ⟨w2.heap.size, 0, none⟩ = some (.int .i64 x.s) := cell_of_row _ _ _ _ _ _ HB.out
      have e1 : w3.cell? ⟨w2.heap.size, 1, none⟩ = some (.int .i64 x.i) := cell_of_row _ _ _ _ _ _ HB.out
      have e2 : w3.cell? ⟨w2.heap.size, 2, none⟩ = some (.int .i64 x.l) := cell_of_row _ _ _ _ _ _ HB.out
      have HT : Hid (wrO x = true → ckO l = 2) := Lib.hid (fun h => by unfold ckO; rw [if_neg h1, any_at HX.out h]; rfl)
      have HF : Hid (wrO x = false → (l.take (k + 1)).any wrO = false) := Lib.hid (fun h => any_take HN.out HX.out h)
      have HW : Hid (wrO x = !(inV x.r 1 99 && inV x.s 0 7 && inV x.i 1 256 && vl x.l)) := Lib.hid rfl
      obtain ⟨b1, h1⟩ : ∃ b, inV x.r 1 99 = b := ⟨_, rfl⟩
      obtain ⟨b2, h2⟩ : ∃ b, inV x.s 0 7 = b := ⟨_, rfl⟩
      obtain ⟨b3, h3⟩ : ∃ b, inV x.i 1 256 = b := ⟨_, rfl⟩
      obtain ⟨b4, h4⟩ : ∃ b, vl x.l = b := ⟨_, rfl⟩
      rw [h1, h2, h3, h4] at HW
      have H1 := Lib.hid h1
      have H2 := Lib.hid h2
      have H3 := Lib.hid h3
      have H4 := Lib.hid h4
      clear h1 h2 h3 h4 G HN HG HA0 HB
      cases b1
      case false =>
        go_wp2_with ((first | (go_at_call 50; first | with_reducible refine (rin10_lit x.r 1 99 _ H1.out _).mono ?_ | with_reducible refine (rin10_lit x.s 0 7 _ H2.out _).mono ?_ | with_reducible refine (rin10_lit x.i 1 256 _ H3.out _).mono ?_) | (go_at_call 51; refine (vlr10_lit _ _ H4.out _).mono ?_)); rintro e w' ⟨rfl, rfl⟩)
        go_ret
        rw [HT.out (by rw [HW.out]; rfl)]
        exact ⟨rfl, G1.out⟩
      cases b2
      case false =>
        go_wp2_with ((first | (go_at_call 50; first | with_reducible refine (rin10_lit x.r 1 99 _ H1.out _).mono ?_ | with_reducible refine (rin10_lit x.s 0 7 _ H2.out _).mono ?_ | with_reducible refine (rin10_lit x.i 1 256 _ H3.out _).mono ?_) | (go_at_call 51; refine (vlr10_lit _ _ H4.out _).mono ?_)); rintro e w' ⟨rfl, rfl⟩)
        go_ret
        rw [HT.out (by rw [HW.out]; rfl)]
        exact ⟨rfl, G1.out⟩
      cases b3
      case false =>
        go_wp2_with ((first | (go_at_call 50; first | with_reducible refine (rin10_lit x.r 1 99 _ H1.out _).mono ?_ | with_reducible refine (rin10_lit x.s 0 7 _ H2.out _).mono ?_ | with_reducible refine (rin10_lit x.i 1 256 _ H3.out _).mono ?_) | (go_at_call 51; refine (vlr10_lit _ _ H4.out _).mono ?_)); rintro e w' ⟨rfl, rfl⟩)
        go_ret
        rw [HT.out (by rw [HW.out]; rfl)]
        exact ⟨rfl, G1.out⟩
      cases b4
      case false =>
        go_wp2_with ((first | (go_at_call 50; first | with_reducible refine (rin10_lit x.r 1 99 _ H1.out _).mono ?_ | with_reducible refine (rin10_lit x.s 0 7 _ H2.out _).mono ?_ | with_reducible refine (rin10_lit x.i 1 256 _ H3.out _).mono ?_) | (go_at_call 51; refine (vlr10_lit _ _ H4.out _).mono ?_)); rintro e w' ⟨rfl, rfl⟩)
        go_ret
        rw [HT.out (by rw [HW.out]; rfl)]
        exact ⟨rfl, G1.out⟩
      go_wp2_with ((first | (go_at_call 50; first | with_reducible refine (rin10_lit x.r 1 99 _ H1.out _).mono ?_ | with_reducible refine (rin10_lit x.s 0 7 _ H2.out _).mono ?_ | with_reducible refine (rin10_lit x.i 1 256 _ H3.out _).mono ?_) | (go_at_call 51; refine (vlr10_lit _ _ H4.out _).mono ?_)); rintro e w' ⟨rfl, rfl⟩)
      exact ⟨⟨k + 1, by omega, congrArg _ (by omega), G1, Lib.hid (HF.out (by rw [HW.out]; rfl))⟩, by simp only [RowKit.intOf]; omega⟩
    · obtain rfl : k = l.length := by omega
      have HN2 : Hid (l.any wrO = false) := Lib.hid (any_end HN.out (Nat.le_refl _))
      clear HN
      go_wp2_with fail
      go_loopw [5] (fun a wr => ∃ k : Nat, 1 ≤ k ∧ (k ≤ l.length ∨ k = 1) ∧ a = .int .i64 (k : Int) ∧ Hid (w.grownBy wr none) ∧ Hid (∀ i x y, i + 1 < k → l[i]? = some x → l[i + 1]? = some y → ltO x y = true)) (fun a _ => l.length - (RowKit.intOf a).toNat)
      case atStart => exact ⟨1, by omega, Or.inr rfl, rfl, G, Lib.hid (fun i x y h => by omega)⟩
      case round =>
        clear G
        obtain ⟨w3, rfl⟩ : ∃ w3, w3 = wr := ⟨_, rfl⟩
        obtain ⟨k, hk1, hk, rfl, G, HN⟩ := hrel
        by_cases hlt : k < l.length
        · obtain ⟨j, rfl⟩ : ∃ j, k = j + 1 := ⟨k - 1, by omega⟩
          obtain ⟨-, b, off, rfl, hq, hc⟩ := od_cells (HR.out.keep G.out) (by omega)
          obtain ⟨x, hx⟩ : ∃ x, l[j]? = some x := ⟨_, List.getElem?_eq_getElem (by omega)⟩
          obtain ⟨y, hy⟩ : ∃ y, l[j + 1]? = some y := ⟨_, List.getElem?_eq_getElem hlt⟩
          obtain ⟨a0, a1, a2, a3⟩ := hc j x hx
          obtain ⟨b0, b1, b2, b3⟩ := hc (j + 1) y hy
          have HXY := Lib.hid (And.intro hx hy)
          have ew1 : ((j : Int) + 1 - 1) = (j : Int) := by omega
          have ew2 : IntKind.i64.wrap ((j : Int) + 1 - 1) = (j : Int) := by rw [ew1, IntWalk.i64_in _ (by omega)]
          have ew3 : IntKind.i64.wrap (j : Int) = (j : Int) := IntWalk.i64_in _ (by omega)
          have j0 : (0 : Int) ≤ (j : Int) := by omega
          have j1 : (0 : Int) ≤ (j : Int) + 1 := by omega
          have j2 : (j : Int) < (l.length : Int) := by omega
          have j3 : (j : Int) + 1 < (l.length : Int) := by omega
          have j4 : ((j : Int) + 1).toNat = j + 1 := by omega
          have hbl := block_lt_of_cell a0
          clear hc hx hy
          have hcast : ((j + 1 : Nat) : Int) = (j : Int) + 1 := by omega
          rw [hcast]
          go_upto_region 12 with fail
          go_cut [6, 7] from 53 to 61 (fun u v wx => ∃ g1 g2 : Nat, u = .pointer (some ⟨g1, 0, none⟩) ∧ v = .pointer (some ⟨g2, 0, none⟩) ∧ Hid (wx.heap[g1]? = some (.cells #[.int .i64 x.r, .int .i64 x.s, .int .i64 x.i, .int .i64 x.l] 62 (0, 0)) ∧ wx.heap[g2]? = some (.cells #[.int .i64 y.r, .int .i64 y.s, .int .i64 y.i, .int .i64 y.l] 62 (0, 0)) ∧ w3.grownBy wx none))
          case first =>
            go_region
            · go_wp2_with fail
              go_meet
              obtain ⟨k1, k2, k3, k4⟩ := two_boxes w3 #[.int .i64 x.r, .int .i64 x.s, .int .i64 x.i, .int .i64 x.l] #[.int .i64 y.r, .int .i64 y.s, .int .i64 y.i, .int .i64 y.l] 62 62
              exact ⟨_, _, rfl, rfl, Lib.hid ⟨k1, k2, grown_drew k3⟩⟩
            · go_wp2_with fail
              go_meet
              obtain ⟨k1, k2, k3, k4⟩ := two_boxes w3 #[.int .i64 y.r, .int .i64 y.s, .int .i64 y.i, .int .i64 y.l] #[.int .i64 x.r, .int .i64 x.s, .int .i64 x.i, .int .i64 x.l] 62 62
              exact ⟨_, _, rfl, rfl, Lib.hid ⟨k2, k1, grown_drew k3⟩⟩
          case rest =>
          obtain ⟨g1, g2, rfl, rfl, HB⟩ := hcut
          clear a0 a1 a2 a3 b0 b1 b2 b3 hbl
          rename_i wx
          obtain ⟨d0, d1, d2, d3⟩ := row4i HB.out.1
          obtain ⟨e0, e1, e2, e3⟩ := row4i HB.out.2.1
          have G1 := Lib.hid (grown_trans G.out HB.out.2.2)
          have HT : Hid (ltO x y = false → ckO l = 25) := Lib.hid (fun h => by
            unfold ckO; rw [if_neg h1, HN2.out, ascO_hit HXY.out.1 HXY.out.2 h]; rfl)
          have HF : Hid (ltO x y = true → ∀ i x2 y2, i + 1 < j + 1 + 1 → l[i]? = some x2 → l[i + 1]? = some y2 → ltO x2 y2 = true) := Lib.hid (fun h i x2 y2 hi hx2 hy2 => by
            by_cases hij : i = j
            · subst hij
              have e1 := HXY.out.1.symm.trans hx2
              have e2 := HXY.out.2.symm.trans hy2
              injection e1 with e1
              injection e2 with e2
              subst e1
              subst e2
              exact h
            · exact HN.out i x2 y2 (by omega) hx2 hy2)
          clear HB G HN HXY
          by_cases q1 : y.r < x.r
          · go_wp2_with fail
            go_ret
            rw [HT.out (decide_eq_false (by omega))]
            exact ⟨rfl, G1.out⟩
          · by_cases q2 : x.r = y.r
            · have q2' : (x.r == y.r) = true := by simpa using q2
              by_cases q3 : y.s ≤ x.s
              · have H := Lib.hid (HT.out (decide_eq_false (by omega)))
                have Q2 := Lib.hid q2
                clear q2
                go_wp2_with fail
                go_ret
                rw [H.out]
                exact ⟨rfl, G1.out⟩
              · have H := Lib.hid (HF.out (decide_eq_true (by omega)))
                have Q2 := Lib.hid q2
                clear q2
                go_wp2_with fail
                exact ⟨⟨j + 1 + 1, by omega, Or.inl (by omega), congrArg _ (by omega), G1, H⟩, by simp only [RowKit.intOf]; omega⟩
            · have q2' : (x.r == y.r) = false := by simpa using q2
              have H := Lib.hid (HF.out (decide_eq_true (by omega)))
              clear q2
              go_wp2_with fail
              exact ⟨⟨j + 1 + 1, by omega, Or.inl (by omega), congrArg _ (by omega), G1, H⟩, by simp only [RowKit.intOf]; omega⟩
        · have h2 : ¬ (k : Int) < (l.length : Int) := by omega
          have H := Lib.hid (ascO_end fun i x y hi hx hy => HN.out i x y (by omega) hx hy)
          go_wp2_with fail
          go_ret
          refine ⟨?_, G.out⟩
          unfold ckO
          rw [if_neg h1, HN2.out, H.out]; rfl
end Go.Proofs.Ytndfhgklhjfhkaa

/- The reference's claimed, Conflicts, Length, Free. -/
namespace Go.Proofs.Ytndfhgklhjfhkaa
open Go.RowKit Bs
set_option maxRecDepth 100000 in
set_option maxHeartbeats 6400000 in
theorem irclm_any (l : List Od) (p : Option Addr) (c : Nat) (sub id : Int) (q : Nat → Prop) (w : World) (hR : RdF w q (.slice p l.length c) l.length (l.flatMap odC)) (hm : l.length ≤ 1000) :
    Calls Try.prog 62 #[.slice p l.length c, .int .i64 sub, .int .i64 id] w fun e w' => e = .returned (.int .i64 (cnt l sub id : Int)) ∧ w = w' := by
  have HR := Lib.hid hR
  clear hR
  go_enter Try.func62, Try.ntmps62
  go_wp2_with fail
  go_loopw [7, 8] (fun v a wr => ∃ k : Nat, k ≤ l.length ∧ a = .int .i64 (k : Int) ∧ (∃ n : Nat, n ≤ k ∧ v = .int .i64 (n : Int) ∧ Hid (cnt (l.take k) sub id = n)) ∧ wr = w) (fun _ a _ => l.length - (RowKit.intOf a).toNat)
  case atStart => exact ⟨0, by omega, rfl, ⟨0, Nat.le_refl _, rfl, Lib.hid rfl⟩, rfl⟩
  case round =>
    obtain ⟨k, hk, rfl, ⟨n, hnk, rfl, HN⟩, rfl⟩ := hrel
    by_cases hlt : k < l.length
    · obtain ⟨-, b, off, rfl, -, hc⟩ := od_cells HR.out (by omega)
      obtain ⟨x, hx⟩ : ∃ x, l[k]? = some x := ⟨_, List.getElem?_eq_getElem hlt⟩
      obtain ⟨a0, a1, a2, a3⟩ := hc k x hx
      have HS := Lib.hid (cnt_take hx sub id)
      clear hc hx
      by_cases h1 : x.s = sub
      · have h1' : (x.s == sub) = true := by simpa using h1
        by_cases h2 : x.i = id
        · have h2' : (x.i == id) = true := by simpa using h2
          have HE : Hid (cnt (l.take (k + 1)) sub id = n + 1) := Lib.hid (by rw [HS.out, HN.out, if_pos ⟨h1, h2⟩])
          clear h1 h2
          go_wp2_with fail
          exact ⟨⟨k + 1, by omega, congrArg _ (by omega), ⟨n + 1, by omega, congrArg _ (by omega), HE⟩, (by first | rfl | trivial)⟩, by simp only [RowKit.intOf]; omega⟩
        · have h2' : (x.i == id) = false := by simpa using h2
          have HE : Hid (cnt (l.take (k + 1)) sub id = n) := Lib.hid (by rw [HS.out, HN.out, if_neg (fun h => h2 h.2)]; rfl)
          clear h1 h2
          go_wp2_with fail
          exact ⟨⟨k + 1, by omega, congrArg _ (by omega), ⟨n, by omega, rfl, HE⟩, (by first | rfl | trivial)⟩, by simp only [RowKit.intOf]; omega⟩
      · have h1' : (x.s == sub) = false := by simpa using h1
        have HE : Hid (cnt (l.take (k + 1)) sub id = n) := Lib.hid (by rw [HS.out, HN.out, if_neg (fun h => h1 h.1)]; rfl)
        clear h1
        go_wp2_with fail
        exact ⟨⟨k + 1, by omega, congrArg _ (by omega), ⟨n, by omega, rfl, HE⟩, (by first | rfl | trivial)⟩, by simp only [RowKit.intOf]; omega⟩
    · obtain rfl : k = l.length := by omega
      have HE : Hid (cnt l sub id = n) := Lib.hid (by rw [← HN.out, List.take_length])
      go_wp2_with fail
      go_ret
      rw [HE.out]
      exact ⟨rfl, rfl⟩
set_option maxRecDepth 100000 in
set_option maxHeartbeats 6400000 in
theorem irconf_any (l : List Od) (p : Option Addr) (c : Nat) (sub : Int) (q : Nat → Prop) (w : World) (hR : RdF w q (.slice p l.length c) l.length (l.flatMap odC)) (hm : l.length ≤ 9223372036854775807) :
    Calls Try.prog 24 #[.slice p l.length c, .int .i64 sub] w fun e w' => ∃ v, e = .returned v ∧ RI w v (cfO l sub) w' := by
  have HR := Lib.hid hR
  clear hR
  obtain ⟨ii, hi, hi0, hi1, hi2⟩ := info_parts info_int
  go_enter Try.func24, Try.ntmps24
  go_wp2_with fail
  refine (ircheck_any l p c _ w HR.out hm).mono ?_
  rintro e w1 ⟨rfl, hg⟩
  have G1 := Lib.hid hg
  clear hg
  by_cases h0 : ckO l = 0
  case neg =>
    have h0' : (ckO l != 0) = true := by simpa using h0
    have HC : Hid (cfO l sub = []) := Lib.hid (if_neg h0)
    clear h0
    go_wp2_with fail
    go_ret
    rw [HC.out]
    exact ⟨_, rfl, RI.start G1.out⟩
  have HC : Hid (cfO l sub = cfK l sub 257) := Lib.hid (if_pos h0)
  obtain ⟨hl, -, -⟩ := ck_any h0
  have R0 : Hid (RI w (.slice none 0 0) (cfK l sub 1) w1) := Lib.hid (by
    have e0 : cfK l sub (0 + 1) = cfK l sub 0 := cfK_no (by rw [show ((0 : Nat) : Int) = 0 from rfl, cnt_out h0 sub (Or.inl (by omega))]; omega)
    rw [show (1 : Nat) = 0 + 1 from rfl, e0]
    exact RI.start G1.out)
  rw [h0]
  clear h0 G1
  go_wp2_with fail
  go_loopw [5, 6] (fun v a wr => ∃ k : Nat, 1 ≤ k ∧ k ≤ 257 ∧ a = .int .i64 (k : Int) ∧ (∃ pv nv cv, v = .slice pv nv cv) ∧ Hid (RI w v (cfK l sub k) wr)) (fun _ a _ => 257 - (RowKit.intOf a).toNat)
  case atStart => exact ⟨1, by omega, by omega, rfl, ⟨_, _, _, rfl⟩, R0⟩
  case round =>
    obtain ⟨k, hk1, hk, rfl, ⟨pv, nv, cv, rfl⟩, N⟩ := hrel
    clear R0
    by_cases hlt : k ≤ 256
    · have hlt1 : (k : Int) ≤ 256 := by omega
      have hlen := cfK_len l sub k
      go_wp2_with fail
      refine (irclm_any l p c sub k _ wr (HR.out.keep N.out.gr) (by omega)).mono ?_
      rintro e w' ⟨rfl, rfl⟩
      obtain ⟨n, hn⟩ : ∃ n, cnt l sub k = n := ⟨_, rfl⟩
      rw [hn]
      have HY : Hid (1 < n → cfK l sub (k + 1) = cfK l sub k ++ [(k : Int)]) := Lib.hid (fun h => cfK_yes (by rw [hn]; exact h))
      have HN : Hid (¬ 1 < n → cfK l sub (k + 1) = cfK l sub k) := Lib.hid (fun h => cfK_no (by rw [hn]; exact h))
      obtain ⟨M, hM⟩ : ∃ M, cfK l sub k = M := ⟨_, rfl⟩
      rw [hM] at N HY HN hlen
      have hn2 : n ≤ 200 := by rw [← hn]; exact Nat.le_trans (cnt_le _ _ _) (by omega)
      clear hn hM
      obtain rfl : nv = M.length := by
        obtain ⟨p', c', e, _⟩ := own_shape N.out.own
        injection e
      have HO := Lib.hid N.out.own
      by_cases h1 : 1 < n
      · have h1' : (1 : Int) < (n : Int) := by omega
        have hbs : w.heap.size ≤ wr.heap.size := N.out.gr.size
        go_wp2_with (at_builtin; refine wpList_append_f ivC 1 8 (by decide) (fun _ => rfl) ivC_one 3 22 ii _ Try.underlying22 hi hi0 hi1 hi2 rfl (by decide) rfl _ _ rfl w.heap.size _ M _ ?c0 rfl (HO.out.alloc _) (some ⟨wr.heap.size, 0, none⟩) 1 1 [(k : Int)] rfl rfl (by simp) (fun _ => True) (rdf_one _ trivial (fun j u hu => iv_row _ _ _ _ _ hu) 1) (by decide) (by simp; omega) (by simp; omega) ?_)
        try (case c0 => rfl)
        intro v' w3 hown' hg
        have N1 : Hid (RI w v' (cfK l sub (k + 1)) w3) := Lib.hid (by rw [HY.out h1]; exact N.out.app (by simpa using hown') hg)
        obtain ⟨p1, c1, rfl, -, -⟩ := own_shape hown'
        clear hown' hg HO
        go_wp2_with fail
        exact ⟨⟨k + 1, by omega, by omega, congrArg _ (by omega), ⟨_, _, _, rfl⟩, N1⟩, by simp only [RowKit.intOf]; omega⟩
      · have h1' : ¬ (1 : Int) < (n : Int) := by omega
        have N1 : Hid (RI w _ (cfK l sub (k + 1)) wr) := Lib.hid (by rw [HN.out h1]; exact N.out)
        go_wp2_with fail
        exact ⟨⟨k + 1, by omega, by omega, congrArg _ (by omega), ⟨_, _, _, rfl⟩, N1⟩, by simp only [RowKit.intOf]; omega⟩
    · obtain rfl : k = 257 := by omega
      go_wp2_with fail
      go_ret
      rw [HC.out]
      exact ⟨_, rfl, N.out⟩
set_option maxRecDepth 100000 in
set_option maxHeartbeats 6400000 in
theorem irlen_any (l : List Od) (p : Option Addr) (c : Nat) (sub : Int) (q : Nat → Prop) (w : World) (hR : RdF w q (.slice p l.length c) l.length (l.flatMap odC)) (hm : l.length ≤ 9223372036854775807) :
    Calls Try.prog 26 #[.slice p l.length c, .int .i64 sub] w fun e w' => e = .returned (.int .i64 (lnO l sub)) ∧ w.grownBy w' none := by
  have HR := Lib.hid hR
  clear hR
  go_enter Try.func26, Try.ntmps26
  go_wp2_with fail
  refine (ircheck_any l p c _ w HR.out hm).mono ?_
  rintro e w1 ⟨rfl, hg⟩
  have G1 := Lib.hid hg
  clear hg
  by_cases h0 : ckO l = 0
  case neg =>
    have h0' : (ckO l != 0) = true := by simpa using h0
    have HC : Hid (lnO l sub = 0) := Lib.hid (if_neg h0)
    clear h0
    go_wp2_with fail
    go_ret
    rw [HC.out]
    exact ⟨rfl, G1.out⟩
  have HC : Hid (lnO l sub = lnK l sub) := Lib.hid (if_pos h0)
  obtain ⟨hl, -, -⟩ := ck_any h0
  rw [h0]
  clear h0
  go_wp2_with fail
  go_loopw [5, 6] (fun v a wr => ∃ k : Nat, k ≤ l.length ∧ a = .int .i64 (k : Int) ∧ v = .int .i64 (lnK (l.take k) sub) ∧ wr = w1) (fun _ a _ => l.length - (RowKit.intOf a).toNat)
  case atStart => exact ⟨0, by omega, rfl, rfl, rfl⟩
  case round =>
    obtain ⟨k, hk, rfl, rfl, rfl⟩ := hrel
    by_cases hlt : k < l.length
    · obtain ⟨-, b, off, rfl, -, hc⟩ := od_cells (HR.out.keep G1.out) (by omega)
      obtain ⟨x, hx⟩ : ∃ x, l[k]? = some x := ⟨_, List.getElem?_eq_getElem hlt⟩
      obtain ⟨a0, a1, a2, a3⟩ := hc k x hx
      have HS := Lib.hid (lnK_take hx sub)
      clear hc hx
      obtain ⟨n, hn⟩ : ∃ n, lnK (l.take k) sub = n := ⟨_, rfl⟩
      rw [hn] at HS ⊢
      clear hn
      by_cases h1 : x.s = sub
      · have h1' : (x.s == sub) = true := by simpa using h1
        by_cases h2 : n = 0
        · have h2' : (n == 0) = true := by simpa using h2
          have HE : Hid (lnK (l.take (k + 1)) sub = x.l) := Lib.hid (by rw [HS.out]; unfold lnS; rw [if_pos ⟨h1, Or.inl h2⟩])
          clear HS h1 h2
          go_wp2_with fail
          exact ⟨⟨k + 1, by omega, congrArg _ (by omega), by rw [HE.out], (by first | rfl | trivial)⟩, by simp only [RowKit.intOf]; omega⟩
        · have h2' : (n == 0) = false := by simpa using h2
          by_cases h3 : x.l < n
          · have HE : Hid (lnK (l.take (k + 1)) sub = x.l) := Lib.hid (by rw [HS.out]; unfold lnS; rw [if_pos ⟨h1, Or.inr h3⟩])
            clear HS h1 h2
            go_wp2_with fail
            exact ⟨⟨k + 1, by omega, congrArg _ (by omega), by rw [HE.out], (by first | rfl | trivial)⟩, by simp only [RowKit.intOf]; omega⟩
          · have HE : Hid (lnK (l.take (k + 1)) sub = n) := Lib.hid (by rw [HS.out]; unfold lnS; rw [if_neg (fun h => by have := h.2; omega)])
            clear HS h1 h2
            go_wp2_with fail
            exact ⟨⟨k + 1, by omega, congrArg _ (by omega), by rw [HE.out], (by first | rfl | trivial)⟩, by simp only [RowKit.intOf]; omega⟩
      · have h1' : (x.s == sub) = false := by simpa using h1
        have HE : Hid (lnK (l.take (k + 1)) sub = n) := Lib.hid (by rw [HS.out]; unfold lnS; rw [if_neg (fun h => h1 h.1)])
        clear HS h1
        go_wp2_with fail
        exact ⟨⟨k + 1, by omega, congrArg _ (by omega), by rw [HE.out], (by first | rfl | trivial)⟩, by simp only [RowKit.intOf]; omega⟩
    · obtain rfl : k = l.length := by omega
      have HE : Hid (lnK (l.take l.length) sub = lnK l sub) := Lib.hid (by rw [List.take_length])
      go_wp2_with fail
      go_ret
      rw [HC.out, HE.out]
      exact ⟨rfl, G1.out⟩
set_option maxRecDepth 100000 in
set_option maxHeartbeats 6400000 in
theorem irfree_any (l : List Od) (p : Option Addr) (c : Nat) (sub : Int) (q : Nat → Prop) (w : World) (hR : RdF w q (.slice p l.length c) l.length (l.flatMap odC)) (hm : l.length ≤ 9223372036854775807) :
    Calls Try.prog 21 #[.slice p l.length c, .int .i64 sub] w fun e w' => ∃ n ok, e = .returned (.tuple #[.int .i64 n, .bool ok]) ∧ FrO l sub n ok ∧ w.grownBy w' none := by
  have HR := Lib.hid hR
  clear hR
  go_enter Try.func21, Try.ntmps21
  go_wp2_with fail
  refine (ircheck_any l p c _ w HR.out hm).mono ?_
  rintro e w1 ⟨rfl, hg⟩
  have G1 := Lib.hid hg
  clear hg
  by_cases h0 : ckO l = 0
  case neg =>
    have h0' : (ckO l != 0) = true := by simpa using h0
    have H0 := Lib.hid h0
    clear h0
    go_wp2_with fail
    go_ret2
    exact ⟨_, _, rfl, Or.inl ⟨H0.out, rfl, rfl⟩, G1.out⟩
  obtain ⟨hl, -, -⟩ := ck_any h0
  have H0 := Lib.hid h0
  rw [h0]
  clear h0
  go_wp2_with fail
  go_loopw [6] (fun a wr => ∃ k : Nat, 1 ≤ k ∧ k ≤ 257 ∧ a = .int .i64 (k : Int) ∧ wr = w1 ∧ Hid (∀ j : Nat, 1 ≤ j → j < k → cnt l sub j ≠ 0)) (fun a _ => 257 - (RowKit.intOf a).toNat)
  case atStart => exact ⟨1, Nat.le_refl _, by omega, rfl, rfl, Lib.hid (fun j h1 h2 => by omega)⟩
  case round =>
    obtain ⟨k, hk1, hk, rfl, rfl, HN⟩ := hrel
    by_cases hlt : k ≤ 256
    · have h3 : (k : Int) ≤ 256 := by omega
      go_wp2_with fail
      refine (irclm_any l p c sub k _ _ (HR.out.keep G1.out) (by omega)).mono ?_
      rintro e w' ⟨rfl, rfl⟩
      obtain ⟨n, hn⟩ : ∃ n, cnt l sub k = n := ⟨_, rfl⟩
      rw [hn]
      have HF := Lib.hid hn
      clear hn
      by_cases h0 : n = 0
      · subst h0
        go_wp2_with fail
        go_ret2
        exact ⟨_, _, rfl, Or.inr ⟨H0.out, Or.inl ⟨rfl, by omega, by omega, by rw [Int.toNat_natCast]; exact HF.out, fun j h1 h2 => HN.out j h1 (by omega)⟩⟩, G1.out⟩
      · have h4 : ((n : Int) == 0) = false := by simpa using h0
        have HN2 : Hid (∀ j : Nat, 1 ≤ j → j < k + 1 → cnt l sub j ≠ 0) := Lib.hid (fun j h1 h2 => by
          by_cases hj : j = k
          · subst hj; rw [HF.out]; exact h0
          · exact HN.out j h1 (by omega))
        go_wp2_with fail
        exact ⟨⟨k + 1, by omega, by omega, congrArg _ (by omega), (by first | rfl | trivial), HN2⟩, by simp only [RowKit.intOf]; omega⟩
    · obtain rfl : k = 257 := by omega
      go_wp2_with fail
      go_ret2
      exact ⟨_, _, rfl, Or.inr ⟨H0.out, Or.inr ⟨rfl, rfl, fun j h1 h2 => HN.out j h1 (by omega)⟩⟩, G1.out⟩
end Go.Proofs.Ytndfhgklhjfhkaa

/- The law IdentifyCounts. -/
namespace Go.Proofs.Ytndfhgklhjfhkaa
open Go.RowKit Bs
set_option maxRecDepth 100000 in
set_option maxHeartbeats 25600000 in
theorem counts_walk (v : Value) (rl : List Od) (rp : Option Addr) (rc : Nat) (sub : Int) (w : World) (hv : IntsIn w v) (hR : RdF w (· < w.heap.size) (.slice rp rl.length rc) rl.length (rl.flatMap odC)) (hn : rp = none → rc = 0) (hc : rl.length ≤ rc ∧ rc ≤ 9223372036854775807) :
    Calls Try.prog 4 #[v, .slice rp rl.length rc, .int .i64 sub] w fun e w' => e = .returned (.bool true) ∧ w.grownBy w' none := by
  have HV := Lib.hid hv
  have HR := Lib.hid hR
  have HC := Lib.hid (And.intro hn hc)
  have hrm : rl.length ≤ 9223372036854775807 := Nat.le_trans hc.1 hc.2
  clear hv hR hn hc
  go_enter Try.func4, Try.ntmps4
  go_wp2_with fail
  refine (new_any v w HV.out).mono ?_
  rintro e w1 ⟨rfl, hg1, hT1⟩
  have H1 := Lib.hid (And.intro hg1 (And.intro hT1 (HR.out.keep hg1)))
  clear hg1 hT1 HV HR
  obtain ⟨a, ha⟩ : ∃ a, w.heap.size = a := ⟨_, rfl⟩
  have HA := Lib.hid ha
  rw [ha] at H1 ⊢
  clear ha
  go_wp2_with fail
  refine (tclaims_any a 5 6 (by omega) (by unfold I64; omega) _ H1.out.2.1).mono ?_
  rintro e w2 ⟨l, p, c, rfl, hll, -, ho, hs⟩
  obtain ⟨pp, cc, e2, hc1, hc2⟩ := own_shape ho
  injection e2 with e3 e4 e5
  subst e3
  subst e5
  have HL : Hid (LV l p c) := Lib.hid ⟨own_nlI ho, ⟨hc1, hc2⟩, by omega⟩
  have h2 := grown_new H1.out.1 hs.1 (by rw [HA.out]; exact Nat.le_refl _)
  have hla := H1.out.2.1.lt
  have r2 := H1.out.2.2.grown hs.1 (fun b hb e => by have := Option.some.inj e; omega)
  have r1 : RdF w2 (a < ·) (.slice p l.length c) l.length (l.flatMap odC) := (rdf_of_own ho).mono (fun b hb => by omega)
  obtain ⟨n1, n2⟩ := tone_box w2 #[.slice p l.length c, .slice rp rl.length rc] 23
  have H2 := Lib.hid (And.intro (grown_trans h2 n2) (And.intro (hs.2.keep n2) (And.intro n1 (And.intro (r1.keep n2) (And.intro (r2.keep n2) hs.2.lt)))))
  clear ho hs hc1 hc2 h2 r2 r1 n1 n2 H1 hll e4 hla
  go_wp2_with fail
  refine (range_any a 0 3 (by omega) (by omega) (by omega) (by omega) _ H2.out.2.1).mono ?_
  rintro e w3 ⟨s0, rfl, -, hs⟩
  obtain ⟨n1, n2⟩ := tone_box w3 #[.int .i64 s0, .int .i64 sub] 3
  have H3 : Hid (LW w a w2.heap.size w3.heap.size l rl p rp c rc s0 sub _) := Lib.hid ⟨kept_row (kept_row H2.out.2.2.1 hs.1 (fun e => by have := Option.some.inj e; have := H2.out.2.2.2.2.2; omega)) n2 (by simp), n1, ((H2.out.2.2.2.1.grown hs.1 (fun b hb e => by have := Option.some.inj e; omega)).mono (fun _ _ => trivial)).keep n2, ((H2.out.2.2.2.2.1.grown hs.1 (fun b hb e => by have := Option.some.inj e; omega)).mono (fun _ _ => trivial)).keep n2, grown_trans (grown_new H2.out.1 hs.1 (by rw [HA.out]; exact Nat.le_refl _)) n2⟩
  clear hs H2 n1 n2
  go_upto_region 4 with fail
  generalize w3.alloc _ = w4 at *
  generalize w2.heap.size = D at *
  generalize w3.heap.size = E at *
  clear HA
  by_cases hraw : rl.length ≤ 200
  case neg =>
    have hraw' : ¬ (rl.length : Int) ≤ 200 := by omega
    go_wp2_with fail
    go_loopw [10] (fun x wr => x = .int .i64 0 ∧ Hid (w.grownBy wr none)) (fun x _ => 0)
    case atStart => exact ⟨rfl, Lib.hid H3.out.gr⟩
    case round =>
    obtain ⟨rfl, G⟩ := hrel
    go_wp2_with fail
    refine (iawake_any wr).mono ?_
    rintro e w8 ⟨rfl, hg⟩
    have G2 := Lib.hid (grown_trans G.out hg)
    clear hg
    go_wp2_with fail
    go_ret
    exact ⟨rfl, G2.out⟩
  have hraw' : (rl.length : Int) ≤ 200 := by omega
  have HRL : Hid (LV rl rp rc) := Lib.hid ⟨HC.out.1, HC.out.2, hraw⟩
  clear HC hraw
  go_wp2_with fail
  go_loopw [10] (fun x wr => ∃ i : Nat, i ≤ 2 ∧ x = .int .i64 (i : Int) ∧ Hid (LW w a D E l rl p rp c rc s0 sub wr)) (fun x _ => 2 - (RowKit.intOf x).toNat)
  case atStart => exact ⟨0, by omega, rfl, H3⟩
  case round =>
  clear H3
  obtain ⟨i, hi, rfl, H4⟩ := hrel
  by_cases hi2 : i < 2
  case neg =>
    obtain rfl : i = 2 := by omega
    have G := Lib.hid H4.out.gr
    go_wp2_with fail
    refine (iawake_any wr).mono ?_
    rintro e w8 ⟨rfl, hg⟩
    have G2 := Lib.hid (grown_trans G.out hg)
    clear hg
    go_wp2_with fail
    go_ret
    exact ⟨rfl, G2.out⟩
  have hi2' : (i : Int) < 2 := by omega
  obtain ⟨w5, hw5⟩ : ∃ w5, w5 = wr := ⟨_, rfl⟩
  rw [← hw5] at H4 ⊢
  clear hw5
  go_wp2_with fail
  go_loopw [11] (fun x wz => ∃ k : Nat, k ≤ 2 ∧ x = .int .i64 (k : Int) ∧ Hid (LW w a D E l rl p rp c rc s0 sub wz)) (fun x _ => 2 - (RowKit.intOf x).toNat)
  case atStart => exact ⟨0, by omega, rfl, H4⟩
  case round =>
  clear H4
  obtain ⟨k, hk, rfl, H5⟩ := hrel
  by_cases hk2 : k < 2
  case neg =>
    obtain rfl : k = 2 := by omega
    go_wp2_with fail
    exact ⟨⟨i + 1, by omega, congrArg _ (by omega), H5⟩, by simp only [RowKit.intOf]; omega⟩
  have hk2' : (k : Int) < 2 := by omega
  obtain ⟨w6, hw6⟩ : ∃ w6, w6 = wr := ⟨_, rfl⟩
  rw [← hw6] at H5 ⊢
  clear hw6
  obtain ⟨l1, p1, c1, hlv, cl, hrd⟩ := H5.out.list HL.out HRL.out hi2
  obtain ⟨s1, cs⟩ := H5.out.num hk2
  have hm1 := hlv.m
  have HF := Lib.hid (And.intro cl cs)
  have CF : Hid (∀ W, Hid (w6.grownBy W none) → Calls Try.prog 20 #[.slice p1 l1.length c1, .int .i64 s1] W fun e w' => ∃ n ok, e = .returned (.tuple #[.int .i64 n, .bool ok]) ∧ FrO l1 s1 n ok ∧ W.grownBy w' none) := Lib.hid (fun W hW => ifreeT_any l1 p1 c1 s1 _ W (hrd.keep hW.out) (by omega))
  have CG : Hid (∀ W, Hid (w6.grownBy W none) → Calls Try.prog 21 #[.slice p1 l1.length c1, .int .i64 s1] W fun e w' => ∃ n ok, e = .returned (.tuple #[.int .i64 n, .bool ok]) ∧ FrO l1 s1 n ok ∧ W.grownBy w' none) := Lib.hid (fun W hW => irfree_any l1 p1 c1 s1 _ W (hrd.keep hW.out) (by omega))
  have C1 : Hid (∀ W, Hid (w6.grownBy W none) → Calls Try.prog 23 #[.slice p1 l1.length c1, .int .i64 s1] W fun e w' => IntsP (cfO l1 s1) W e w') := Lib.hid (fun W hW => (iconf_any l1 p1 c1 s1 _ W (hrd.keep hW.out) (by omega)).mono fun _ _ h => ri_ints h)
  have C2 : Hid (∀ W, Hid (w6.grownBy W none) → Calls Try.prog 24 #[.slice p1 l1.length c1, .int .i64 s1] W fun e w' => IntsP (cfO l1 s1) W e w') := Lib.hid (fun W hW => (irconf_any l1 p1 c1 s1 _ W (hrd.keep hW.out) (by omega)).mono fun _ _ h => ri_ints h)
  have C3 : Hid (∀ W, Hid (w6.grownBy W none) → Calls Try.prog 25 #[.slice p1 l1.length c1, .int .i64 s1] W fun e w' => e = .returned (.int .i64 (lnO l1 s1)) ∧ W.grownBy w' none) := Lib.hid (fun W hW => ilen_any l1 p1 c1 s1 _ W (hrd.keep hW.out) (by omega))
  have C4 : Hid (∀ W, Hid (w6.grownBy W none) → Calls Try.prog 26 #[.slice p1 l1.length c1, .int .i64 s1] W fun e w' => e = .returned (.int .i64 (lnO l1 s1)) ∧ W.grownBy w' none) := Lib.hid (fun W hW => irlen_any l1 p1 c1 s1 _ W (hrd.keep hW.out) (by omega))
  have HCL : Hid ((cfO l1 s1).length ≤ 257) := Lib.hid (by unfold cfO; split; exact cfK_len _ _ _; simp)
  have GZ : Hid (w6.grownBy w6 none) := Lib.hid (grown_refl _ _)
  obtain ⟨LN, hLN⟩ : ∃ z, lnO l1 s1 = z := ⟨_, rfl⟩
  obtain ⟨CN, hCN⟩ : ∃ z, cfO l1 s1 = z := ⟨_, rfl⟩
  rw [hLN] at C3 C4
  rw [hCN] at C1 C2 HCL
  clear hLN hCN hrd hlv
  go_upto_region 10 with fail
  go_region_held3 (fun w' => w'.cell? ⟨D, i, none⟩ = some (.slice p1 l1.length c1) ∧ w'.cell? ⟨E, k, none⟩ = some (.int .i64 s1) ∧ Hid (w6.grownBy w' none))
    (first | with_reducible exact keep2v HF.out (hid_drew GZ) | (with_reducible exact keep2v HF.out (hid_drew (hid_more GZ hg))) | (go_split_ands; with_reducible refine keep2v HF.out ?_; with_reducible assumption) | (go_split_ands; with_reducible refine keep2v HF.out (hid_more ?_ hg); with_reducible assumption) | (go_split_ands; with_reducible refine keep2v HF.out (hid_more ?_ hg2); with_reducible assumption) | (go_split_ands; with_reducible refine keep2v HF.out (hid_more ?_ hg3); with_reducible assumption) | (go_split_ands; with_reducible refine keep2v HF.out (hid_more ?_ hg4); with_reducible assumption) | (go_split_ands; with_reducible refine keep2v HF.out (hid_more ?_ hg5); with_reducible assumption))
    ((go_at_call 20; go_split_ands; refine (CF.out _ ?_).mono ?_; assumption; rintro e w' ⟨n1, ok1, rfl, hf1, hg⟩))
  all_goals
    go_split_ands
    clear GZ cl cs CF
    have HG1 := (by assumption : Hid (w6.grownBy _ none))
    have HF1 := Lib.hid hf1
    clear hf1
    obtain ⟨cl, cs, -⟩ := keep2v HF.out HG1
    go_upto_region 11 with fail
    go_region_held3 (fun w' => w'.cell? ⟨D, i, none⟩ = some (.slice p1 l1.length c1) ∧ w'.cell? ⟨E, k, none⟩ = some (.int .i64 s1) ∧ Hid (w6.grownBy w' none))
      (first | with_reducible exact keep2v HF.out (hid_drew HG1) | (with_reducible exact keep2v HF.out (hid_drew (hid_more HG1 hg))) | (go_split_ands; with_reducible refine keep2v HF.out ?_; with_reducible assumption) | (go_split_ands; with_reducible refine keep2v HF.out (hid_more ?_ hg); with_reducible assumption) | (go_split_ands; with_reducible refine keep2v HF.out (hid_more ?_ hg2); with_reducible assumption) | (go_split_ands; with_reducible refine keep2v HF.out (hid_more ?_ hg3); with_reducible assumption) | (go_split_ands; with_reducible refine keep2v HF.out (hid_more ?_ hg4); with_reducible assumption) | (go_split_ands; with_reducible refine keep2v HF.out (hid_more ?_ hg5); with_reducible assumption))
      ((go_at_call 21; go_split_ands; refine (CG.out _ ?_).mono ?_; assumption; rintro e w' ⟨n2, ok2, rfl, hf2, hg⟩))
    all_goals
      go_split_ands
      clear HG1 cl cs CG
      have HG2 := (by assumption : Hid (w6.grownBy _ none))
      obtain ⟨rfl, rfl⟩ := frO_uniq HF1.out hf2
      clear hf2 HF1
      obtain ⟨cl, cs, -⟩ := keep2v HF.out HG2
      go_upto_region 12 with fail
      go_region_held3 (fun w' => w'.cell? ⟨D, i, none⟩ = some (.slice p1 l1.length c1) ∧ w'.cell? ⟨E, k, none⟩ = some (.int .i64 s1) ∧ Hid (w6.grownBy w' none))
        (first | with_reducible exact keep2v HF.out (hid_drew HG2) | (with_reducible exact keep2v HF.out (hid_drew (hid_more HG2 hg))) | (go_split_ands; with_reducible refine keep2v HF.out ?_; with_reducible assumption) | (go_split_ands; with_reducible refine keep2v HF.out (hid_more ?_ hg); with_reducible assumption) | (go_split_ands; with_reducible refine keep2v HF.out (hid_more ?_ hg2); with_reducible assumption) | (go_split_ands; with_reducible refine keep2v HF.out (hid_more ?_ hg3); with_reducible assumption) | (go_split_ands; with_reducible refine keep2v HF.out (hid_more ?_ hg4); with_reducible assumption) | (go_split_ands; with_reducible refine keep2v HF.out (hid_more ?_ hg5); with_reducible assumption))
        (first
          | (go_at_call 23; go_split_ands; refine (C1.out _ ?_).mono ?_; assumption; rintro e w' ⟨q1, d1, rfl, hi1, hg⟩)
          | (go_at_call 24; go_split_ands; refine (C2.out _ ?_).mono ?_; assumption; rintro e w' ⟨q2, d2, rfl, hi2, hg2⟩)
          | (go_at_call 22; refine (iints_any CN _ _ _ _ _ _ _ (hi1.keep hg2) hi2 (by have := HCL.out; omega)).mono ?_; rintro e w' ⟨rfl, hg3⟩)
          | (go_at_call 25; go_split_ands; refine (C3.out _ ?_).mono ?_; assumption; rintro e w' ⟨rfl, hg4⟩)
          | (go_at_call 26; go_split_ands; refine (C4.out _ ?_).mono ?_; assumption; rintro e w' ⟨rfl, hg5⟩))
      all_goals
        go_split_ands
        clear HG2
        have HG3 := (by assumption : Hid (w6.grownBy _ none))
        have H6 := Lib.hid (H5.out.keep HG3.out)
        clear HG3 cl cs H5
        go_wp2_with fail
        exact ⟨⟨k + 1, by omega, congrArg _ (by omega), H6⟩, by simp only [RowKit.intOf]; omega⟩
end Go.Proofs.Ytndfhgklhjfhkaa

/- Claims and plans that come in as arguments. -/
namespace Go.Proofs.Ytndfhgklhjfhkaa
open Go.ChangeShapes Go.WideShapes Go.ChangeAt Go.RowKit Go.Joins Bs
set_option maxRecDepth 100000 in
theorem kit_cellsow : Try.prog.cellsOf 62 = 4 := by kernel_rfl
set_option maxRecDepth 100000 in
theorem kit_cellscl : Try.prog.cellsOf 60 = 3 := by kernel_rfl
set_option maxRecDepth 100000 in
theorem ilist2 {A : Type} {xs : List A} (h : xs.length = 2) : ∃ x0 x1, xs = [x0, x1] := by
  match xs, h with
  | [x0, x1], _ => exact ⟨x0, x1, rfl⟩
set_option maxRecDepth 100000 in
theorem ilist3 {A : Type} {xs : List A} (h : xs.length = 3) : ∃ x0 x1 x2, xs = [x0, x1, x2] := by
  match xs, h with
  | [x0, x1, x2], _ => exact ⟨x0, x1, x2, rfl⟩
set_option maxRecDepth 100000 in
theorem ilist4 {A : Type} {xs : List A} (h : xs.length = 4) : ∃ x0 x1 x2 x3, xs = [x0, x1, x2, x3] := by
  match xs, h with
  | [x0, x1, x2, x3], _ => exact ⟨x0, x1, x2, x3, rfl⟩
section
variable {H : Type} {enc : TypeId × Value → H} {W : World} {base : Nat} {v : Value} {d : DataW H} {ps : List MemPlace}
set_option maxRecDepth 100000 in
/-- A slice of structs of k cells. -/
theorem rowsI_trod {α : Type} (f : α → List Value) (P : α → Prop) (k : Nat) (hk : 0 < k) (hf : ∀ x, (f x).length = k) (x0 : α) {E T : TypeId} (hT : Try.prog.underlying T = some (.slice E)) (hc : Try.prog.cellsOf E = k)
    (hE : ∀ {fuel : Nat} {cs : List Value} {y : DataW H × List MemPlace}, DataW.trod enc Try.prog W 0 (fun _ => true) true fuel E cs = some y → ∃ r : α, cs = f r ∧ P r)
    {fuel : Nat} {c0 : Value} {y : DataW H × List MemPlace} (h : DataW.trod enc Try.prog W 0 (fun _ => true) true fuel T [c0] = some y) :
    ∃ (l : List α) (p : Option Addr) (c : Nat), c0 = .slice p l.length c ∧ RdF W (· < W.heap.size) (.slice p l.length c) l.length (l.flatMap f) ∧ l.length ≤ c ∧ c ≤ 9223372036854775807 ∧ (p = none → c = 0) ∧ ∀ x ∈ l, P x := by
  rcases DataW.trod_slice hT h with ⟨hcs, _⟩ | ⟨a, len, cap, elems, rest, n, _, hcs, _, _, hl, hm, hlen, hel, _, _⟩
  · obtain rfl : c0 = .slice none 0 0 := by simpa using hcs
    exact ⟨[], none, 0, rfl, rdf_nil _ _ _ _, Nat.le_refl _, by omega, fun _ => rfl, fun x h => by cases h⟩
  · obtain rfl : c0 = .slice (some a) len cap := by simpa using hcs
    rw [hc] at hel
    have each : ∀ i, ∃ l : α, i < len → (∀ j, j < k → W.cell? ((a.add (i * k)).add j) = (f l)[j]?) ∧ P l := by
      intro i
      by_cases hi : i < len
      · have h1 := hel i hi
        rw [List.getElem?_eq_getElem (by omega)] at h1
        obtain ⟨cs, hc1, hc2⟩ := Option.bind_eq_some_iff.1 h1
        obtain ⟨l, rfl, hPl⟩ := hE hc2
        obtain ⟨_, _, hc3⟩ := World.cells?_some hc1
        exact ⟨l, fun _ => ⟨fun j hj => hc3 j hj, hPl⟩⟩
      · exact ⟨x0, fun h => absurd h hi⟩
    obtain ⟨g, hfn2⟩ := Classical.axiomOfChoice each
    have hfn : ∀ i, i < len → ∀ j, j < k → W.cell? ((a.add (i * k)).add j) = (f (g i))[j]? := fun i hi => (hfn2 i hi).1
    have hll : ((List.range len).map g).length = len := by simp
    refine ⟨(List.range len).map g, some a, cap, by rw [hll], ?_, by rw [hll]; exact hl, hm, (fun e => by cases e), fun x hx => by
      obtain ⟨i, hi, rfl⟩ := List.mem_map.1 hx
      exact (hfn2 i (List.mem_range.1 hi)).2⟩
    rw [hll]
    refine ⟨some a, cap, rfl, fun hne => ?_⟩
    have hpos : 0 < len := by
      rcases Nat.eq_zero_or_pos len with h0 | h0
      · subst h0
        exact absurd rfl hne
      · exact h0
    obtain ⟨b, off, spot⟩ := a
    have hget : ∀ i, i < len → ∀ j, j < k → ∃ u, (f (g i))[j]? = some u := fun i _ j hj => ⟨_, List.getElem?_eq_getElem (by rw [hf]; exact hj)⟩
    have hspot : spot = none := by
      obtain ⟨u, hu⟩ := hget 0 hpos 0 hk
      have := (hfn 0 hpos 0 hk).trans hu
      simpa [Addr.add] using World.cell?_spot this
    subst hspot
    have hcell : ∀ i j, i < len → j < k → W.cell? ⟨b, off + (i * k + j), none⟩ = (f (g i))[j]? := by
      intro i j hi hj
      have := hfn i hi j hj
      rw [Go.WideShapes.add_plain, Go.WideShapes.add_plain] at this
      rw [← this]
      congr 2
      omega
    refine ⟨b, off, rfl, ?_, fun j x hj => ?_⟩
    · obtain ⟨u, hu⟩ := hget 0 hpos 0 hk
      exact World.block_lt_of_cell? W ⟨b, off + (0 * k + 0), none⟩ ((hcell 0 0 hpos hk).trans hu)
    have hj2 : j < len * k := by
      have := (List.getElem?_eq_some_iff.1 hj).1
      rw [flat_len f k hf, hll] at this
      exact this
    have hm1 : j / k < len := (Nat.div_lt_iff_lt_mul hk).2 hj2
    have hm2 : j % k < k := Nat.mod_lt _ hk
    have hd : j = j / k * k + j % k := by rw [Nat.mul_comm]; exact (Nat.div_add_mod j k).symm
    have hat : ((List.range len).map g)[j / k]? = some (g (j / k)) := by
      rw [List.getElem?_map, List.getElem?_range hm1]; rfl
    rw [hd] at hj ⊢
    rw [flat_at f k hf _ _ _ _ hat hm2] at hj
    rw [hcell _ _ hm1 hm2]
    exact hj
set_option maxRecDepth 100000 in
theorem ow_trod {fuel : Nat} {cs : List Value} {y : DataW H × List MemPlace} (h : DataW.trod enc Try.prog W 0 (fun _ => true) true fuel 62 cs = some y) : ∃ x : Od, cs = odC x ∧ True := by
  obtain ⟨xs, n, _, _, hl, hlen, hf⟩ := DataW.trod_struct Try.underlying62 h
  rw [kit_cellsow] at hl
  obtain ⟨c0, c1, c2, c3, rfl⟩ := ilist4 hl
  obtain ⟨x0, x1, rfl⟩ := ilist2 hlen
  have h0 : DataW.trod enc Try.prog W 0 (fun _ => true) true n 3 [c0] = some x0 := by simpa [Value.cells, kit_cellsInt] using hf 0 _ rfl
  have h1 : DataW.trod enc Try.prog W 0 (fun _ => true) true n 60 [c1, c2, c3] = some x1 := by simpa [Value.cells, kit_cellsInt, kit_cellscl] using hf 1 _ rfl
  obtain ⟨m0, e0, _, w0⟩ := DataW.trod_int Try.underlying3 h0
  obtain rfl : c0 = .int .i64 m0 := by simpa using e0
  obtain ⟨ys, k, _, _, hl2, hlen2, hg⟩ := DataW.trod_struct Try.underlying60 h1
  obtain ⟨y0, y1, y2, rfl⟩ := ilist3 hlen2
  have g0 : DataW.trod enc Try.prog W 0 (fun _ => true) true k 3 [c1] = some y0 := by simpa [Value.cells, kit_cellsInt] using hg 0 _ rfl
  have g1 : DataW.trod enc Try.prog W 0 (fun _ => true) true k 3 [c2] = some y1 := by simpa [Value.cells, kit_cellsInt] using hg 1 _ rfl
  have g2 : DataW.trod enc Try.prog W 0 (fun _ => true) true k 3 [c3] = some y2 := by simpa [Value.cells, kit_cellsInt] using hg 2 _ rfl
  obtain ⟨m1, e1, _, w1⟩ := DataW.trod_int Try.underlying3 g0
  obtain rfl : c1 = .int .i64 m1 := by simpa using e1
  obtain ⟨m2, e2, _, w2⟩ := DataW.trod_int Try.underlying3 g1
  obtain rfl : c2 = .int .i64 m2 := by simpa using e2
  obtain ⟨m3, e3, _, w3⟩ := DataW.trod_int Try.underlying3 g2
  obtain rfl : c3 = .int .i64 m3 := by simpa using e3
  exact ⟨⟨m0, m1, m2, m3⟩, rfl, trivial⟩
set_option maxRecDepth 100000 in
theorem opn_owneds (hval : Value.okWide Try.prog W .any base 23 v) (h : DataW.Trod enc Try.prog W 0 (fun _ => true) true 23 v d ps) :
    ∃ (l : List Od) (p : Option Addr) (c : Nat), v = .slice p l.length c ∧ RdF W (· < W.heap.size) (.slice p l.length c) l.length (l.flatMap odC) ∧ (p = none → c = 0) ∧ l.length ≤ c ∧ c ≤ 9223372036854775807 := by
  obtain ⟨p0, n0, c0, rfl⟩ := okWide_slice Try.underlying23 hval
  obtain ⟨fuel, hf⟩ := h
  obtain ⟨l, p, c, e, h1, h2, h3, h4, -⟩ := rowsI_trod odC (fun _ => True) 4 (by decide) (fun _ => rfl) ⟨0, 0, 0, 0⟩ Try.underlying23 kit_cellsow ow_trod (by simpa [Value.cells] using hf)
  injection e with e1 e2 e3
  subst e1
  subst e2
  subst e3
  exact ⟨l, p0, c0, rfl, h1, h4, h2, h3⟩
end
end Go.Proofs.Ytndfhgklhjfhkaa

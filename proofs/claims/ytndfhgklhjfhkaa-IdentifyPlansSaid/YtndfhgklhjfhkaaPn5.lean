/- Parts of the proof, packed: IdAwk, IdInt, IdLwS, IdStM, IdRck, IdRcn, IdRpl, IdRtw. -/
import Derived.Test.YtndfhgklhjfhkaaPn4
import Derived.Laws.StructEq
import Derived.Test.YtndfhgklhjfhkaaPn2
import Derived.Test.YtndfhgklhjfhkaaPn3
import Derived.Deep.CutRange
import Derived.Deep.AppendLies
/- The laws' example. -/
namespace Go.Proofs.Ytndfhgklhjfhkaa
open Go.RowKit Bs
set_option maxRecDepth 100000 in
set_option maxHeartbeats 1600000 in
theorem iclaim_any (r id : Int) (w : World) :
    Calls Try.prog 41 #[.int .i64 r, .int .i64 id] w fun e w' => e = .returned (.agg #[.int .i64 r, .int .i64 0, .int .i64 id, .int .i64 8]) ∧ w.grownBy w' none := by
  obtain ⟨n1, n2⟩ := tone_box w #[.int .i64 r, .int .i64 0, .int .i64 id, .int .i64 8] 62
  have H := Lib.hid (And.intro n1 n2)
  have hsz : (Try.prog.info? 62).map (·.size) = some 4 := by kernel_rfl
  have HS := Lib.hid hsz
  have HU := Lib.hid Try.underlying62
  clear n1 n2 hsz
  go_enter Try.func41, Try.ntmps41
  go_wp2_with fail
  refine bodyPost_ret (v := .agg #[.int .i64 r, .int .i64 0, .int .i64 id, .int .i64 8]) (results_cell_row (p := 4) (fr := (0, 0)) (by kernel_rfl) _ _ w.heap.size _ _ _ rfl H.out.1 HU.out rfl HS.out) rfl ⟨rfl, H.out.2⟩
def exL : List Od := [⟨1, 0, 5, 8⟩, ⟨2, 0, 5, 8⟩, ⟨3, 0, 1, 8⟩]
set_option maxRecDepth 100000 in
theorem ex_p0 : plnX exL 0 = 0 ∧ plnS exL 0 = 0 ∧ plnL exL 0 = 8 := ⟨by kernel_rfl, by kernel_rfl, by kernel_rfl⟩
set_option maxRecDepth 100000 in
theorem ex_p1 : plnE exL 0 = [⟨3, 1⟩] := by kernel_rfl
set_option maxRecDepth 100000 in
theorem ex_r0 : rsX exL 0 = 0 := by kernel_rfl
set_option maxRecDepth 100000 in
theorem ex_r1 : rsO exL 0 = [⟨1, 0, 5, 8⟩, ⟨2, 0, 2, 8⟩, ⟨3, 0, 1, 8⟩] := by kernel_rfl
set_option maxRecDepth 100000 in
theorem ex_l : plS 9 8 = 1 ∧ plB 9 8 = 0 ∧ plOk 9 8 = true := ⟨by kernel_rfl, by kernel_rfl, by kernel_rfl⟩
set_option maxRecDepth 100000 in
theorem rd12 (w : World) (q : Nat → Prop) (hq : q w.heap.size) : RdF (w.alloc (.cells #[.int .i64 1, .int .i64 0, .int .i64 5, .int .i64 8, .int .i64 2, .int .i64 0, .int .i64 5, .int .i64 8, .int .i64 3, .int .i64 0, .int .i64 1, .int .i64 8] 62)) q (.slice (some ⟨w.heap.size, 0, none⟩) exL.length 3) exL.length (exL.flatMap odC) := by
  refine ⟨_, 3, rfl, fun _ => ⟨_, _, rfl, hq, fun i u hi => ?_⟩⟩
  rw [Nat.zero_add, cell_of_row _ _ _ _ _ _ (heap_alloc_new w _)]
  simpa [exL, odC] using hi
set_option maxRecDepth 100000 in
theorem keepAw {w5 w' : World} {B g1 o1 g2 o2 : Nat} {c : Nat} (h : w5.cell? ⟨B, 2, none⟩ = some (.slice (some ⟨g1, o1, none⟩) 1 c) ∧ w5.cell? ⟨g1, o1, none⟩ = some (.int .i64 3) ∧ w5.cell? ⟨g1, o1 + 1, none⟩ = some (.int .i64 1) ∧ w5.cell? ⟨g2, o2 + 4, none⟩ = some (.int .i64 2) ∧ w5.cell? ⟨g2, o2 + 4 + 1, none⟩ = some (.int .i64 0) ∧ w5.cell? ⟨g2, o2 + 4 + 2, none⟩ = some (.int .i64 2) ∧ w5.cell? ⟨g2, o2 + 4 + 3, none⟩ = some (.int .i64 8)) (hg : Hid (w5.grownBy w' none)) :
    w'.cell? ⟨B, 2, none⟩ = some (.slice (some ⟨g1, o1, none⟩) 1 c) ∧ w'.cell? ⟨g1, o1, none⟩ = some (.int .i64 3) ∧ w'.cell? ⟨g1, o1 + 1, none⟩ = some (.int .i64 1) ∧ w'.cell? ⟨g2, o2 + 4, none⟩ = some (.int .i64 2) ∧ w'.cell? ⟨g2, o2 + 4 + 1, none⟩ = some (.int .i64 0) ∧ w'.cell? ⟨g2, o2 + 4 + 2, none⟩ = some (.int .i64 2) ∧ w'.cell? ⟨g2, o2 + 4 + 3, none⟩ = some (.int .i64 8) ∧ Hid (w5.grownBy w' none) := by
  obtain ⟨h0, h1, h2, h3, h4, h5, h6⟩ := h
  exact ⟨hg.out.cell h0 (by simp), hg.out.cell h1 (by simp), hg.out.cell h2 (by simp), hg.out.cell h3 (by simp), hg.out.cell h4 (by simp), hg.out.cell h5 (by simp), hg.out.cell h6 (by simp), hg⟩
set_option maxRecDepth 100000 in
set_option maxHeartbeats 6400000 in
theorem iawake_any (w : World) :
    Calls Try.prog 19 #[] w fun e w' => e = .returned (.bool true) ∧ w.grownBy w' none := by
  go_enter Try.func19, Try.ntmps19
  go_wp2_with fail
  refine (iclaim_any 1 5 w).mono ?_
  rintro e w1 ⟨rfl, hg⟩
  have G1 := Lib.hid hg
  clear hg
  go_wp2_with fail
  refine (iclaim_any 2 5 w1).mono ?_
  rintro e w2 ⟨rfl, hg⟩
  have G2 := Lib.hid (grown_trans G1.out hg)
  clear hg G1
  go_wp2_with fail
  refine (iclaim_any 3 1 w2).mono ?_
  rintro e w3 ⟨rfl, hg⟩
  have G3 := Lib.hid (grown_trans G2.out hg)
  have H3 := Lib.hid (rd12 w3 (fun _ => True) trivial)
  have HG3 := Lib.hid (grown_trans G3.out (World.grownBy_alloc w3 (.cells #[.int .i64 1, .int .i64 0, .int .i64 5, .int .i64 8, .int .i64 2, .int .i64 0, .int .i64 5, .int .i64 8, .int .i64 3, .int .i64 0, .int .i64 1, .int .i64 8] 62) none))
  clear hg G2 G3
  go_upto_region 2 with fail
  generalize w3.alloc _ = w4 at *
  go_wp2_with fail
  refine (iplan_any exL (some ⟨w3.heap.size, 0, none⟩) 3 0 _ w4 H3.out (by decide)).mono ?_
  rintro e w5 ⟨p5, c5, rfl, ho, hg⟩
  rw [ex_p0.1, ex_p0.2.1, ex_p0.2.2, ex_p1]
  rw [ex_p1] at ho
  obtain ⟨m1, m2⟩ := tone_box w5 #[.int .i64 0, .int .i64 8, .slice p5 1 c5] 26
  have H5 := Lib.hid (And.intro ((H3.out.keep hg).keep m2) (And.intro (grown_trans (grown_trans HG3.out hg) m2) (And.intro m1 (ho.kept m2 (by cases (Value.slice p5 [(⟨3, 1⟩ : Ed)].length c5).ownBlock <;> simp)))))
  clear m1 m2 ho hg H3 HG3
  go_upto_region 3 with fail
  generalize w5.alloc _ = w6 at *
  go_wp2_with fail
  refine (ires_any exL (some ⟨w3.heap.size, 0, none⟩) 3 0 _ w6 H5.out.1 (fun h => by cases h) (by decide)).mono ?_
  rintro e w7 ⟨p7, c7, rfl, ho, hg⟩
  rw [ex_r0, ex_r1]
  rw [ex_r1] at ho
  have H7 := Lib.hid (And.intro (kept_row H5.out.2.2.1 hg (by simp)) (And.intro (rdf_of_own (H5.out.2.2.2.kept hg (by cases (Value.slice p5 [(⟨3, 1⟩ : Ed)].length c5).ownBlock <;> simp))) (And.intro (rdf_of_own ho) (grown_trans H5.out.2.1 hg))))
  clear ho hg H5
  go_wp2_with fail
  refine (iplc_any 9 8 w7).mono ?_
  rintro e w8 ⟨rfl, hg⟩
  rw [ex_l.1, ex_l.2.1, ex_l.2.2]
  have H8 := Lib.hid (And.intro (kept_row H7.out.1 hg (by simp)) (And.intro (H7.out.2.1.keep hg) (And.intro (H7.out.2.2.1.keep hg) (grown_trans H7.out.2.2.2 hg))))
  clear hg H7
  obtain ⟨-, g1, o1, rfl, -, hE⟩ := ed_cells H8.out.2.1 (by decide)
  obtain ⟨e0, e1⟩ := hE 0 _ rfl
  obtain ⟨-, g2, o2, rfl, -, hO⟩ := od_cells H8.out.2.2.1 (by decide)
  obtain ⟨q0, q1, q2, q3⟩ := hO 1 _ rfl
  rw [Nat.zero_mul, Nat.add_zero] at e0 e1
  rw [Nat.one_mul] at q0 q1 q2 q3
  have c2 : w8.cell? ⟨w5.heap.size, 2, none⟩ = some (.slice (some ⟨g1, o1, none⟩) 1 c5) := cell_of_row _ _ 2 _ _ _ H8.out.1
  have HF := Lib.hid (And.intro c2 (And.intro e0 (And.intro e1 (And.intro q0 (And.intro q1 (And.intro q2 q3))))))
  have HGW := Lib.hid H8.out.2.2.2
  clear hE hO c2 e0 e1 q0 q1 q2 q3 H8
  have GZ : Hid (w8.grownBy w8 none) := Lib.hid (grown_refl _ _)
  go_upto_region 5 with fail
  obtain ⟨a0, a1, a2, a3, a4, a5, a6⟩ := HF.out
  go_region_held3 (fun w' => w'.cell? ⟨w5.heap.size, 2, none⟩ = some (.slice (some ⟨g1, o1, none⟩) 1 c5) ∧ w'.cell? ⟨g1, o1, none⟩ = some (.int .i64 3) ∧ w'.cell? ⟨g1, o1 + 1, none⟩ = some (.int .i64 1) ∧ w'.cell? ⟨g2, o2 + 4, none⟩ = some (.int .i64 2) ∧ w'.cell? ⟨g2, o2 + 4 + 1, none⟩ = some (.int .i64 0) ∧ w'.cell? ⟨g2, o2 + 4 + 2, none⟩ = some (.int .i64 2) ∧ w'.cell? ⟨g2, o2 + 4 + 3, none⟩ = some (.int .i64 8) ∧ Hid (w8.grownBy w' none))
    (first | with_reducible exact keepAw HF.out (hid_drew GZ) | (with_reducible exact keepAw HF.out (hid_drew (hid_more GZ hg))) | (go_split_ands; with_reducible refine keepAw HF.out ?_; with_reducible assumption) | (go_split_ands; with_reducible refine keepAw HF.out (hid_more ?_ hg); with_reducible assumption))
    ((go_at_call 41; refine (iclaim_any 2 2 _).mono ?_; rintro e w' ⟨rfl, hg⟩))
  all_goals
    go_split_ands
    go_wp2_with fail
    go_ret
    exact ⟨rfl, grown_trans HGW.out (Hid.out (by assumption))⟩
end Go.Proofs.Ytndfhgklhjfhkaa

/- The reference's Ints at equal lists. -/
namespace Go.Proofs.Ytndfhgklhjfhkaa
open Go.RowKit Bs
end Go.Proofs.Ytndfhgklhjfhkaa

/- What the laws on claims hold in memory: the tape, two lists of claims, two numbers. -/
namespace Go.Proofs.Ytndfhgklhjfhkaa
open Go.RowKit Bs
set_option maxRecDepth 100000 in
theorem own_nlI {w : World} {base size n m c : Nat} {e : TypeId} {p : Option Addr} {xs : List Value} (h : w.ownsRow base e size (.slice p m c) n xs) : p = none → c = 0 := by
  rintro rfl
  rcases h.2 with ⟨e1, _⟩ | ⟨g', cap', cur, hv, _⟩
  · injection e1
  · cases hv
/-- The tape at a; the lists in D, the numbers in E. -/
structure LW (W : World) (a D E : Nat) (l0 l1 : List Od) (p0 p1 : Option Addr) (c0 c1 : Nat) (s0 s1 : Int) (w : World) : Prop where
  di : w.heap[D]? = some (.cells #[.slice p0 l0.length c0, .slice p1 l1.length c1] 23 (0, 0))
  ei : w.heap[E]? = some (.cells #[.int .i64 s0, .int .i64 s1] 3 (0, 0))
  r0 : RdF w (fun _ => True) (.slice p0 l0.length c0) l0.length (l0.flatMap odC)
  r1 : RdF w (fun _ => True) (.slice p1 l1.length c1) l1.length (l1.flatMap odC)
  gr : W.grownBy w none
/-- One of the lists, with where it lies. -/
structure LV (l : List Od) (p : Option Addr) (c : Nat) : Prop where
  n : p = none → c = 0
  c : l.length ≤ c ∧ c ≤ 9223372036854775807
  m : l.length ≤ 200
section
variable {W w w1 : World} {a D E : Nat} {l0 l1 : List Od} {p0 p1 : Option Addr} {c0 c1 : Nat} {s0 s1 : Int}
set_option maxRecDepth 100000 in
theorem LW.keep (h : LW W a D E l0 l1 p0 p1 c0 c1 s0 s1 w) (g : w.grownBy w1 none) : LW W a D E l0 l1 p0 p1 c0 c1 s0 s1 w1 := ⟨kept_row h.di g (by simp), kept_row h.ei g (by simp), h.r0.keep g, h.r1.keep g, grown_trans h.gr g⟩
set_option maxRecDepth 100000 in
theorem LW.list (h : LW W a D E l0 l1 p0 p1 c0 c1 s0 s1 w) (h0 : LV l0 p0 c0) (h1 : LV l1 p1 c1) {i : Nat} (hi : i < 2) :
    ∃ l p c, LV l p c ∧ w.cell? ⟨D, i, none⟩ = some (.slice p l.length c) ∧ RdF w (fun _ => True) (.slice p l.length c) l.length (l.flatMap odC) := by
  rcases i with _ | _ | i
  · exact ⟨l0, p0, c0, h0, cell_of_row _ _ 0 _ _ _ h.di, h.r0⟩
  · exact ⟨l1, p1, c1, h1, cell_of_row _ _ 1 _ _ _ h.di, h.r1⟩
  · omega
set_option maxRecDepth 100000 in
theorem LW.num (h : LW W a D E l0 l1 p0 p1 c0 c1 s0 s1 w) {i : Nat} (hi : i < 2) : ∃ s : Int, w.cell? ⟨E, i, none⟩ = some (.int .i64 s) := by
  rcases i with _ | _ | i
  · exact ⟨s0, cell_of_row _ _ 0 _ _ _ h.ei⟩
  · exact ⟨s1, cell_of_row _ _ 1 _ _ _ h.ei⟩
  · omega
set_option maxRecDepth 100000 in
theorem keep2v {b c i j : Nat} {x y : Value} (h : w.cell? ⟨b, i, none⟩ = some x ∧ w.cell? ⟨c, j, none⟩ = some y) (hg : Hid (w.grownBy w1 none)) :
    w1.cell? ⟨b, i, none⟩ = some x ∧ w1.cell? ⟨c, j, none⟩ = some y ∧ Hid (w.grownBy w1 none) := ⟨hg.out.cell h.1 (by simp), hg.out.cell h.2 (by simp), hg⟩
set_option maxRecDepth 100000 in
theorem RI.rdT {v : Value} {M : List Int} (h : RI W v M w) : ∃ p c, v = .slice p M.length c ∧ Rd w (fun _ => True) (.slice p M.length c) (M.map fun z => Value.int .i64 z) := by
  obtain ⟨p, c, rfl, -, -⟩ := own_shape h.own
  exact ⟨p, c, rfl, h.rd.mono fun _ _ => trivial⟩
end
/-- What a call that gives numbers leaves. -/
def IntsP (M : List Int) (w : World) (e : Ending) (w' : World) : Prop := ∃ p c, e = .returned (.slice p M.length c) ∧ Rd w' (fun _ => True) (.slice p M.length c) (M.map fun z => Value.int .i64 z) ∧ w.grownBy w' none
set_option maxRecDepth 100000 in
theorem ri_ints {M : List Int} {w : World} {e : Ending} {w' : World} (h : ∃ v, e = .returned v ∧ RI w v M w') : IntsP M w e w' := by
  obtain ⟨v, rfl, h⟩ := h
  obtain ⟨p, c, rfl, h2⟩ := h.rdT
  exact ⟨p, c, rfl, h2, h.gr⟩
end Go.Proofs.Ytndfhgklhjfhkaa

/- identify: what Resolve leaves, the mathematics. -/
namespace Go.Proofs.Ytndfhgklhjfhkaa
open Go.RowKit Bs
end Go.Proofs.Ytndfhgklhjfhkaa

/- The reference's Check of claims. -/
namespace Go.Proofs.Ytndfhgklhjfhkaa
open Go.RowKit Bs
set_option maxRecDepth 100000 in
set_option maxHeartbeats 12800000 in
theorem ircheck_any (l : List Od) (p : Option Addr) (c : Nat) (q : Nat → Prop) (w : World) (hR : RdF w q (.slice p l.length c) l.length (l.flatMap odC)) (hm : l.length ≤ 9223372036854775807) :
    Calls Try.prog 16 #[.slice p l.length c] w fun e w' => e = .returned (.int .i64 (ckO l)) ∧ w.grownBy w' none := by
  have HR := Lib.hid hR
  clear hR
  go_enter Try.func16, Try.ntmps16
  by_cases h1 : 192 < l.length
  · have h1' : (192 : Int) < (l.length : Int) := by omega
    go_wp2_with fail
    go_ret
    exact ⟨by unfold ckO; rw [if_pos h1]; rfl, grown_refl _ _⟩
  have h1' : ¬ (192 : Int) < (l.length : Int) := by omega
  have G0 : Hid (w.grownBy w none) := Lib.hid (grown_refl _ _)
  go_wp2_with fail
  go_loopw [3] (fun a wr => ∃ k : Nat, k ≤ l.length ∧ a = .int .i64 (k : Int) ∧ Hid (w.grownBy wr none) ∧ Hid ((l.take k).any wrO = false)) (fun a _ => l.length - (RowKit.intOf a).toNat)
  case atStart => exact ⟨0, Nat.zero_le _, rfl, G0, Lib.hid rfl⟩
  case round =>
    obtain ⟨w2, rfl⟩ : ∃ w2, w2 = wr := ⟨_, rfl⟩
    obtain ⟨k, hk, rfl, G, HN⟩ := hrel
    clear G0
    by_cases hlt : k < l.length
    · obtain ⟨-, b, off, rfl, -, hc⟩ := od_cells (HR.out.keep G.out) (by omega)
      obtain ⟨x, hx⟩ : ∃ x, l[k]? = some x := ⟨_, List.getElem?_eq_getElem hlt⟩
      obtain ⟨a0, a1, a2, a3⟩ := hc k x hx
      have HX := Lib.hid hx
      have hbl := block_lt_of_cell a0
      have HB := Lib.hid (heap_alloc_new w2 (.cells #[.int .i64 x.s, .int .i64 x.i, .int .i64 x.l] 60))
      have HG := Lib.hid (World.grownBy_alloc w2 (.cells #[.int .i64 x.s, .int .i64 x.i, .int .i64 x.l] 60) none)
      have HA0 := Lib.hid a0
      clear hc hx
      go_upto_region 7 with fail
      clear a0 a1 a2 a3
      generalize w2.alloc _ = w3 at *
      have G1 := Lib.hid (grown_trans G.out HG.out)
      have d0 := HG.out.cell HA0.out (by simp)
      have e0 : w3.cell? ⟨w2.heap.size, 0, none⟩ = some (.int .i64 x.s) := cell_of_row _ _ _ _ _ _ HB.out
      have e1 : w3.cell? ⟨w2.heap.size, 1, none⟩ = some (.int .i64 x.i) := cell_of_row _ _ _ _ _ _ HB.out
      have e2 : w3.cell? ⟨w2.heap.size, 2, none⟩ = some (.int .i64 x.l) := cell_of_row _ _ _ _ _ _ HB.out
      have HT : Hid (wrO x = true → ckO l = 2) := Lib.hid (fun h => by unfold ckO; rw [if_neg h1, any_at HX.out h]; rfl)
      have HF : Hid (wrO x = false → (l.take (k + 1)).any wrO = false) := Lib.hid (fun h => any_take HN.out HX.out h)
      have HW : Hid (wrO x = !(inV x.r 1 99 && inV x.s 0 7 && inV x.i 1 256 && vl x.l)) := Lib.hid rfl
      obtain ⟨b1, h1⟩ : ∃ b, inV x.r 1 99 = b := ⟨_, rfl⟩
      obtain ⟨b2, h2⟩ : ∃ b, inV x.s 0 7 = b := ⟨_, rfl⟩
      obtain ⟨b3, h3⟩ : ∃ b, inV x.i 1 256 = b := ⟨_, rfl⟩
      obtain ⟨b4, h4⟩ : ∃ b, vl x.l = b := ⟨_, rfl⟩
      rw [h1, h2, h3, h4] at HW
      have H1 := Lib.hid h1
      have H2 := Lib.hid h2
      have H3 := Lib.hid h3
      have H4 := Lib.hid h4
      clear h1 h2 h3 h4 G HN HG HA0 HB
      cases b1
      case false =>
        go_wp2_with ((first | (go_at_call 50; first | with_reducible refine (rin10_lit x.r 1 99 _ H1.out _).mono ?_ | with_reducible refine (rin10_lit x.s 0 7 _ H2.out _).mono ?_ | with_reducible refine (rin10_lit x.i 1 256 _ H3.out _).mono ?_) | (go_at_call 51; refine (vlr10_lit _ _ H4.out _).mono ?_)); rintro e w' ⟨rfl, rfl⟩)
        go_ret
        rw [HT.out (by rw [HW.out]; rfl)]
        exact ⟨rfl, G1.out⟩
      cases b2
      case false =>
        go_wp2_with ((first | (go_at_call 50; first | with_reducible refine (rin10_lit x.r 1 99 _ H1.out _).mono ?_ | with_reducible refine (rin10_lit x.s 0 7 _ H2.out _).mono ?_ | with_reducible refine (rin10_lit x.i 1 256 _ H3.out _).mono ?_) | (go_at_call 51; refine (vlr10_lit _ _ H4.out _).mono ?_)); rintro e w' ⟨rfl, rfl⟩)
        go_ret
        rw [HT.out (by rw [HW.out]; rfl)]
        exact ⟨rfl, G1.out⟩
      cases b3
      case false =>
        go_wp2_with ((first | (go_at_call 50; first | with_reducible refine (rin10_lit x.r 1 99 _ H1.out _).mono ?_ | with_reducible refine (rin10_lit x.s 0 7 _ H2.out _).mono ?_ | with_reducible refine (rin10_lit x.i 1 256 _ H3.out _).mono ?_) | (go_at_call 51; refine (vlr10_lit _ _ H4.out _).mono ?_)); rintro e w' ⟨rfl, rfl⟩)
        go_ret
        rw [HT.out (by rw [HW.out]; rfl)]
        exact ⟨rfl, G1.out⟩
      cases b4
      case false =>
        go_wp2_with ((first | (go_at_call 50; first | with_reducible refine (rin10_lit x.r 1 99 _ H1.out _).mono ?_ | with_reducible refine (rin10_lit x.s 0 7 _ H2.out _).mono ?_ | with_reducible refine (rin10_lit x.i 1 256 _ H3.out _).mono ?_) | (go_at_call 51; refine (vlr10_lit _ _ H4.out _).mono ?_)); rintro e w' ⟨rfl, rfl⟩)
        go_ret
        rw [HT.out (by rw [HW.out]; rfl)]
        exact ⟨rfl, G1.out⟩
      go_wp2_with ((first | (go_at_call 50; first | with_reducible refine (rin10_lit x.r 1 99 _ H1.out _).mono ?_ | with_reducible refine (rin10_lit x.s 0 7 _ H2.out _).mono ?_ | with_reducible refine (rin10_lit x.i 1 256 _ H3.out _).mono ?_) | (go_at_call 51; refine (vlr10_lit _ _ H4.out _).mono ?_)); rintro e w' ⟨rfl, rfl⟩)
      exact ⟨⟨k + 1, by omega, congrArg _ (by omega), G1, Lib.hid (HF.out (by rw [HW.out]; rfl))⟩, by simp only [RowKit.intOf]; omega⟩
    · obtain rfl : k = l.length := by omega
      have HN2 : Hid (l.any wrO = false) := Lib.hid (any_end HN.out (Nat.le_refl _))
      clear HN
      go_wp2_with fail
      go_loopw [5] (fun a wr => ∃ k : Nat, 1 ≤ k ∧ (k ≤ l.length ∨ k = 1) ∧ a = .int .i64 (k : Int) ∧ Hid (w.grownBy wr none) ∧ Hid (∀ i x y, i + 1 < k → l[i]? = some x → l[i + 1]? = some y → ltO x y = true)) (fun a _ => l.length - (RowKit.intOf a).toNat)
      case atStart => exact ⟨1, by omega, Or.inr rfl, rfl, G, Lib.hid (fun i x y h => by omega)⟩
      case round =>
        clear G
        obtain ⟨w3, rfl⟩ : ∃ w3, w3 = wr := ⟨_, rfl⟩
        obtain ⟨k, hk1, hk, rfl, G, HN⟩ := hrel
        by_cases hlt : k < l.length
        · obtain ⟨j, rfl⟩ : ∃ j, k = j + 1 := ⟨k - 1, by omega⟩
          obtain ⟨-, b, off, rfl, hq, hc⟩ := od_cells (HR.out.keep G.out) (by omega)
          obtain ⟨x, hx⟩ : ∃ x, l[j]? = some x := ⟨_, List.getElem?_eq_getElem (by omega)⟩
          obtain ⟨y, hy⟩ : ∃ y, l[j + 1]? = some y := ⟨_, List.getElem?_eq_getElem hlt⟩
          obtain ⟨a0, a1, a2, a3⟩ := hc j x hx
          obtain ⟨b0, b1, b2, b3⟩ := hc (j + 1) y hy
          have HXY := Lib.hid (And.intro hx hy)
          have ew1 : ((j : Int) + 1 - 1) = (j : Int) := by omega
          have ew2 : IntKind.i64.wrap ((j : Int) + 1 - 1) = (j : Int) := by rw [ew1, IntWalk.i64_in _ (by omega)]
          have ew3 : IntKind.i64.wrap (j : Int) = (j : Int) := IntWalk.i64_in _ (by omega)
          have j0 : (0 : Int) ≤ (j : Int) := by omega
          have j1 : (0 : Int) ≤ (j : Int) + 1 := by omega
          have j2 : (j : Int) < (l.length : Int) := by omega
          have j3 : (j : Int) + 1 < (l.length : Int) := by omega
          have j4 : ((j : Int) + 1).toNat = j + 1 := by omega
          have hbl := block_lt_of_cell a0
          clear hc hx hy
          have hcast : ((j + 1 : Nat) : Int) = (j : Int) + 1 := by omega
          rw [hcast]
          go_upto_region 12 with fail
          go_cut [6, 7] from 53 to 61 (fun u v wx => ∃ g1 g2 : Nat, u = .pointer (some ⟨g1, 0, none⟩) ∧ v = .pointer (some ⟨g2, 0, none⟩) ∧ Hid (wx.heap[g1]? = some (.cells #[.int .i64 x.r, .int .i64 x.s, .int .i64 x.i, .int .i64 x.l] 62 (0, 0)) ∧ wx.heap[g2]? = some (.cells #[.int .i64 y.r, .int .i64 y.s, .int .i64 y.i, .int .i64 y.l] 62 (0, 0)) ∧ w3.grownBy wx none))
          case first =>
            go_region
            · go_wp2_with fail
              go_meet
              obtain ⟨k1, k2, k3, k4⟩ := two_boxes w3 #[.int .i64 x.r, .int .i64 x.s, .int .i64 x.i, .int .i64 x.l] #[.int .i64 y.r, .int .i64 y.s, .int .i64 y.i, .int .i64 y.l] 62 62
              exact ⟨_, _, rfl, rfl, Lib.hid ⟨k1, k2, grown_drew k3⟩⟩
            · go_wp2_with fail
              go_meet
              obtain ⟨k1, k2, k3, k4⟩ := two_boxes w3 #[.int .i64 y.r, .int .i64 y.s, .int .i64 y.i, .int .i64 y.l] #[.int .i64 x.r, .int .i64 x.s, .int .i64 x.i, .int .i64 x.l] 62 62
              exact ⟨_, _, rfl, rfl, Lib.hid ⟨k2, k1, grown_drew k3⟩⟩
          case rest =>
          obtain ⟨g1, g2, rfl, rfl, HB⟩ := hcut
          clear a0 a1 a2 a3 b0 b1 b2 b3 hbl
          rename_i wx
          obtain ⟨d0, d1, d2, d3⟩ := row4i HB.out.1
          obtain ⟨e0, e1, e2, e3⟩ := row4i HB.out.2.1
          have G1 := Lib.hid (grown_trans G.out HB.out.2.2)
          have HT : Hid (ltO x y = false → ckO l = 25) := Lib.hid (fun h => by
            unfold ckO; rw [if_neg h1, HN2.out, ascO_hit HXY.out.1 HXY.out.2 h]; rfl)
          have HF : Hid (ltO x y = true → ∀ i x2 y2, i + 1 < j + 1 + 1 → l[i]? = some x2 → l[i + 1]? = some y2 → ltO x2 y2 = true) := Lib.hid (fun h i x2 y2 hi hx2 hy2 => by
            by_cases hij : i = j
            · subst hij
              have e1 := HXY.out.1.symm.trans hx2
              have e2 := HXY.out.2.symm.trans hy2
              injection e1 with e1
              injection e2 with e2
              subst e1
              subst e2
              exact h
            · exact HN.out i x2 y2 (by omega) hx2 hy2)
          clear HB G HN HXY
          by_cases q1 : y.r < x.r
          · go_wp2_with fail
            go_ret
            rw [HT.out (decide_eq_false (by omega))]
            exact ⟨rfl, G1.out⟩
          · by_cases q2 : x.r = y.r
            · have q2' : (x.r == y.r) = true := by simpa using q2
              by_cases q3 : y.s ≤ x.s
              · have H := Lib.hid (HT.out (decide_eq_false (by omega)))
                have Q2 := Lib.hid q2
                clear q2
                go_wp2_with fail
                go_ret
                rw [H.out]
                exact ⟨rfl, G1.out⟩
              · have H := Lib.hid (HF.out (decide_eq_true (by omega)))
                have Q2 := Lib.hid q2
                clear q2
                go_wp2_with fail
                exact ⟨⟨j + 1 + 1, by omega, Or.inl (by omega), congrArg _ (by omega), G1, H⟩, by simp only [RowKit.intOf]; omega⟩
            · have q2' : (x.r == y.r) = false := by simpa using q2
              have H := Lib.hid (HF.out (decide_eq_true (by omega)))
              clear q2
              go_wp2_with fail
              exact ⟨⟨j + 1 + 1, by omega, Or.inl (by omega), congrArg _ (by omega), G1, H⟩, by simp only [RowKit.intOf]; omega⟩
        · have h2 : ¬ (k : Int) < (l.length : Int) := by omega
          have H := Lib.hid (ascO_end fun i x y hi hx hy => HN.out i x y (by omega) hx hy)
          go_wp2_with fail
          go_ret
          refine ⟨?_, G.out⟩
          unfold ckO
          rw [if_neg h1, HN2.out, H.out]; rfl
end Go.Proofs.Ytndfhgklhjfhkaa

/- The reference's claimed, Conflicts, Length, Free. -/
namespace Go.Proofs.Ytndfhgklhjfhkaa
open Go.RowKit Bs
set_option maxRecDepth 100000 in
set_option maxHeartbeats 6400000 in
theorem irclm_any (l : List Od) (p : Option Addr) (c : Nat) (sub id : Int) (q : Nat → Prop) (w : World) (hR : RdF w q (.slice p l.length c) l.length (l.flatMap odC)) (hm : l.length ≤ 1000) :
    Calls Try.prog 62 #[.slice p l.length c, .int .i64 sub, .int .i64 id] w fun e w' => e = .returned (.int .i64 (cnt l sub id : Int)) ∧ w = w' := by
  have HR := Lib.hid hR
  clear hR
  go_enter Try.func62, Try.ntmps62
  go_wp2_with fail
  go_loopw [7, 8] (fun v a wr => ∃ k : Nat, k ≤ l.length ∧ a = .int .i64 (k : Int) ∧ (∃ n : Nat, n ≤ k ∧ v = .int .i64 (n : Int) ∧ Hid (cnt (l.take k) sub id = n)) ∧ wr = w) (fun _ a _ => l.length - (RowKit.intOf a).toNat)
  case atStart => exact ⟨0, by omega, rfl, ⟨0, Nat.le_refl _, rfl, Lib.hid rfl⟩, rfl⟩
  case round =>
    obtain ⟨k, hk, rfl, ⟨n, hnk, rfl, HN⟩, rfl⟩ := hrel
    by_cases hlt : k < l.length
    · obtain ⟨-, b, off, rfl, -, hc⟩ := od_cells HR.out (by omega)
      obtain ⟨x, hx⟩ : ∃ x, l[k]? = some x := ⟨_, List.getElem?_eq_getElem hlt⟩
      obtain ⟨a0, a1, a2, a3⟩ := hc k x hx
      have HS := Lib.hid (cnt_take hx sub id)
      clear hc hx
      by_cases h1 : x.s = sub
      · have h1' : (x.s == sub) = true := by simpa using h1
        by_cases h2 : x.i = id
        · have h2' : (x.i == id) = true := by simpa using h2
          have HE : Hid (cnt (l.take (k + 1)) sub id = n + 1) := Lib.hid (by rw [HS.out, HN.out, if_pos ⟨h1, h2⟩])
          clear h1 h2
          go_wp2_with fail
          exact ⟨⟨k + 1, by omega, congrArg _ (by omega), ⟨n + 1, by omega, congrArg _ (by omega), HE⟩, (by first | rfl | trivial)⟩, by simp only [RowKit.intOf]; omega⟩
        · have h2' : (x.i == id) = false := by simpa using h2
          have HE : Hid (cnt (l.take (k + 1)) sub id = n) := Lib.hid (by rw [HS.out, HN.out, if_neg (fun h => h2 h.2)]; rfl)
          clear h1 h2
          go_wp2_with fail
          exact ⟨⟨k + 1, by omega, congrArg _ (by omega), ⟨n, by omega, rfl, HE⟩, (by first | rfl | trivial)⟩, by simp only [RowKit.intOf]; omega⟩
      · have h1' : (x.s == sub) = false := by simpa using h1
        have HE : Hid (cnt (l.take (k + 1)) sub id = n) := Lib.hid (by rw [HS.out, HN.out, if_neg (fun h => h1 h.1)]; rfl)
        clear h1
        go_wp2_with fail
        exact ⟨⟨k + 1, by omega, congrArg _ (by omega), ⟨n, by omega, rfl, HE⟩, (by first | rfl | trivial)⟩, by simp only [RowKit.intOf]; omega⟩
    · obtain rfl : k = l.length := by omega
      have HE : Hid (cnt l sub id = n) := Lib.hid (by rw [← HN.out, List.take_length])
      go_wp2_with fail
      go_ret
      rw [HE.out]
      exact ⟨rfl, rfl⟩
set_option maxRecDepth 100000 in
set_option maxHeartbeats 6400000 in
theorem irlen_any (l : List Od) (p : Option Addr) (c : Nat) (sub : Int) (q : Nat → Prop) (w : World) (hR : RdF w q (.slice p l.length c) l.length (l.flatMap odC)) (hm : l.length ≤ 9223372036854775807) :
    Calls Try.prog 26 #[.slice p l.length c, .int .i64 sub] w fun e w' => e = .returned (.int .i64 (lnO l sub)) ∧ w.grownBy w' none := by
  have HR := Lib.hid hR
  clear hR
  go_enter Try.func26, Try.ntmps26
  go_wp2_with fail
  refine (ircheck_any l p c _ w HR.out hm).mono ?_
  rintro e w1 ⟨rfl, hg⟩
  have G1 := Lib.hid hg
  clear hg
  by_cases h0 : ckO l = 0
  case neg =>
    have h0' : (ckO l != 0) = true := by simpa using h0
    have HC : Hid (lnO l sub = 0) := Lib.hid (if_neg h0)
    clear h0
    go_wp2_with fail
    go_ret
    rw [HC.out]
    exact ⟨rfl, G1.out⟩
  have HC : Hid (lnO l sub = lnK l sub) := Lib.hid (if_pos h0)
  obtain ⟨hl, -, -⟩ := ck_any h0
  rw [h0]
  clear h0
  go_wp2_with fail
  go_loopw [5, 6] (fun v a wr => ∃ k : Nat, k ≤ l.length ∧ a = .int .i64 (k : Int) ∧ v = .int .i64 (lnK (l.take k) sub) ∧ wr = w1) (fun _ a _ => l.length - (RowKit.intOf a).toNat)
  case atStart => exact ⟨0, by omega, rfl, rfl, rfl⟩
  case round =>
    obtain ⟨k, hk, rfl, rfl, rfl⟩ := hrel
    by_cases hlt : k < l.length
    · obtain ⟨-, b, off, rfl, -, hc⟩ := od_cells (HR.out.keep G1.out) (by omega)
      obtain ⟨x, hx⟩ : ∃ x, l[k]? = some x := ⟨_, List.getElem?_eq_getElem hlt⟩
      obtain ⟨a0, a1, a2, a3⟩ := hc k x hx
      have HS := Lib.hid (lnK_take hx sub)
      clear hc hx
      obtain ⟨n, hn⟩ : ∃ n, lnK (l.take k) sub = n := ⟨_, rfl⟩
      rw [hn] at HS ⊢
      clear hn
      by_cases h1 : x.s = sub
      · have h1' : (x.s == sub) = true := by simpa using h1
        by_cases h2 : n = 0
        · have h2' : (n == 0) = true := by simpa using h2
          have HE : Hid (lnK (l.take (k + 1)) sub = x.l) := Lib.hid (by rw [HS.out]; unfold lnS; rw [if_pos ⟨h1, Or.inl h2⟩])
          clear HS h1 h2
          go_wp2_with fail
          exact ⟨⟨k + 1, by omega, congrArg _ (by omega), by rw [HE.out], (by first | rfl | trivial)⟩, by simp only [RowKit.intOf]; omega⟩
        · have h2' : (n == 0) = false := by simpa using h2
          by_cases h3 : x.l < n
          · have HE : Hid (lnK (l.take (k + 1)) sub = x.l) := Lib.hid (by rw [HS.out]; unfold lnS; rw [if_pos ⟨h1, Or.inr h3⟩])
            clear HS h1 h2
            go_wp2_with fail
            exact ⟨⟨k + 1, by omega, congrArg _ (by omega), by rw [HE.out], (by first | rfl | trivial)⟩, by simp only [RowKit.intOf]; omega⟩
          · have HE : Hid (lnK (l.take (k + 1)) sub = n) := Lib.hid (by rw [HS.out]; unfold lnS; rw [if_neg (fun h => by have := h.2; omega)])
            clear HS h1 h2
            go_wp2_with fail
            exact ⟨⟨k + 1, by omega, congrArg _ (by omega), by rw [HE.out], (by first | rfl | trivial)⟩, by simp only [RowKit.intOf]; omega⟩
      · have h1' : (x.s == sub) = false := by simpa using h1
        have HE : Hid (lnK (l.take (k + 1)) sub = n) := Lib.hid (by rw [HS.out]; unfold lnS; rw [if_neg (fun h => h1 h.1)])
        clear HS h1
        go_wp2_with fail
        exact ⟨⟨k + 1, by omega, congrArg _ (by omega), by rw [HE.out], (by first | rfl | trivial)⟩, by simp only [RowKit.intOf]; omega⟩
    · obtain rfl : k = l.length := by omega
      have HE : Hid (lnK (l.take l.length) sub = lnK l sub) := Lib.hid (by rw [List.take_length])
      go_wp2_with fail
      go_ret
      rw [HC.out, HE.out]
      exact ⟨rfl, G1.out⟩
end Go.Proofs.Ytndfhgklhjfhkaa

/- The reference's Plan. -/
namespace Go.Proofs.Ytndfhgklhjfhkaa
open Go.RowKit Bs
set_option maxRecDepth 100000 in
theorem e2K_lenP (l : List Od) (sub : Int) : ∀ n, (e2K l sub n).length ≤ n
  | 0 => Nat.le_refl _
  | n + 1 => by
    rw [e2K_succ, List.length_append]
    have := e2K_lenP l sub n
    have := e2I_len l sub n
    omega
/-- The edges of one ID among the first i claims. -/
def eiK (l : List Od) (sub id : Int) (i : Nat) : List Ed := ((l.take i).filter (isO sub id)).map edOf
set_option maxRecDepth 100000 in
theorem eiK_yes {l : List Od} {sub id : Int} {i : Nat} {x : Od} (hx : l[i]? = some x) (h : x.s = sub ∧ x.i = id) : eiK l sub id (i + 1) = eiK l sub id i ++ [⟨x.r, id⟩] := by
  unfold eiK
  rw [List.take_add_one, hx]
  show List.map _ (List.filter _ (l.take i ++ [x])) = _
  rw [List.filter_append, List.filter_cons_of_pos (by unfold isO; exact decide_eq_true h), List.map_append, ← h.2]; rfl
set_option maxRecDepth 100000 in
theorem eiK_no {l : List Od} {sub id : Int} {i : Nat} {x : Od} (hx : l[i]? = some x) (h : ¬ (x.s = sub ∧ x.i = id)) : eiK l sub id (i + 1) = eiK l sub id i := by
  unfold eiK
  rw [List.take_add_one, hx]
  show List.map _ (List.filter _ (l.take i ++ [x])) = _
  rw [List.filter_append, List.filter_cons_of_neg (by unfold isO; simpa using h), List.filter_nil, List.append_nil]
set_option maxRecDepth 100000 in
theorem eiK_len {l : List Od} {sub id : Int} (i : Nat) (h : cnt l sub id = 1) : (eiK l sub id i).length ≤ 1 := by
  unfold eiK
  rw [List.length_map, ← List.countP_eq_length_filter, ← h]
  exact List.Sublist.countP_le (List.take_sublist _ _)
set_option maxRecDepth 100000 in
theorem eiK_end {l : List Od} {sub id : Int} (h : cnt l sub id = 1) : eiK l sub id l.length = e2I l sub id := by
  unfold eiK e2I
  rw [if_pos h, List.take_length]
/-- While the reference's plan grows in the block B. -/
structure PG (W : World) (l : List Od) (p : Option Addr) (c : Nat) (sub : Int) (B : Nat) (v : Value) (M : List Ed) (w : World) : Prop where
  bx : w.heap[B]? = some (.cells #[.int .i64 sub, .int .i64 (lnK l sub), v] 26 (0, 0))
  rs : w.heap[W.heap.size]? = some (.cells #[.int .i64 0, .int .i64 0, .slice none 0 0] 26 (0, 0))
  rd : RdF w (· < W.heap.size) (.slice p l.length c) l.length (l.flatMap odC)
  own : w.ownsRow (B + 1) 54 2 v M.length (M.flatMap edC)
  gr : W.grownBy w none
  lo : W.heap.size < B ∧ B < w.heap.size
section
variable {W w w1 : World} {l : List Od} {p : Option Addr} {c B : Nat} {sub : Int} {v v' : Value} {M N : List Ed}
set_option maxRecDepth 100000 in
theorem PG.keep (h : PG W l p c sub B v M w) (g : w.grownBy w1 none) : PG W l p c sub B v M w1 :=
  ⟨kept_row h.bx g (by simp), kept_row h.rs g (by simp), h.rd.keep g, h.own.kept g (by cases v.ownBlock <;> simp), grown_trans h.gr g, h.lo.1, Nat.lt_of_lt_of_le h.lo.2 g.size⟩
set_option maxRecDepth 100000 in
theorem PG.mid {o : Obj} (h : PG W l p c sub B v M w) (hown : w1.ownsRow (B + 1) 54 2 v' N.length (N.flatMap edC)) (hg : (w.alloc o).grownBy w1 v.ownBlock) :
    w1.heap[B]? = some (.cells #[.int .i64 sub, .int .i64 (lnK l sub), v] 26 (0, 0)) ∧ PG W l p c sub B v' N (w1.setCell ⟨B, 2, none⟩ v') := by
  have h1 := h.keep (World.grownBy_alloc w o none)
  have hne : ∀ b, b ≤ B → some b ≠ v.ownBlock := fun b hb e => by have := (h.own.lt b e.symm).1; omega
  have hb := kept_row h1.bx hg (hne B (Nat.le_refl _))
  have k9 : w1.grownBy (w1.setCell ⟨B, 2, none⟩ v') (some B) := grown_setCell w1 ⟨B, 2, none⟩ v'
  have hlo := h.lo.1
  refine ⟨hb, ⟨heap_setCell_same w1 B 2 _ _ v' hb, kept_row (kept_row h1.rs hg (hne _ (by omega))) k9 (fun e => by have := Option.some.inj e; omega), (h1.rd.grown hg (fun b hb => hne b (by omega))).grown k9 (fun b hb e => by have := Option.some.inj e; omega), ?_, grown_new (grown_any h1.gr hg (fun b hb => hne b (by omega))) k9 (by omega), h.lo.1, Nat.lt_of_lt_of_le (Nat.lt_of_lt_of_le h1.lo.2 hg.size) k9.size⟩⟩
  refine hown.kept k9 ?_
  cases hv : v'.ownBlock with
  | none => exact .inl rfl
  | some k => exact .inr (fun e => by have := (hown.lt k hv).1; have := Option.some.inj e; omega)
end
set_option maxRecDepth 100000 in
theorem ed_cellsN (w : World) (x : Ed) (t : TypeId) : ∀ j u, (edC x)[j]? = some u → (w.alloc (.cells #[.int .i64 x.r, .int .i64 x.i] t)).cell? ((⟨w.heap.size, 0, none⟩ : Addr).add j) = some u := fun j u hu => ed_row w x t j u (by simpa using hu)
set_option maxRecDepth 100000 in
set_option maxHeartbeats 12800000 in
theorem irplan_any (l : List Od) (p : Option Addr) (c : Nat) (sub : Int) (q : Nat → Prop) (w : World) (hR : RdF w q (.slice p l.length c) l.length (l.flatMap odC)) (hm : l.length ≤ 9223372036854775807) :
    Calls Try.prog 28 #[.slice p l.length c, .int .i64 sub] w fun e w' => PlnPost l sub w e w' := by
  obtain ⟨ie, hie, he0, he1, he2⟩ := info_parts info_ed
  obtain ⟨k1, k2⟩ := tone_box w #[.int .i64 0, .int .i64 0, .slice none 0 0] 26
  have H0 := Lib.hid (And.intro k1 (And.intro k2 (hR.old.keep k2)))
  have hsz : w.heap.size + 1 = (w.alloc (.cells #[.int .i64 0, .int .i64 0, .slice none 0 0] 26)).heap.size := by simp
  have HSZ := Lib.hid (Nat.le_of_eq hsz)
  clear k1 k2 hR hsz
  go_enter Try.func28, Try.ntmps28
  go_upto_region 1 with fail
  generalize w.alloc _ = wa at *
  go_wp2_with fail
  refine (ircheck_any l p c _ wa H0.out.2.2 hm).mono ?_
  rintro e w1 ⟨rfl, hg⟩
  have H1 := Lib.hid (And.intro (kept_row H0.out.1 hg (by simp)) (And.intro (grown_trans H0.out.2.1 hg) (And.intro (H0.out.2.2.keep hg) (Nat.le_trans HSZ.out hg.size))))
  clear hg H0 HSZ
  by_cases h0 : ckO l = 0
  case neg =>
    have h0' : (ckO l != 0) = true := by simpa using h0
    have HX : Hid (plnX l sub = ckO l) := Lib.hid (by unfold plnX; rw [if_pos h0])
    have HN := Lib.hid h0
    clear h0
    obtain ⟨⟨c0, c1, c2⟩, f⟩ := row3i H1.out.1
    have f0 := f 0
    have f1 := f 1
    have f2 := f 2
    obtain ⟨t1, t2⟩ := store3p (.int .i64 0) (.int .i64 0) (.slice none 0 0) H1.out.1
    have HT := Lib.hid (And.intro t1 (grown_new H1.out.2.1 t2 (Nat.le_refl _)))
    clear t1 t2 f
    go_wp2_with fail
    refine bodyPost_ret (res_pl_e rfl _ _ w.heap.size _ _ _ rfl HT.out.1) rfl ?_
    exact pln_no HX.out HN.out HT.out.2
  have H0 := Lib.hid h0
  have hl := (ck_any h0).1
  rw [h0]
  clear h0
  obtain ⟨b, hb⟩ : ∃ b, inV sub 0 7 = b := ⟨_, rfl⟩
  have HB := Lib.hid hb
  clear hb
  go_wp2_with fail
  refine (rin10_lit sub 0 7 _ HB.out w1).mono ?_
  rintro e w' ⟨rfl, rfl⟩
  cases b
  case false =>
    have HX : Hid (plnX l sub = 2) := Lib.hid (by unfold plnX; rw [if_neg (fun h => h H0.out), if_pos HB.out])
    obtain ⟨⟨c0, c1, c2⟩, f⟩ := row3i H1.out.1
    have f0 := f 0
    have f1 := f 1
    have f2 := f 2
    obtain ⟨t1, t2⟩ := store3p (.int .i64 0) (.int .i64 0) (.slice none 0 0) H1.out.1
    have HT := Lib.hid (And.intro t1 (grown_new H1.out.2.1 t2 (Nat.le_refl _)))
    clear t1 t2 f
    go_wp2_with fail
    refine bodyPost_ret (res_pl_e rfl _ _ w.heap.size _ _ _ rfl HT.out.1) rfl ?_
    exact pln_no HX.out (by decide) HT.out.2
  go_wp2_with fail
  refine (irlen_any l p c sub _ w1 H1.out.2.2.1 hm).mono ?_
  rintro e w2 ⟨rfl, hg⟩
  have H2 := Lib.hid (And.intro (kept_row H1.out.1 hg (by simp)) (And.intro (grown_trans H1.out.2.1 hg) (And.intro (H1.out.2.2.1.keep hg) (Nat.le_trans H1.out.2.2.2 hg.size))))
  have HL : Hid (lnO l sub = lnK l sub) := Lib.hid (if_pos H0.out)
  rw [HL.out]
  clear hg H1 HL
  obtain ⟨LN, hLN⟩ : ∃ LN, lnK l sub = LN := ⟨_, rfl⟩
  have n1 := (tone_box w2 #[.int .i64 sub, .int .i64 (lnK l sub), .slice none 0 0] 26).1
  have n2 := (tone_box w2 #[.int .i64 sub, .int .i64 (lnK l sub), .slice none 0 0] 26).2
  have he : e2K l sub 1 = [] := by
    rw [e2K_succ]
    unfold e2I
    rw [if_neg (by rw [cnt_out H0.out sub (id := ((0 : Nat) : Int)) (by omega)]; omega)]
    rfl
  have P0 : Hid (PG w l p c sub w2.heap.size (.slice none 0 0) (e2K l sub 1) (w2.alloc (.cells #[.int .i64 sub, .int .i64 (lnK l sub), .slice none 0 0] 26))) := Lib.hid ⟨n1, kept_row H2.out.1 n2 (by simp), H2.out.2.2.1.keep n2, by rw [he]; exact World.ownsRow_nil _ _ _ _, grown_trans H2.out.2.1 n2, by have := H2.out.2.2.2; omega, by simp⟩
  rw [hLN] at P0 n1 n2 ⊢
  have HLN := Lib.hid hLN
  clear n1 n2 he hLN
  go_upto_region 7 with fail
  generalize w2.alloc _ = w3 at *
  generalize w2.heap.size = B at *
  clear H2
  go_wp2_with fail
  go_loopw [8] (fun x wr => ∃ (k : Nat) (v : Value), 1 ≤ k ∧ k ≤ 257 ∧ x = .int .i64 (k : Int) ∧ Hid (PG w l p c sub B v (e2K l sub k) wr)) (fun x _ => 257 - (RowKit.intOf x).toNat)
  case atStart => exact ⟨1, _, by omega, by omega, rfl, P0⟩
  case round =>
  clear P0
  obtain ⟨k, v, hk1, hk2, rfl, P1⟩ := hrel
  obtain ⟨w4, hw4⟩ : ∃ w4, w4 = wr := ⟨_, rfl⟩
  rw [← hw4] at P1 ⊢
  clear hw4
  by_cases hk : k ≤ 256
  case pos =>
    have hk' : (k : Int) ≤ 256 := by omega
    by_cases hc1 : cnt l sub k = 1
    case neg =>
      have HE : Hid (e2K l sub (k + 1) = e2K l sub k) := Lib.hid (by rw [e2K_succ]; unfold e2I; rw [if_neg hc1, List.append_nil])
      obtain ⟨Z, hZ⟩ : ∃ Z, cnt l sub k = Z := ⟨_, rfl⟩
      have HZ := Lib.hid hZ
      rw [hZ] at hc1
      have hz1 : ((Z : Int) == 1) = false := by simp; omega
      clear hZ hc1
      go_wp2_with fail
      go_loopw [9] (fun x wr => x = .int .i64 0 ∧ Hid (PG w l p c sub B v (e2K l sub k) wr)) (fun x _ => 0)
      case atStart => exact ⟨rfl, P1⟩
      case round =>
      clear P1
      obtain ⟨rfl, P2⟩ := hrel
      by_cases hl0 : 0 < l.length
      · have hl0' : (0 : Int) < (l.length : Int) := by omega
        go_wp2_with fail
        refine (irclm_any l p c sub (k : Int) _ wr P2.out.rd (by omega)).mono ?_
        rw [HZ.out]
        rintro e w9 ⟨rfl, rfl⟩
        go_wp2_with fail
        exact ⟨⟨k + 1, v, by omega, by omega, congrArg _ (by omega), by rw [HE.out]; exact P2⟩, by simp only [RowKit.intOf]; omega⟩
      · have hl0' : ¬ (0 : Int) < (l.length : Int) := by omega
        go_wp2_with fail
        exact ⟨⟨k + 1, v, by omega, by omega, congrArg _ (by omega), by rw [HE.out]; exact P2⟩, by simp only [RowKit.intOf]; omega⟩
    case pos =>
      have HC := Lib.hid hc1
      clear hc1
      go_wp2_with fail
      go_loopw [9] (fun x wr => ∃ (i : Nat) (u : Value), i ≤ l.length ∧ x = .int .i64 (i : Int) ∧ Hid (PG w l p c sub B u (e2K l sub k ++ eiK l sub k i) wr)) (fun x _ => l.length - (RowKit.intOf x).toNat)
      case atStart => exact ⟨0, v, by omega, rfl, by simpa [eiK] using P1⟩
      case round =>
      clear P1
      obtain ⟨i, u, hi, rfl, P2⟩ := hrel
      obtain ⟨w5, hw5⟩ : ∃ w5, w5 = wr := ⟨_, rfl⟩
      rw [← hw5] at P2 ⊢
      clear hw5
      by_cases hlt : i < l.length
      case neg =>
        obtain rfl : i = l.length := by omega
        have P3 : Hid (PG w l p c sub B u (e2K l sub (k + 1)) w5) := Lib.hid (by rw [e2K_succ, ← eiK_end HC.out]; exact P2.out)
        have hnl : ¬ (l.length : Int) < (l.length : Int) := by omega
        clear P2
        go_wp2_with fail
        exact ⟨⟨k + 1, u, by omega, by omega, congrArg _ (by omega), P3⟩, by simp only [RowKit.intOf]; omega⟩
      case pos =>
        have hlt' : (i : Int) < (l.length : Int) := by omega
        obtain ⟨-, b, off, rfl, hbW, hcc⟩ := od_cells P2.out.rd (by omega)
        obtain ⟨x, hx⟩ : ∃ x, l[i]? = some x := ⟨_, List.getElem?_eq_getElem hlt⟩
        obtain ⟨a0, a1, a2, a3⟩ := hcc i x hx
        have HX := Lib.hid hx
        clear hcc hx
        go_wp2_with fail
        refine (irclm_any l _ c sub (k : Int) _ w5 P2.out.rd (by omega)).mono ?_
        rw [HC.out]
        rintro e w9 ⟨rfl, rfl⟩
        by_cases h1 : x.s = sub
        case neg =>
          have h1' : (x.s == sub) = false := by simpa using h1
          have HE : Hid (eiK l sub k (i + 1) = eiK l sub k i) := Lib.hid (eiK_no HX.out (fun h => h1 h.1))
          go_wp2_with fail
          exact ⟨⟨i + 1, u, by omega, congrArg _ (by omega), by rw [HE.out]; exact P2⟩, by simp only [RowKit.intOf]; omega⟩
        have h1' : (x.s == sub) = true := by simpa using h1
        by_cases h2 : x.i = (k : Int)
        case neg =>
          have h2' : (x.i == (k : Int)) = false := by simpa using h2
          have HE : Hid (eiK l sub k (i + 1) = eiK l sub k i) := Lib.hid (eiK_no HX.out (fun h => h2 h.2))
          go_wp2_with fail
          exact ⟨⟨i + 1, u, by omega, congrArg _ (by omega), by rw [HE.out]; exact P2⟩, by simp only [RowKit.intOf]; omega⟩
        have h2' : (x.i == (k : Int)) = true := by simpa using h2
        have HE : Hid (eiK l sub k (i + 1) = eiK l sub k i ++ [⟨x.r, (k : Int)⟩]) := Lib.hid (eiK_yes HX.out ⟨h1, h2⟩)
        clear h1 h2
        obtain ⟨M, hM⟩ : ∃ M, e2K l sub k ++ eiK l sub k i = M := ⟨_, rfl⟩
        have HM : Hid (M.length ≤ 258 ∧ e2K l sub k ++ eiK l sub k (i + 1) = M ++ [⟨x.r, (k : Int)⟩]) := Lib.hid ⟨by
          rw [← hM, List.length_append]
          have := e2K_lenP l sub k
          have := eiK_len i HC.out
          omega, by rw [HE.out, ← hM, List.append_assoc]⟩
        rw [hM] at P2
        clear hM HE
        have P3 : Hid (PG w l (some ⟨b, off, none⟩) c sub B u M w5.drew) := Lib.hid (P2.out.keep (grown_drew (grown_refl _ none)))
        have hown0 := P3.out.own
        have c0 := (row3i P2.out.bx).1.2.2
        have A0 := (World.grownBy_alloc w5 (.cells #[.int .i64 x.r, .int .i64 (k : Int)] 54) none).cell c0 (by simp)
        have A1 := (World.grownBy_alloc w5 (.cells #[.int .i64 x.r, .int .i64 (k : Int)] 54) none).cell a0 (by simp)
        have hb0 : B + 1 ≤ w5.heap.size := P2.out.lo.2
        have hbd : B + 1 ≤ w5.drew.heap.size := hb0
        have I1 : ¬ B = w5.heap.size := by omega
        have hml := HM.out.1
        go_wp2_with fail
        go_region_law (refine step_append_lies _ rfl _ _ 24 rfl (B + 1) 54 ie (.agg #[.int .i64 0, .int .i64 0]) 2 16 Try.underlying24 hie he0 he1 he2 rfl (by decide) u M.length (M.flatMap edC) (by rfl) (hown0.alloc _) ⟨w5.heap.size, 0, none⟩ 1 1 (edC ⟨x.r, (k : Int)⟩) (by rfl) (by rfl) (ed_cellsN w5.drew ⟨x.r, (k : Int)⟩ _) (ed_one ⟨x.r, (k : Int)⟩) (by omega) (by unfold maxLen; omega) (by omega) (by simp; omega) _ rfl ?_; intro g cap w7 hown hgrow hat hlt7; have HMD := Lib.hid (P3.out.mid (N := M ++ [⟨x.r, (k : Int)⟩]) (by rw [List.length_append, List.flatMap_append]; simpa using hown) hgrow); have cB := (row3i HMD.out.1).1.2.2; have fB := frozen_of_row _ _ 2 _ _ HMD.out.1)
        all_goals
          have P4 := Lib.hid HMD.out.2
          clear hown hgrow hat hlt7 HMD cB fB P3 P2 hown0 c0 A0 A1 a0 a1 a2 a3
          go_wp2_with fail
          exact ⟨⟨i + 1, _, by omega, congrArg _ (by omega), by rw [HM.out.2]; exact P4⟩, by simp only [RowKit.intOf]; omega⟩
  case neg =>
    obtain rfl : k = 257 := by omega
    have hk257 : ¬ ((257 : Nat) : Int) ≤ 256 := by omega
    obtain ⟨E, hE⟩ : ∃ E, e2K l sub 257 = E := ⟨_, rfl⟩
    have HE := Lib.hid hE
    rw [hE] at P1
    clear hE
    obtain ⟨p3, c3, rfl, -, -⟩ := own_shape P1.out.own
    obtain ⟨⟨d0, d1, d2⟩, -⟩ := row3i P1.out.bx
    obtain ⟨⟨c0, c1, c2⟩, f⟩ := row3i P1.out.rs
    have f0 := f 0
    have f1 := f 1
    have f2 := f 2
    rw [HLN.out] at d1
    clear f
    by_cases h24 : 24 < E.length
    · have h24' : (24 : Int) < (E.length : Int) := by omega
      have HX : Hid (plnX l sub = 3) := Lib.hid (by unfold plnX; rw [if_neg (fun h => h H0.out), if_neg (by rw [HB.out]; decide), HE.out, if_pos h24])
      obtain ⟨t1, t2⟩ := store3p (.int .i64 0) (.int .i64 0) (.slice none 0 0) P1.out.rs
      have HT := Lib.hid (And.intro t1 (grown_new P1.out.gr t2 (Nat.le_refl _)))
      clear t1 t2 h24
      go_wp2_with fail
      refine bodyPost_ret (res_pl_e rfl _ _ w.heap.size _ _ _ rfl HT.out.1) rfl ?_
      exact pln_no HX.out (by decide) HT.out.2
    · have h24' : ¬ (24 : Int) < (E.length : Int) := by omega
      have HX : Hid (plnX l sub = 0) := Lib.hid (by unfold plnX; rw [if_neg (fun h => h H0.out), if_neg (by rw [HB.out]; decide), HE.out, if_neg h24])
      obtain ⟨t1, t2⟩ := store3p (.int .i64 sub) (.int .i64 LN) (.slice p3 E.length c3) P1.out.rs
      have HT := Lib.hid t1
      have HP : Hid (PlnPost l sub w (.returned (.tuple #[.agg #[.int .i64 sub, .int .i64 LN, .slice p3 E.length c3], .int .i64 0])) _) := Lib.hid ⟨p3, c3, by unfold plnS plnL plnE; rw [if_pos HX.out, if_pos HX.out, if_pos HX.out, HX.out, HE.out, HLN.out], by
        unfold plnE
        rw [if_pos HX.out, HE.out]
        have hlo := P1.out.lo.1
        refine (own_low P1.out.own (show w.heap.size + 1 ≤ B + 1 by omega)).kept t2 ?_
        cases hv : (Value.slice p3 E.length c3).ownBlock with
        | none => exact .inl rfl
        | some g =>
          refine .inr fun e => ?_
          have := (P1.out.own.lt g hv).1
          have := Option.some.inj e
          omega, grown_new P1.out.gr t2 (Nat.le_refl _)⟩
      clear t1 t2 h24
      go_wp2_with fail
      refine bodyPost_ret (res_pl_e rfl _ _ w.heap.size _ _ _ rfl HT.out) rfl ?_
      exact HP.out
end Go.Proofs.Ytndfhgklhjfhkaa

/- identify: routerTwice. -/
namespace Go.Proofs.Ytndfhgklhjfhkaa
open Go.RowKit Bs
set_option maxRecDepth 100000 in
theorem info_bs1 : (Try.prog.info? 102).map (fun i => (i.zero, i.size)) = some (some (.agg (arrV 100 (bvN fun _ => false))), 100) := by kernel_rfl
set_option maxRecDepth 100000 in
theorem rep_yes {L : List Int} {k : Nat} {x : Int} (hx : L[k]? = some x) (h : x ∈ L.take k) : repI L = true := by
  have hk : k < L.length := (List.getElem?_eq_some_iff.1 hx).1
  unfold repI
  refine List.any_eq_true.2 ⟨k, List.mem_range.2 hk, ?_⟩
  rw [List.getD_eq_getElem?_getD, hx]
  simpa using h
set_option maxRecDepth 100000 in
theorem rep_no {L : List Int} (h : ∀ k x, L[k]? = some x → x ∉ L.take k) : repI L = false := by
  unfold repI
  rw [List.any_eq_false]
  intro k hk
  have hk := List.mem_range.1 hk
  rw [List.getD_eq_getElem?_getD, List.getElem?_eq_getElem hk]
  simpa using h k _ (List.getElem?_eq_getElem hk)
set_option maxRecDepth 100000 in
theorem wre_r {x : Ed} (h : wrE x = false) : 1 ≤ x.r ∧ x.r ≤ 99 := by
  unfold wrE inV at h
  simp only [Bool.not_eq_false', Bool.and_eq_true, decide_eq_true_eq] at h
  exact h.1
/-- While routers are marked in the block B. -/
structure RT (W : World) (E : List Ed) (p : Option Addr) (c B : Nat) (kf : Nat → Bool) (w : World) : Prop where
  kb : w.heap[B]? = some (.cells (arrV 100 (bvN kf)) 102 (0, 0))
  rd : RdF w (· < W.heap.size) (.slice p E.length c) E.length (E.flatMap edC)
  gr : W.grownBy w none
  lo : W.heap.size ≤ B
section
variable {W w w1 : World} {E : List Ed} {p : Option Addr} {c B : Nat} {kf : Nat → Bool}
set_option maxRecDepth 100000 in
theorem RT.keep (h : RT W E p c B kf w) (g : w.grownBy w1 none) : RT W E p c B kf w1 := ⟨kept_row h.kb g (by simp), h.rd.keep g, grown_trans h.gr g, h.lo⟩
set_option maxRecDepth 100000 in
theorem RT.put (h : RT W E p c B kf w) {m : Nat} (hm : m < 100) : RT W E p c B (fun j => if j = m then true else kf j) (w.setCell ⟨B, m, none⟩ (.bool true)) := by
  obtain ⟨h1, h2⟩ := arr_put (.bool true) h.kb hm
  have hlo := h.lo
  refine ⟨?_, h.rd.grown h2 (fun b hb e => by have := Option.some.inj e; omega), grown_new h.gr h2 (by omega), hlo⟩
  rw [h1]
  congr 2
  refine arr_congr fun j _ => ?_
  unfold bvN
  show (if j = m then _ else _) = Value.bool (if j = m then true else kf j)
  split <;> rfl
end
/-- The routers of edges. -/
def rsE (E : List Ed) : List Int := E.map Ed.r
set_option maxRecDepth 100000 in
theorem rsE_at {E : List Ed} {k : Nat} {x : Ed} (h : E[k]? = some x) : (rsE E)[k]? = some x.r := by unfold rsE; rw [List.getElem?_map, h]; rfl
set_option maxRecDepth 100000 in
set_option maxHeartbeats 6400000 in
theorem irtw_any (E : List Ed) (p : Option Addr) (c : Nat) (q : Nat → Prop) (w : World) (hR : RdF w q (.slice p E.length c) E.length (E.flatMap edC)) (hv : E.any wrE = false) (hm : E.length ≤ 9223372036854775807) :
    Calls Try.prog 58 #[.slice p E.length c] w fun e w' => e = .returned (.bool (repI (rsE E))) ∧ w.grownBy w' none := by
  have HZ2 := (zero_of_info info_bs1).1
  obtain ⟨n1, n2⟩ := tone_box w (arrV 100 (bvN fun _ => false)) 102
  have E0 : Hid (RT w E p c w.heap.size (fun j => decide ((j : Int) ∈ (rsE E).take 0)) _) := Lib.hid ⟨by rw [n1]; congr 2, hR.old.keep n2, n2, Nat.le_refl _⟩
  have HV := Lib.hid (fun x hx => wre_r (any_mem hv (x := x) hx))
  clear n1 n2 hR hv
  go_enter Try.func58, Try.ntmps58
  go_upto_region 2 with fail
  generalize w.alloc _ = w1 at *
  obtain ⟨B, hB⟩ : ∃ B, w.heap.size = B := ⟨_, rfl⟩
  rw [hB] at E0 ⊢
  clear hB HZ2
  have HN0 : Hid (∀ j x, j < 0 → (rsE E)[j]? = some x → x ∉ (rsE E).take j) := Lib.hid (fun j x h => by omega)
  go_wp2_with fail
  go_loopw [8] (fun a wr => ∃ k : Nat, k ≤ E.length ∧ a = .int .i64 (k : Int) ∧ Hid (∀ j x, j < k → (rsE E)[j]? = some x → x ∉ (rsE E).take j) ∧ Hid (RT w E p c B (fun j => decide ((j : Int) ∈ (rsE E).take k)) wr)) (fun a _ => E.length - (RowKit.intOf a).toNat)
  case atStart => exact ⟨0, by omega, rfl, HN0, E0⟩
  case round =>
    obtain ⟨w5, rfl⟩ : ∃ w5, w5 = wr := ⟨_, rfl⟩
    obtain ⟨k, hk, rfl, HN, N⟩ := hrel
    clear E0 HN0
    by_cases hlt : k < E.length
    · have hlt' : (k : Int) < (E.length : Int) := by omega
      obtain ⟨-, b, off, rfl, -, hcc⟩ := ed_cells N.out.rd (by omega)
      obtain ⟨x, hx⟩ : ∃ x, E[k]? = some x := ⟨_, List.getElem?_eq_getElem hlt⟩
      obtain ⟨a0, a1⟩ := hcc k x hx
      have hxr := HV.out x (List.mem_of_getElem? hx)
      obtain ⟨m, hm1⟩ : ∃ m : Nat, x.r = (m : Int) := ⟨x.r.toNat, by omega⟩
      have hm2 : m < 100 := by omega
      have HX := Lib.hid (rsE_at hx)
      have HB := Lib.hid (heap_alloc_new w5 (.cells #[.int .i64 x.r, .int .i64 x.i] 54))
      have HG := Lib.hid (World.grownBy_alloc w5 (.cells #[.int .i64 x.r, .int .i64 x.i] 54) none)
      have HM1 := Lib.hid hm1
      clear hcc hx hm1 hxr
      go_upto_region 5 with fail
      clear a0 a1
      generalize w5.alloc _ = w6 at *
      have N1 := Lib.hid (N.out.keep HG.out)
      rw [HM1.out] at HB HX
      obtain ⟨d0, d1⟩ := row_cells HB.out
      obtain ⟨kb, hkb⟩ : ∃ b : Bool, decide ((m : Int) ∈ (rsE E).take k) = b := ⟨_, rfl⟩
      have e1 : w6.cell? ⟨B, m, none⟩ = some (.bool kb) := by rw [← hkb]; exact arr_row N1.out.kb hm2
      have f1 := frozen_of_row _ _ m _ _ N1.out.kb
      have HKB := Lib.hid hkb
      clear hkb N HG
      cases kb with
      | true =>
        have HT := Lib.hid (rep_yes HX.out (of_decide_eq_true HKB.out))
        go_wp2_with fail
        go_ret
        rw [HT.out]
        exact ⟨rfl, N1.out.gr⟩
      | false =>
        have N2 := N1.out.put hm2
        have HKF : (fun j : Nat => if j = m then true else decide ((j : Int) ∈ (rsE E).take k)) = fun j : Nat => decide ((j : Int) ∈ (rsE E).take (k + 1)) := by
          funext j
          rw [List.take_add_one, HX.out]
          by_cases hj : j = m
          · subst hj
            rw [if_pos rfl]
            exact (decide_eq_true (by simp)).symm
          · rw [if_neg hj]
            congr 1
            simp only [Option.toList, List.mem_append, List.mem_singleton, eq_iff_iff]
            constructor
            · exact fun h => Or.inl h
            · rintro (h | h)
              · exact h
              · exact absurd (by omega) hj
        rw [HKF] at N2
        have N3 := Lib.hid N2
        have HN2 : Hid (∀ j x, j < k + 1 → (rsE E)[j]? = some x → x ∉ (rsE E).take j) := Lib.hid (fun j y hj hy => by
          by_cases hjk : j < k
          · exact HN.out j y hjk hy
          · obtain rfl : j = k := by omega
            rw [HX.out] at hy
            obtain rfl := Option.some.inj hy
            exact of_decide_eq_false HKB.out)
        clear N2 HKF N1
        go_wp2_with fail
        exact ⟨⟨k + 1, by omega, congrArg _ (by omega), HN2, N3⟩, by simp only [RowKit.intOf]; omega⟩
    · obtain rfl : k = E.length := by omega
      have hnl : ¬ (E.length : Int) < (E.length : Int) := by omega
      have HT := Lib.hid (rep_no (L := rsE E) (fun j x hx => HN.out j x (by
        have := (List.getElem?_eq_some_iff.1 hx).1
        unfold rsE at this
        rw [List.length_map] at this
        exact this) hx))
      go_wp2_with fail
      go_ret
      rw [HT.out]
      exact ⟨rfl, N.out.gr⟩
end Go.Proofs.Ytndfhgklhjfhkaa

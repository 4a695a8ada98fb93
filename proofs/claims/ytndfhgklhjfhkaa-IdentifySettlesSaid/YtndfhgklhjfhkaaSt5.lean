/- Parts of the proof, packed: IdAwk, IdInt, IdLwS, IdSam, ToHasF, IdStLaw. -/
import Derived.Test.YtndfhgklhjfhkaaSt3
import Derived.Test.YtndfhgklhjfhkaaSt4
import Derived.Laws.StructEq
import Derived.Test.YtndfhgklhjfhkaaSt2
import Derived.BigQuiet
/- The laws' example. -/
namespace Go.Proofs.Ytndfhgklhjfhkaa
open Go.RowKit Bs
set_option maxRecDepth 100000 in
set_option maxHeartbeats 1600000 in
theorem iclaim_any (r id : Int) (w : World) :
    Calls Try.prog 41 #[.int .i64 r, .int .i64 id] w fun e w' => e = .returned (.agg #[.int .i64 r, .int .i64 0, .int .i64 id, .int .i64 8]) ∧ w.grownBy w' none := by
  obtain ⟨n1, n2⟩ := tone_box w #[.int .i64 r, .int .i64 0, .int .i64 id, .int .i64 8] 62
  have H := Lib.hid (And.intro n1 n2)
  have hsz : (Try.prog.info? 62).map (·.size) = some 4 := by kernel_rfl
  have HS := Lib.hid hsz
  have HU := Lib.hid Try.underlying62
  clear n1 n2 hsz
  go_enter Try.func41, Try.ntmps41
  go_wp2_with fail
  refine bodyPost_ret (v := .agg #[.int .i64 r, .int .i64 0, .int .i64 id, .int .i64 8]) (results_cell_row (p := 4) (fr := (0, 0)) (by kernel_rfl) _ _ w.heap.size _ _ _ rfl H.out.1 HU.out rfl HS.out) rfl ⟨rfl, H.out.2⟩
def exL : List Od := [⟨1, 0, 5, 8⟩, ⟨2, 0, 5, 8⟩, ⟨3, 0, 1, 8⟩]
set_option maxRecDepth 100000 in
theorem ex_p0 : plnX exL 0 = 0 ∧ plnS exL 0 = 0 ∧ plnL exL 0 = 8 := ⟨by kernel_rfl, by kernel_rfl, by kernel_rfl⟩
set_option maxRecDepth 100000 in
theorem ex_p1 : plnE exL 0 = [⟨3, 1⟩] := by kernel_rfl
set_option maxRecDepth 100000 in
theorem ex_r0 : rsX exL 0 = 0 := by kernel_rfl
set_option maxRecDepth 100000 in
theorem ex_r1 : rsO exL 0 = [⟨1, 0, 5, 8⟩, ⟨2, 0, 2, 8⟩, ⟨3, 0, 1, 8⟩] := by kernel_rfl
set_option maxRecDepth 100000 in
theorem ex_l : plS 9 8 = 1 ∧ plB 9 8 = 0 ∧ plOk 9 8 = true := ⟨by kernel_rfl, by kernel_rfl, by kernel_rfl⟩
set_option maxRecDepth 100000 in
theorem rd12 (w : World) (q : Nat → Prop) (hq : q w.heap.size) : RdF (w.alloc (.cells #[.int .i64 1, .int .i64 0, .int .i64 5, .int .i64 8, .int .i64 2, .int .i64 0, .int .i64 5, .int .i64 8, .int .i64 3, .int .i64 0, .int .i64 1, .int .i64 8] 62)) q (.slice (some ⟨w.heap.size, 0, none⟩) exL.length 3) exL.length (exL.flatMap odC) := by
  refine ⟨_, 3, rfl, fun _ => ⟨_, _, rfl, hq, fun i u hi => ?_⟩⟩
  rw [Nat.zero_add, cell_of_row _ _ _ _ _ _ (heap_alloc_new w _)]
  simpa [exL, odC] using hi
set_option maxRecDepth 100000 in
theorem keepAw {w5 w' : World} {B g1 o1 g2 o2 : Nat} {c : Nat} (h : w5.cell? ⟨B, 2, none⟩ = some (.slice (some ⟨g1, o1, none⟩) 1 c) ∧ w5.cell? ⟨g1, o1, none⟩ = some (.int .i64 3) ∧ w5.cell? ⟨g1, o1 + 1, none⟩ = some (.int .i64 1) ∧ w5.cell? ⟨g2, o2 + 4, none⟩ = some (.int .i64 2) ∧ w5.cell? ⟨g2, o2 + 4 + 1, none⟩ = some (.int .i64 0) ∧ w5.cell? ⟨g2, o2 + 4 + 2, none⟩ = some (.int .i64 2) ∧ w5.cell? ⟨g2, o2 + 4 + 3, none⟩ = some (.int .i64 8)) (hg : Hid (w5.grownBy w' none)) :
    w'.cell? ⟨B, 2, none⟩ = some (.slice (some ⟨g1, o1, none⟩) 1 c) ∧ w'.cell? ⟨g1, o1, none⟩ = some (.int .i64 3) ∧ w'.cell? ⟨g1, o1 + 1, none⟩ = some (.int .i64 1) ∧ w'.cell? ⟨g2, o2 + 4, none⟩ = some (.int .i64 2) ∧ w'.cell? ⟨g2, o2 + 4 + 1, none⟩ = some (.int .i64 0) ∧ w'.cell? ⟨g2, o2 + 4 + 2, none⟩ = some (.int .i64 2) ∧ w'.cell? ⟨g2, o2 + 4 + 3, none⟩ = some (.int .i64 8) ∧ Hid (w5.grownBy w' none) := by
  obtain ⟨h0, h1, h2, h3, h4, h5, h6⟩ := h
  exact ⟨hg.out.cell h0 (by simp), hg.out.cell h1 (by simp), hg.out.cell h2 (by simp), hg.out.cell h3 (by simp), hg.out.cell h4 (by simp), hg.out.cell h5 (by simp), hg.out.cell h6 (by simp), hg⟩
set_option maxRecDepth 100000 in
set_option maxHeartbeats 6400000 in
theorem iawake_any (w : World) :
    Calls Try.prog 19 #[] w fun e w' => e = .returned (.bool true) ∧ w.grownBy w' none := by
  go_enter Try.func19, Try.ntmps19
  go_wp2_with fail
  refine (iclaim_any 1 5 w).mono ?_
  rintro e w1 ⟨rfl, hg⟩
  have G1 := Lib.hid hg
  clear hg
  go_wp2_with fail
  refine (iclaim_any 2 5 w1).mono ?_
  rintro e w2 ⟨rfl, hg⟩
  have G2 := Lib.hid (grown_trans G1.out hg)
  clear hg G1
  go_wp2_with fail
  refine (iclaim_any 3 1 w2).mono ?_
  rintro e w3 ⟨rfl, hg⟩
  have G3 := Lib.hid (grown_trans G2.out hg)
  have H3 := Lib.hid (rd12 w3 (fun _ => True) trivial)
  have HG3 := Lib.hid (grown_trans G3.out (World.grownBy_alloc w3 (.cells #[.int .i64 1, .int .i64 0, .int .i64 5, .int .i64 8, .int .i64 2, .int .i64 0, .int .i64 5, .int .i64 8, .int .i64 3, .int .i64 0, .int .i64 1, .int .i64 8] 62) none))
  clear hg G2 G3
  go_upto_region 2 with fail
  generalize w3.alloc _ = w4 at *
  go_wp2_with fail
  refine (iplan_any exL (some ⟨w3.heap.size, 0, none⟩) 3 0 _ w4 H3.out (by decide)).mono ?_
  rintro e w5 ⟨p5, c5, rfl, ho, hg⟩
  rw [ex_p0.1, ex_p0.2.1, ex_p0.2.2, ex_p1]
  rw [ex_p1] at ho
  obtain ⟨m1, m2⟩ := tone_box w5 #[.int .i64 0, .int .i64 8, .slice p5 1 c5] 26
  have H5 := Lib.hid (And.intro ((H3.out.keep hg).keep m2) (And.intro (grown_trans (grown_trans HG3.out hg) m2) (And.intro m1 (ho.kept m2 (by cases (Value.slice p5 [(⟨3, 1⟩ : Ed)].length c5).ownBlock <;> simp)))))
  clear m1 m2 ho hg H3 HG3
  go_upto_region 3 with fail
  generalize w5.alloc _ = w6 at *
  go_wp2_with fail
  refine (ires_any exL (some ⟨w3.heap.size, 0, none⟩) 3 0 _ w6 H5.out.1 (fun h => by cases h) (by decide)).mono ?_
  rintro e w7 ⟨p7, c7, rfl, ho, hg⟩
  rw [ex_r0, ex_r1]
  rw [ex_r1] at ho
  have H7 := Lib.hid (And.intro (kept_row H5.out.2.2.1 hg (by simp)) (And.intro (rdf_of_own (H5.out.2.2.2.kept hg (by cases (Value.slice p5 [(⟨3, 1⟩ : Ed)].length c5).ownBlock <;> simp))) (And.intro (rdf_of_own ho) (grown_trans H5.out.2.1 hg))))
  clear ho hg H5
  go_wp2_with fail
  refine (iplc_any 9 8 w7).mono ?_
  rintro e w8 ⟨rfl, hg⟩
  rw [ex_l.1, ex_l.2.1, ex_l.2.2]
  have H8 := Lib.hid (And.intro (kept_row H7.out.1 hg (by simp)) (And.intro (H7.out.2.1.keep hg) (And.intro (H7.out.2.2.1.keep hg) (grown_trans H7.out.2.2.2 hg))))
  clear hg H7
  obtain ⟨-, g1, o1, rfl, -, hE⟩ := ed_cells H8.out.2.1 (by decide)
  obtain ⟨e0, e1⟩ := hE 0 _ rfl
  obtain ⟨-, g2, o2, rfl, -, hO⟩ := od_cells H8.out.2.2.1 (by decide)
  obtain ⟨q0, q1, q2, q3⟩ := hO 1 _ rfl
  rw [Nat.zero_mul, Nat.add_zero] at e0 e1
  rw [Nat.one_mul] at q0 q1 q2 q3
  have c2 : w8.cell? ⟨w5.heap.size, 2, none⟩ = some (.slice (some ⟨g1, o1, none⟩) 1 c5) := cell_of_row _ _ 2 _ _ _ H8.out.1
  have HF := Lib.hid (And.intro c2 (And.intro e0 (And.intro e1 (And.intro q0 (And.intro q1 (And.intro q2 q3))))))
  have HGW := Lib.hid H8.out.2.2.2
  clear hE hO c2 e0 e1 q0 q1 q2 q3 H8
  have GZ : Hid (w8.grownBy w8 none) := Lib.hid (grown_refl _ _)
  go_upto_region 5 with fail
  obtain ⟨a0, a1, a2, a3, a4, a5, a6⟩ := HF.out
  go_region_held3 (fun w' => w'.cell? ⟨w5.heap.size, 2, none⟩ = some (.slice (some ⟨g1, o1, none⟩) 1 c5) ∧ w'.cell? ⟨g1, o1, none⟩ = some (.int .i64 3) ∧ w'.cell? ⟨g1, o1 + 1, none⟩ = some (.int .i64 1) ∧ w'.cell? ⟨g2, o2 + 4, none⟩ = some (.int .i64 2) ∧ w'.cell? ⟨g2, o2 + 4 + 1, none⟩ = some (.int .i64 0) ∧ w'.cell? ⟨g2, o2 + 4 + 2, none⟩ = some (.int .i64 2) ∧ w'.cell? ⟨g2, o2 + 4 + 3, none⟩ = some (.int .i64 8) ∧ Hid (w8.grownBy w' none))
    (first | with_reducible exact keepAw HF.out (hid_drew GZ) | (with_reducible exact keepAw HF.out (hid_drew (hid_more GZ hg))) | (go_split_ands; with_reducible refine keepAw HF.out ?_; with_reducible assumption) | (go_split_ands; with_reducible refine keepAw HF.out (hid_more ?_ hg); with_reducible assumption))
    ((go_at_call 41; refine (iclaim_any 2 2 _).mono ?_; rintro e w' ⟨rfl, hg⟩))
  all_goals
    go_split_ands
    go_wp2_with fail
    go_ret
    exact ⟨rfl, grown_trans HGW.out (Hid.out (by assumption))⟩
end Go.Proofs.Ytndfhgklhjfhkaa

/- The reference's Ints at equal lists. -/
namespace Go.Proofs.Ytndfhgklhjfhkaa
open Go.RowKit Bs
end Go.Proofs.Ytndfhgklhjfhkaa

/- What the laws on claims hold in memory: the tape, two lists of claims, two numbers. -/
namespace Go.Proofs.Ytndfhgklhjfhkaa
open Go.RowKit Bs
set_option maxRecDepth 100000 in
theorem own_nlI {w : World} {base size n m c : Nat} {e : TypeId} {p : Option Addr} {xs : List Value} (h : w.ownsRow base e size (.slice p m c) n xs) : p = none → c = 0 := by
  rintro rfl
  rcases h.2 with ⟨e1, _⟩ | ⟨g', cap', cur, hv, _⟩
  · injection e1
  · cases hv
section
variable {W w w1 : World} {a D E : Nat} {l0 l1 : List Od} {p0 p1 : Option Addr} {c0 c1 : Nat} {s0 s1 : Int}
set_option maxRecDepth 100000 in
theorem RI.rdT {v : Value} {M : List Int} (h : RI W v M w) : ∃ p c, v = .slice p M.length c ∧ Rd w (fun _ => True) (.slice p M.length c) (M.map fun z => Value.int .i64 z) := by
  obtain ⟨p, c, rfl, -, -⟩ := own_shape h.own
  exact ⟨p, c, rfl, h.rd.mono fun _ _ => trivial⟩
end
/-- What a call that gives numbers leaves. -/
def IntsP (M : List Int) (w : World) (e : Ending) (w' : World) : Prop := ∃ p c, e = .returned (.slice p M.length c) ∧ Rd w' (fun _ => True) (.slice p M.length c) (M.map fun z => Value.int .i64 z) ∧ w.grownBy w' none
set_option maxRecDepth 100000 in
theorem ri_ints {M : List Int} {w : World} {e : Ending} {w' : World} (h : ∃ v, e = .returned v ∧ RI w v M w') : IntsP M w e w' := by
  obtain ⟨v, rfl, h⟩ := h
  obtain ⟨p, c, rfl, h2⟩ := h.rdT
  exact ⟨p, c, rfl, h2, h.gr⟩
end Go.Proofs.Ytndfhgklhjfhkaa

/- The laws' same: lists of claims that are equal. -/
namespace Go.Proofs.Ytndfhgklhjfhkaa
open Go.RowKit Bs
set_option maxRecDepth 100000 in
set_option maxHeartbeats 3200000 in
theorem isame_any (l : List Od) (p1 p2 : Option Addr) (c1 c2 : Nat) (q1 q2 : Nat → Prop) (w : World) (h1 : RdF w q1 (.slice p1 l.length c1) l.length (l.flatMap odC)) (h2 : RdF w q2 (.slice p2 l.length c2) l.length (l.flatMap odC)) (hm : l.length ≤ 9223372036854775807) :
    Calls Try.prog 33 #[.slice p1 l.length c1, .slice p2 l.length c2] w fun e w' => e = .returned (.bool true) ∧ w.grownBy w' none := by
  have H := Lib.hid (And.intro h1 h2)
  clear h1 h2
  go_enter Try.func33, Try.ntmps33
  go_wp2_with fail
  go_loopw [5] (fun a wr => ∃ k : Nat, k ≤ l.length ∧ a = .int .i64 (k : Int) ∧ w.grownBy wr none) (fun a _ => l.length - (RowKit.intOf a).toNat)
  case atStart => exact ⟨0, Nat.zero_le _, rfl, grown_refl _ _⟩
  case round =>
    obtain ⟨k, hk, rfl, hG⟩ := hrel
    by_cases hlt : k < l.length
    · have hlt' : (k : Int) < (l.length : Int) := by omega
      obtain ⟨-, b1, o1, rfl, _, hc1⟩ := od_cells (H.out.1.keep hG) (by omega)
      obtain ⟨-, b2, o2, rfl, _, hc2⟩ := od_cells (H.out.2.keep hG) (by omega)
      obtain ⟨y, hy⟩ : ∃ y, l[k]? = some y := ⟨_, List.getElem?_eq_getElem hlt⟩
      obtain ⟨a0, a1, a2, a3⟩ := hc1 k y hy
      obtain ⟨e0, e1, e2, e3⟩ := hc2 k y hy
      clear hy
      have HG := Lib.hid hG
      clear hc1 hc2 hG
      go_wp2_with fail
      go_region
      have HG2 := Lib.hid (grown_drew HG.out)
      clear HG a0 a1 a2 a3 e0 e1 e2 e3
      change Exit.then _ _ _ _ wr.drew
      generalize wr.drew = w2 at *
      go_wp2_with fail
      exact ⟨⟨k + 1, by omega, congrArg _ (by omega), HG2.out⟩, by simp only [RowKit.intOf]; omega⟩
    · obtain rfl : k = l.length := by omega
      have HG := Lib.hid hG
      clear hG
      go_wp2_with fail
      go_ret
      exact ⟨rfl, HG.out⟩
end Go.Proofs.Ytndfhgklhjfhkaa

/- The reference's Has and Named; Same of equal topologies. -/
namespace Go.Proofs.Ytndfhgklhjfhkaa
open Go.RowKit Bs
set_option maxRecDepth 100000 in
set_option maxHeartbeats 1600000 in
theorem rhas4_any (X : List Int) (x : Int) (p : Option Addr) (c : Nat) (q : Nat → Prop) (w : World) (hR : Rd w q (.slice p X.length c) (X.map tv)) (hm : X.length ≤ 9223372036854775807) :
    Calls Try.prog 30 #[.slice p X.length c, .int .i64 x] w fun e w' => e = .returned (.bool (hasI X x)) ∧ w = w' := by
  have HR := Lib.hid hR
  have HN0 : Hid ((X.take 0).any (fun y => decide (y = x)) = false) := Lib.hid rfl
  clear hR
  go_enter Try.func30, Try.ntmps30
  go_wp2_with fail
  go_loopw [5] (fun a wr => ∃ k : Nat, k ≤ X.length ∧ a = .int .i64 (k : Int) ∧ Hid ((X.take k).any (fun y => decide (y = x)) = false) ∧ wr = w) (fun a _ => X.length - (RowKit.intOf a).toNat)
  case atStart => exact ⟨0, Nat.zero_le _, rfl, HN0, rfl⟩
  case round =>
    obtain ⟨k, hk, rfl, HN, rfl⟩ := hrel
    by_cases hlt : k < X.length
    · obtain ⟨-, b, off, rfl, -, hc⟩ := rdi_at HR.out (by omega)
      obtain ⟨y, hy⟩ : ∃ y, X[k]? = some y := ⟨_, List.getElem?_eq_getElem hlt⟩
      have d0 := hc k y hy
      have HY := Lib.hid hy
      clear hc hy HN0
      by_cases hyx : y = x
      · have HT : Hid (hasI X x = true) := Lib.hid (any_at HY.out (decide_eq_true hyx))
        subst hyx
        go_wp2_with fail
        go_ret
        rw [HT.out]
        exact ⟨rfl, rfl⟩
      · have HN2 := Lib.hid (any_take HN.out HY.out (decide_eq_false hyx))
        have h' : (y == x) = false := by simpa using hyx
        go_wp2_with fail
        exact ⟨⟨k + 1, by omega, congrArg _ (by omega), HN2, (by first | rfl | trivial)⟩, by simp only [RowKit.intOf]; omega⟩
    · have HT : Hid (hasI X x = false) := Lib.hid (any_end HN.out (by omega))
      obtain rfl : k = X.length := by omega
      go_wp2_with fail
      go_ret
      rw [HT.out]
      exact ⟨rfl, rfl⟩
end Go.Proofs.Ytndfhgklhjfhkaa

/- The law IdentifySettles. -/
namespace Go.Proofs.Ytndfhgklhjfhkaa
open Go.RowKit Bs
/-- The lists of the law. -/
structure SW (W : World) (l m : List Od) (C : List Int) (p q q2 pc : Option Addr) (c d d2 cc : Nat) (w : World) : Prop where
  gr : W.grownBy w none
  rl : RdF w (fun _ => True) (.slice p l.length c) l.length (l.flatMap odC)
  rm : RdF w (fun _ => True) (.slice q m.length d) m.length (m.flatMap odC)
  rn : RdF w (fun _ => True) (.slice q2 m.length d2) m.length (m.flatMap odC)
  rc : Rd w (fun _ => True) (.slice pc C.length cc) (C.map fun z => Value.int .i64 z)
set_option maxRecDepth 100000 in
theorem SW.keep {W w w1 : World} {l m : List Od} {C : List Int} {p q q2 pc : Option Addr} {c d d2 cc : Nat} (h : SW W l m C p q q2 pc c d d2 cc w) (g : w.grownBy w1 none) : SW W l m C p q q2 pc c d d2 cc w1 :=
  ⟨grown_trans h.gr g, h.rl.keep g, h.rm.keep g, h.rn.keep g, h.rc.keep g⟩
set_option maxRecDepth 100000 in
theorem cell_ltS {w : World} {b o : Nat} {x : Value} (h : w.cell? ⟨b, o, none⟩ = some x) : b < w.heap.size := by
  by_cases hb : b < w.heap.size
  · exact hb
  · have : w.heap[b]? = none := Array.getElem?_eq_none (by omega)
    simp [World.cell?, this] at h
/-- The cells of a claim. -/
def OdAt (w : World) (b o : Nat) (x : Od) : Prop := w.cell? ⟨b, o, none⟩ = some (.int .i64 x.r) ∧ w.cell? ⟨b, o + 1, none⟩ = some (.int .i64 x.s) ∧ w.cell? ⟨b, o + 2, none⟩ = some (.int .i64 x.i) ∧ w.cell? ⟨b, o + 3, none⟩ = some (.int .i64 x.l)
set_option maxRecDepth 100000 in
theorem OdAt.grown {w w1 : World} {b o : Nat} {x : Od} {r : Option Nat} (h : OdAt w b o x) (g : w.grownBy w1 r) (hr : some b ≠ r) : OdAt w1 b o x := ⟨g.cell h.1 hr, g.cell h.2.1 hr, g.cell h.2.2.1 hr, g.cell h.2.2.2 hr⟩
set_option maxRecDepth 100000 in
theorem keep12 {w w1 : World} {b1 b2 B k1 k2 : Nat} {y : Od} {v : Int} {t : TypeId} (h : OdAt w b1 k1 y ∧ OdAt w b2 k2 { y with i := v } ∧ w.heap[B]? = some (.cells #[.int .i64 y.r, .int .i64 y.s, .int .i64 y.i, .int .i64 y.l] t (0, 0))) (hg : Hid (w.grownBy w1 none)) :
    w1.cell? ⟨b1, k1, none⟩ = some (.int .i64 y.r) ∧ w1.cell? ⟨b1, k1 + 1, none⟩ = some (.int .i64 y.s) ∧ w1.cell? ⟨b1, k1 + 2, none⟩ = some (.int .i64 y.i) ∧ w1.cell? ⟨b1, k1 + 3, none⟩ = some (.int .i64 y.l) ∧ w1.cell? ⟨b2, k2, none⟩ = some (.int .i64 y.r) ∧ w1.cell? ⟨b2, k2 + 1, none⟩ = some (.int .i64 y.s) ∧ w1.cell? ⟨b2, k2 + 2, none⟩ = some (.int .i64 v) ∧ w1.cell? ⟨b2, k2 + 3, none⟩ = some (.int .i64 y.l) ∧ w1.cell? ⟨B, 0, none⟩ = some (.int .i64 y.r) ∧ w1.cell? ⟨B, 1, none⟩ = some (.int .i64 y.s) ∧ w1.cell? ⟨B, 2, none⟩ = some (.int .i64 y.i) ∧ w1.cell? ⟨B, 3, none⟩ = some (.int .i64 y.l) ∧ Hid (w.grownBy w1 none) := by
  obtain ⟨a0, a1, a2, a3⟩ := h.1.grown hg.out (by simp)
  obtain ⟨e0, e1, e2, e3⟩ := h.2.1.grown hg.out (by simp)
  obtain ⟨d0, d1, d2, d3⟩ := row4i (kept_row h.2.2 hg.out (by simp))
  exact ⟨a0, a1, a2, a3, e0, e1, e2, e3, d0, d1, d2, d3, hg⟩
set_option maxRecDepth 100000 in
set_option maxHeartbeats 25600000 in
theorem settles_walk (v : Value) (w : World) (hv : IntsIn w v) :
    Calls Try.prog 7 #[v] w fun e w' => e = .returned (.bool true) ∧ w.grownBy w' none := by
  have HV := Lib.hid hv
  clear hv
  go_enter Try.func7, Try.ntmps7
  go_wp2_with fail
  refine (new_any v w HV.out).mono ?_
  rintro e w1 ⟨rfl, hg1, hT1⟩
  have H1 := Lib.hid (And.intro hg1 hT1)
  clear hg1 hT1 HV
  obtain ⟨a, ha⟩ : ∃ a, w.heap.size = a := ⟨_, rfl⟩
  have HA := Lib.hid ha
  rw [ha] at H1 ⊢
  clear ha
  go_wp2_with fail
  refine (tclaims_any a 7 0 (by omega) (by unfold I64; omega) _ H1.out.2).mono ?_
  rintro e w2 ⟨l, p, c, rfl, hll, hck, ho, hs⟩
  obtain ⟨pp, cc, e2, hc1, hc2⟩ := own_shape ho
  injection e2 with e3 e4 e5
  subst e3
  subst e5
  have HL := Lib.hid (And.intro hll (And.intro (hck rfl) (And.intro (own_nlI ho) (And.intro hc1 hc2))))
  have h2 := grown_new H1.out.1 hs.1 (by rw [HA.out]; exact Nat.le_refl _)
  have hla := H1.out.2.lt
  have r1 : RdF w2 (a < ·) (.slice p l.length c) l.length (l.flatMap odC) := (rdf_of_own ho).mono (fun b hb => by omega)
  have H2 := Lib.hid (And.intro h2 (And.intro hs.2 r1))
  clear ho hs hc1 hc2 h2 r1 H1 hll hck e4 hla
  go_wp2_with fail
  refine (next_any a 3 (by unfold I64; omega) _ H2.out.2.1).mono ?_
  rintro e w3 ⟨sub, rfl, hsb, hs⟩
  have H3 := Lib.hid (And.intro (grown_new H2.out.1 hs.1 (by rw [HA.out]; exact Nat.le_refl _)) ((H2.out.2.2.grown hs.1 (fun b hb e => by have := Option.some.inj e; omega)).mono (q' := fun _ => True) (fun _ _ => trivial)))
  have HSB : Hid (inV sub 0 7 = true) := Lib.hid (decide_eq_true ⟨hsb.1, by have := hsb.2.1 (by omega); omega⟩)
  clear hs H2 hsb HA
  obtain ⟨m, hS⟩ := stl_ex HL.out.2.1 sub (by have := HL.out.1; omega)
  have HS := Lib.hid hS
  clear hS
  go_wp2_with fail
  refine ((iconf_any l p c sub _ w3 H3.out.2 (by have := HL.out.1; omega)).mono fun _ _ h => ri_ints h).mono ?_
  rintro e w4 ⟨pc, cc, rfl, hci, hg⟩
  have H4 := Lib.hid (And.intro (grown_trans H3.out.1 hg) (And.intro (H3.out.2.keep hg) hci))
  clear hci hg H3
  have cR := ires_any l p c sub _ w4 H4.out.2.1 HL.out.2.2.1 HL.out.2.2.2
  unfold ResPost at cR
  rw [HS.out.x, HS.out.o] at cR
  have CR := Lib.hid cR
  clear cR
  go_wp2_with fail
  refine CR.out.mono ?_
  rintro e w5 ⟨q, d, rfl, ho, hg⟩
  obtain ⟨pp, dd, e2, hc1, hc2⟩ := own_shape ho
  injection e2 with e3 e4 e5
  subst e3
  subst e5
  have HM := Lib.hid (And.intro (own_nlI ho) (And.intro hc1 hc2))
  have H5 := Lib.hid (And.intro (grown_trans H4.out.1 hg) (And.intro (H4.out.2.1.keep hg) (And.intro (H4.out.2.2.keep hg) ((rdf_of_own ho).mono (q' := fun _ => True) (fun _ _ => trivial)))))
  clear CR ho hg H4 e4 hc1 hc2
  have cR := ires_any m q d sub _ w5 H5.out.2.2.2 HM.out.1 HM.out.2
  unfold ResPost at cR
  rw [HS.out.again.1, HS.out.again.2.1] at cR
  have CR := Lib.hid cR
  clear cR
  go_wp2_with fail
  refine CR.out.mono ?_
  rintro e w6 ⟨q2, d2, rfl, ho, hg⟩
  have H6 : Hid (SW w l m (cfO l sub) p q q2 pc c d d2 cc w6) := Lib.hid ⟨grown_trans H5.out.1 hg, H5.out.2.1.keep hg, H5.out.2.2.2.keep hg, (rdf_of_own ho).mono (fun _ _ => trivial), H5.out.2.2.1.keep hg⟩
  clear CR ho hg H5
  obtain ⟨C, hC⟩ : ∃ C, cfO l sub = C := ⟨_, rfl⟩
  have HC := Lib.hid (And.intro hC (show C.length ≤ 257 by rw [← hC]; unfold cfO; split; exact cfK_len _ _ _; simp))
  rw [hC] at H6 ⊢
  clear hC
  have hml : (m.length : Int) = (l.length : Int) := congrArg _ HS.out.n
  have hmm : m.length ≤ 9223372036854775807 := by have := HL.out.1; have := HS.out.n; omega
  have hll' : (l.length : Int) ≤ 22 := by have := HL.out.1; omega
  go_wp2_with fail
  refine (isame_any m q q2 d d2 _ _ w6 H6.out.rm H6.out.rn hmm).mono ?_
  rintro e w7 ⟨rfl, hg⟩
  have H7 := Lib.hid (H6.out.keep hg)
  clear hg H6
  go_wp2_with fail
  refine ((iconf_any m q d sub _ w7 H7.out.rm hmm).mono fun _ _ h => ri_ints h).mono ?_
  rw [HS.out.again.2.2]
  rintro e w8 ⟨p1, c1, rfl, -, hg⟩
  have H8 := Lib.hid (H7.out.keep hg)
  clear hg H7
  go_wp2_with fail
  have c3 := icheck_any m q d _ w8 H8.out.rm hmm
  rw [HS.out.c] at c3
  refine c3.mono ?_
  clear c3
  rintro e w9 ⟨rfl, hg⟩
  have H9 := Lib.hid (H8.out.keep hg)
  clear hg H8
  go_wp2_with fail
  go_loopw [11] (fun x wr => ∃ i : Nat, i ≤ l.length ∧ x = .int .i64 (i : Int) ∧ Hid (SW w l m C p q q2 pc c d d2 cc wr)) (fun x _ => l.length - (RowKit.intOf x).toNat)
  case atStart => exact ⟨0, Nat.zero_le _, rfl, H9⟩
  case round =>
  clear H9
  obtain ⟨i, hi, rfl, H10⟩ := hrel
  by_cases hlt : i < l.length
  case pos =>
    have hlt' : (i : Int) < (l.length : Int) := by omega
    obtain ⟨-, b1, o1, rfl, _, hc1⟩ := od_cells H10.out.rl (by omega)
    obtain ⟨-, b2, o2, rfl, _, hc2⟩ := od_cells H10.out.rm (by have := HS.out.n; omega)
    obtain ⟨y, hy⟩ : ∃ y, l[i]? = some y := ⟨_, List.getElem?_eq_getElem hlt⟩
    obtain ⟨v, hv, hvc⟩ := HS.out.f i y hy
    obtain ⟨wz, hwz⟩ : ∃ wz, wz = wr := ⟨_, rfl⟩
    rw [← hwz] at H10 hc1 hc2 ⊢
    clear hwz
    have HCA : Hid (OdAt wz b1 (o1 + i * 4) y ∧ OdAt wz b2 (o2 + i * 4) { y with i := v }) := Lib.hid ⟨hc1 i y hy, hc2 i _ hv⟩
    have HVC := Lib.hid (And.intro hvc (List.mem_of_getElem? hy))
    obtain ⟨e0, e1, e2, e3⟩ := hc2 i _ hv
    clear hc1 hc2 hv hy hvc
    have hlm' : (i : Int) < (m.length : Int) := by omega
    dsimp only at e0 e1 e2 e3
    have HB := Lib.hid (tone_box wz #[.int .i64 y.r, .int .i64 y.s, .int .i64 v, .int .i64 y.l] 62)
    have HNE : Hid (b1 ≠ wz.heap.size ∧ b2 ≠ wz.heap.size) := Lib.hid ⟨fun e => by have := cell_ltS HCA.out.1.1; omega, fun e => by have := cell_ltS HCA.out.2.1; omega⟩
    obtain ⟨B, hB⟩ : ∃ B, wz.heap.size = B := ⟨_, rfl⟩
    have HBE := Lib.hid hB
    rw [hB] at HB HNE
    go_upto_region 13 with fail
    clear e0 e1 e2 e3
    clear hB
    generalize wz.alloc _ = w11 at *
    have H11 := Lib.hid (grown_new HB.out.2 (grown_setCell w11 ⟨B, 2, none⟩ (.int .i64 y.i)) (by rw [HBE.out]; exact Nat.le_refl _))
    have H12 : Hid (SW w l m C (some ⟨b1, o1, none⟩) (some ⟨b2, o2, none⟩) q2 pc c d d2 cc (w11.setCell ⟨B, 2, none⟩ (.int .i64 y.i)) ∧ OdAt (w11.setCell ⟨B, 2, none⟩ (.int .i64 y.i)) b1 (o1 + i * 4) y ∧ OdAt (w11.setCell ⟨B, 2, none⟩ (.int .i64 y.i)) b2 (o2 + i * 4) { y with i := v } ∧ (w11.setCell ⟨B, 2, none⟩ (.int .i64 y.i)).heap[B]? = some (.cells #[.int .i64 y.r, .int .i64 y.s, .int .i64 y.i, .int .i64 y.l] 62 (0, 0))) :=
      Lib.hid ⟨H10.out.keep H11.out, HCA.out.1.grown H11.out (by simp), HCA.out.2.grown H11.out (by simp), heap_setCell_same w11 B 2 _ _ (.int .i64 y.i) HB.out.1⟩
    have e2 := HB.out.2.cell HCA.out.1.2.2.1 (by simp)
    obtain ⟨d0, d1, d2, d3⟩ := row4i HB.out.1
    have fz := frozen_of_row _ _ 2 _ _ HB.out.1
    clear H11 HB H10 HCA HBE HNE
    go_upto_region 14 with fail
    generalize w11.setCell _ _ = w13 at *
    clear e2 d0 d1 d2 d3 fz
    obtain ⟨a0, a1, a2, a3⟩ := H12.out.2.1
    obtain ⟨e0, e1, e2, e3⟩ := H12.out.2.2.1
    dsimp only at e0 e1 e2 e3
    obtain ⟨d0, d1, d2, d3⟩ := row4i H12.out.2.2.2
    have HY := Lib.hid HVC.out.2
    by_cases hvi : v = y.i
    · subst hvi
      clear HVC
      go_region
      have H13 := Lib.hid (H12.out.1.keep (grown_drew (grown_refl _ none)))
      clear H12 a0 a1 a2 a3 e0 e1 e2 e3 d0 d1 d2 d3
      change Exit.then _ _ _ _ w13.drew
      generalize w13.drew = w14 at *
      go_wp2_with fail
      exact ⟨⟨i + 1, by omega, congrArg _ (by omega), H13⟩, by simp only [RowKit.intOf]; omega⟩
    · have hys : y.s = sub := (HVC.out.1.resolve_left hvi).1
      have hyc : hasI C y.i = true := by
        have h := (HVC.out.1.resolve_left hvi).2
        rw [HC.out.1] at h
        exact List.any_eq_true.2 ⟨_, h, decide_eq_true rfl⟩
      have HYC := Lib.hid hyc
      clear HVC hyc
      have HF := Lib.hid (And.intro H12.out.2.1 (And.intro H12.out.2.2.1 H12.out.2.2.2))
      have GZ : Hid (w13.grownBy w13 none) := Lib.hid (grown_refl _ _)
      have C1 : Hid (∀ W, Hid (w13.grownBy W none) → Calls Try.prog 30 #[.slice pc C.length cc, .int .i64 y.i] W fun e w' => e = .returned (.bool true) ∧ W = w') := Lib.hid (fun W hW => by
        have h := rhas4_any C y.i pc cc _ W (H12.out.1.rc.keep hW.out) (by have := HC.out.2; omega)
        rw [HYC.out] at h
        exact h)
      go_region_held3 (fun w' => w'.cell? ⟨b1, o1 + i * 4, none⟩ = some (.int .i64 y.r) ∧ w'.cell? ⟨b1, o1 + i * 4 + 1, none⟩ = some (.int .i64 y.s) ∧ w'.cell? ⟨b1, o1 + i * 4 + 2, none⟩ = some (.int .i64 y.i) ∧ w'.cell? ⟨b1, o1 + i * 4 + 3, none⟩ = some (.int .i64 y.l) ∧ w'.cell? ⟨b2, o2 + i * 4, none⟩ = some (.int .i64 y.r) ∧ w'.cell? ⟨b2, o2 + i * 4 + 1, none⟩ = some (.int .i64 y.s) ∧ w'.cell? ⟨b2, o2 + i * 4 + 2, none⟩ = some (.int .i64 v) ∧ w'.cell? ⟨b2, o2 + i * 4 + 3, none⟩ = some (.int .i64 y.l) ∧ w'.cell? ⟨B, 0, none⟩ = some (.int .i64 y.r) ∧ w'.cell? ⟨B, 1, none⟩ = some (.int .i64 y.s) ∧ w'.cell? ⟨B, 2, none⟩ = some (.int .i64 y.i) ∧ w'.cell? ⟨B, 3, none⟩ = some (.int .i64 y.l) ∧ Hid (w13.grownBy w' none))
        (first | with_reducible exact keep12 HF.out (hid_drew GZ) | (go_split_ands; with_reducible refine keep12 HF.out ?_; with_reducible assumption) | (go_split_ands; with_reducible refine keep12 HF.out (hid_drew ?_); with_reducible assumption))
        ((go_at_call 30; go_split_ands; refine (C1.out _ ?_).mono ?_; assumption; rintro e w' ⟨rfl, rfl⟩))
      all_goals
        go_split_ands
        clear GZ
        have HG1 := (by assumption : Hid (w13.grownBy _ none))
        have H13 := Lib.hid (H12.out.1.keep HG1.out)
        clear HG1 H12 C1
        go_wp2_with fail
        exact ⟨⟨i + 1, by omega, congrArg _ (by omega), H13⟩, by simp only [RowKit.intOf]; omega⟩
  case neg =>
    obtain rfl : i = l.length := by omega
    have hpl := HS.out.plan HSB.out (by have := HL.out.1; omega)
    have cP := iplan_any m q d sub _ wr H10.out.rm hmm
    unfold PlnPost at cP
    rw [hpl.1, hpl.2] at cP
    have CP := Lib.hid cP
    obtain ⟨K, hK⟩ : ∃ K, kof m sub = K := ⟨_, rfl⟩
    have HK := Lib.hid hK
    rw [hK] at CP
    clear cP hpl hK
    go_wp2_with fail
    refine CP.out.mono ?_
    rintro e w9 ⟨pe, ce, rfl, -, hg⟩
    have H11 := Lib.hid (H10.out.keep hg)
    clear CP hg H10
    generalize plnS m sub = e1
    generalize plnL m sub = e2
    have HB := Lib.hid (tone_box w9 #[.int .i64 e1, .int .i64 e2, .slice pe K ce] 26)
    go_upto_region 17 with fail
    generalize w9.alloc _ = w10 at *
    generalize w9.heap.size = B at *
    have H12 : Hid (SW w l m C p q q2 pc c d d2 cc w10 ∧ w10.heap[B]? = some (.cells #[.int .i64 e1, .int .i64 e2, .slice pe K ce] 26 (0, 0))) := Lib.hid ⟨H11.out.keep HB.out.2, HB.out.1⟩
    clear H11 HB
    go_wp2_with fail
    go_loopw [15, 16] (fun y x wr => ∃ i : Nat, i ≤ m.length ∧ x = .int .i64 (i : Int) ∧ y = .int .i64 (kof (m.take i) sub : Int) ∧ Hid (SW w l m C p q q2 pc c d d2 cc wr ∧ wr.heap[B]? = some (.cells #[.int .i64 e1, .int .i64 e2, .slice pe K ce] 26 (0, 0)))) (fun _ x _ => m.length - (RowKit.intOf x).toNat)
    case atStart => exact ⟨0, Nat.zero_le _, rfl, rfl, H12⟩
    case round =>
    clear H12
    obtain ⟨i, hi, rfl, rfl, H13⟩ := hrel
    by_cases hlt : i < m.length
    case pos =>
      have hlt' : (i : Int) < (m.length : Int) := by omega
      have hkb : kof (m.take i) sub ≤ i := by
        have h1 : kof (m.take i) sub ≤ (m.take i).length := List.countP_le_length
        rw [List.length_take] at h1
        omega
      obtain ⟨-, b1, o1, rfl, _, hc1⟩ := od_cells H13.out.1.rm (by omega)
      obtain ⟨y, hy⟩ : ∃ y, m[i]? = some y := ⟨_, List.getElem?_eq_getElem hlt⟩
      have HKT := Lib.hid (kof_take (sub := sub) hy)
      obtain ⟨a0, a1, a2, a3⟩ := hc1 i y hy
      obtain ⟨Z, hZ⟩ : ∃ Z, kof (m.take i) sub = Z := ⟨_, rfl⟩
      rw [hZ] at HKT hkb ⊢
      clear hc1 hy hZ
      have hkb' : (Z : Int) ≤ 22 := by omega
      by_cases hys : y.s = sub
      · have HE := Lib.hid (show kof (m.take (i + 1)) sub = Z + 1 by rw [HKT.out, if_pos hys])
        clear HKT
        go_wp2_with fail
        clear a0 a1 a2 a3
        refine ⟨⟨i + 1, by omega, congrArg _ (by omega), ?_, H13⟩, by simp only [RowKit.intOf]; omega⟩
        rw [HE.out]
        exact congrArg _ (by omega)
      · have HE := Lib.hid (show kof (m.take (i + 1)) sub = Z by rw [HKT.out, if_neg hys]; rfl)
        clear HKT
        go_wp2_with fail
        clear a0 a1 a2 a3
        refine ⟨⟨i + 1, by omega, congrArg _ (by omega), ?_, H13⟩, by simp only [RowKit.intOf]; omega⟩
        rw [HE.out]
    case neg =>
      obtain rfl : i = m.length := by omega
      rw [List.take_length, HK.out]
      obtain ⟨⟨d0, d1, d2⟩, -⟩ := row3i H13.out.2
      have hml2 : ¬ (m.length : Int) < (m.length : Int) := by omega
      go_wp2_with fail
      refine (iawake_any wr).mono ?_
      rintro e w14 ⟨rfl, hg⟩
      have G := Lib.hid (grown_trans H13.out.1.gr hg)
      clear hg H13 d0 d1 d2
      go_wp2_with fail
      go_ret
      exact ⟨rfl, G.out⟩
end Go.Proofs.Ytndfhgklhjfhkaa

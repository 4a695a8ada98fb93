/- Parts of the proof, packed: IdAwk, IdInt, IdLwS, ToHasF, IdRrs, IdFuLaw. -/
import Derived.Test.YtndfhgklhjfhkaaFu3
import Derived.Laws.StructEq
import Derived.Test.YtndfhgklhjfhkaaFu1
import Derived.BigQuiet
import Derived.Test.YtndfhgklhjfhkaaFu2
import Derived.Deep.AppendLies
import Derived.Deep.RegionLawGrows
/- The laws' example. -/
namespace Go.Proofs.Ytndfhgklhjfhkaa
open Go.RowKit Bs
set_option maxRecDepth 100000 in
set_option maxHeartbeats 1600000 in
theorem iclaim_any (r id : Int) (w : World) :
    Calls Try.prog 41 #[.int .i64 r, .int .i64 id] w fun e w' => e = .returned (.agg #[.int .i64 r, .int .i64 0, .int .i64 id, .int .i64 8]) ∧ w.grownBy w' none := by
  obtain ⟨n1, n2⟩ := tone_box w #[.int .i64 r, .int .i64 0, .int .i64 id, .int .i64 8] 62
  have H := Lib.hid (And.intro n1 n2)
  have hsz : (Try.prog.info? 62).map (·.size) = some 4 := by kernel_rfl
  have HS := Lib.hid hsz
  have HU := Lib.hid Try.underlying62
  clear n1 n2 hsz
  go_enter Try.func41, Try.ntmps41
  go_wp2_with fail
  refine bodyPost_ret (v := .agg #[.int .i64 r, .int .i64 0, .int .i64 id, .int .i64 8]) (results_cell_row (p := 4) (fr := (0, 0)) (by kernel_rfl) _ _ w.heap.size _ _ _ rfl H.out.1 HU.out rfl HS.out) rfl ⟨rfl, H.out.2⟩
def exL : List Od := [⟨1, 0, 5, 8⟩, ⟨2, 0, 5, 8⟩, ⟨3, 0, 1, 8⟩]
set_option maxRecDepth 100000 in
theorem ex_p0 : plnX exL 0 = 0 ∧ plnS exL 0 = 0 ∧ plnL exL 0 = 8 := ⟨by kernel_rfl, by kernel_rfl, by kernel_rfl⟩
set_option maxRecDepth 100000 in
theorem ex_p1 : plnE exL 0 = [⟨3, 1⟩] := by kernel_rfl
set_option maxRecDepth 100000 in
theorem ex_r0 : rsX exL 0 = 0 := by kernel_rfl
set_option maxRecDepth 100000 in
theorem ex_r1 : rsO exL 0 = [⟨1, 0, 5, 8⟩, ⟨2, 0, 2, 8⟩, ⟨3, 0, 1, 8⟩] := by kernel_rfl
set_option maxRecDepth 100000 in
theorem ex_l : plS 9 8 = 1 ∧ plB 9 8 = 0 ∧ plOk 9 8 = true := ⟨by kernel_rfl, by kernel_rfl, by kernel_rfl⟩
set_option maxRecDepth 100000 in
theorem rd12 (w : World) (q : Nat → Prop) (hq : q w.heap.size) : RdF (w.alloc (.cells #[.int .i64 1, .int .i64 0, .int .i64 5, .int .i64 8, .int .i64 2, .int .i64 0, .int .i64 5, .int .i64 8, .int .i64 3, .int .i64 0, .int .i64 1, .int .i64 8] 62)) q (.slice (some ⟨w.heap.size, 0, none⟩) exL.length 3) exL.length (exL.flatMap odC) := by
  refine ⟨_, 3, rfl, fun _ => ⟨_, _, rfl, hq, fun i u hi => ?_⟩⟩
  rw [Nat.zero_add, cell_of_row _ _ _ _ _ _ (heap_alloc_new w _)]
  simpa [exL, odC] using hi
set_option maxRecDepth 100000 in
theorem keepAw {w5 w' : World} {B g1 o1 g2 o2 : Nat} {c : Nat} (h : w5.cell? ⟨B, 2, none⟩ = some (.slice (some ⟨g1, o1, none⟩) 1 c) ∧ w5.cell? ⟨g1, o1, none⟩ = some (.int .i64 3) ∧ w5.cell? ⟨g1, o1 + 1, none⟩ = some (.int .i64 1) ∧ w5.cell? ⟨g2, o2 + 4, none⟩ = some (.int .i64 2) ∧ w5.cell? ⟨g2, o2 + 4 + 1, none⟩ = some (.int .i64 0) ∧ w5.cell? ⟨g2, o2 + 4 + 2, none⟩ = some (.int .i64 2) ∧ w5.cell? ⟨g2, o2 + 4 + 3, none⟩ = some (.int .i64 8)) (hg : Hid (w5.grownBy w' none)) :
    w'.cell? ⟨B, 2, none⟩ = some (.slice (some ⟨g1, o1, none⟩) 1 c) ∧ w'.cell? ⟨g1, o1, none⟩ = some (.int .i64 3) ∧ w'.cell? ⟨g1, o1 + 1, none⟩ = some (.int .i64 1) ∧ w'.cell? ⟨g2, o2 + 4, none⟩ = some (.int .i64 2) ∧ w'.cell? ⟨g2, o2 + 4 + 1, none⟩ = some (.int .i64 0) ∧ w'.cell? ⟨g2, o2 + 4 + 2, none⟩ = some (.int .i64 2) ∧ w'.cell? ⟨g2, o2 + 4 + 3, none⟩ = some (.int .i64 8) ∧ Hid (w5.grownBy w' none) := by
  obtain ⟨h0, h1, h2, h3, h4, h5, h6⟩ := h
  exact ⟨hg.out.cell h0 (by simp), hg.out.cell h1 (by simp), hg.out.cell h2 (by simp), hg.out.cell h3 (by simp), hg.out.cell h4 (by simp), hg.out.cell h5 (by simp), hg.out.cell h6 (by simp), hg⟩
set_option maxRecDepth 100000 in
set_option maxHeartbeats 6400000 in
theorem iawake_any (w : World) :
    Calls Try.prog 19 #[] w fun e w' => e = .returned (.bool true) ∧ w.grownBy w' none := by
  go_enter Try.func19, Try.ntmps19
  go_wp2_with fail
  refine (iclaim_any 1 5 w).mono ?_
  rintro e w1 ⟨rfl, hg⟩
  have G1 := Lib.hid hg
  clear hg
  go_wp2_with fail
  refine (iclaim_any 2 5 w1).mono ?_
  rintro e w2 ⟨rfl, hg⟩
  have G2 := Lib.hid (grown_trans G1.out hg)
  clear hg G1
  go_wp2_with fail
  refine (iclaim_any 3 1 w2).mono ?_
  rintro e w3 ⟨rfl, hg⟩
  have G3 := Lib.hid (grown_trans G2.out hg)
  have H3 := Lib.hid (rd12 w3 (fun _ => True) trivial)
  have HG3 := Lib.hid (grown_trans G3.out (World.grownBy_alloc w3 (.cells #[.int .i64 1, .int .i64 0, .int .i64 5, .int .i64 8, .int .i64 2, .int .i64 0, .int .i64 5, .int .i64 8, .int .i64 3, .int .i64 0, .int .i64 1, .int .i64 8] 62) none))
  clear hg G2 G3
  go_upto_region 2 with fail
  generalize w3.alloc _ = w4 at *
  go_wp2_with fail
  refine (iplan_any exL (some ⟨w3.heap.size, 0, none⟩) 3 0 _ w4 H3.out (by decide)).mono ?_
  rintro e w5 ⟨p5, c5, rfl, ho, hg⟩
  rw [ex_p0.1, ex_p0.2.1, ex_p0.2.2, ex_p1]
  rw [ex_p1] at ho
  obtain ⟨m1, m2⟩ := tone_box w5 #[.int .i64 0, .int .i64 8, .slice p5 1 c5] 26
  have H5 := Lib.hid (And.intro ((H3.out.keep hg).keep m2) (And.intro (grown_trans (grown_trans HG3.out hg) m2) (And.intro m1 (ho.kept m2 (by cases (Value.slice p5 [(⟨3, 1⟩ : Ed)].length c5).ownBlock <;> simp)))))
  clear m1 m2 ho hg H3 HG3
  go_upto_region 3 with fail
  generalize w5.alloc _ = w6 at *
  go_wp2_with fail
  refine (ires_any exL (some ⟨w3.heap.size, 0, none⟩) 3 0 _ w6 H5.out.1 (fun h => by cases h) (by decide)).mono ?_
  rintro e w7 ⟨p7, c7, rfl, ho, hg⟩
  rw [ex_r0, ex_r1]
  rw [ex_r1] at ho
  have H7 := Lib.hid (And.intro (kept_row H5.out.2.2.1 hg (by simp)) (And.intro (rdf_of_own (H5.out.2.2.2.kept hg (by cases (Value.slice p5 [(⟨3, 1⟩ : Ed)].length c5).ownBlock <;> simp))) (And.intro (rdf_of_own ho) (grown_trans H5.out.2.1 hg))))
  clear ho hg H5
  go_wp2_with fail
  refine (iplc_any 9 8 w7).mono ?_
  rintro e w8 ⟨rfl, hg⟩
  rw [ex_l.1, ex_l.2.1, ex_l.2.2]
  have H8 := Lib.hid (And.intro (kept_row H7.out.1 hg (by simp)) (And.intro (H7.out.2.1.keep hg) (And.intro (H7.out.2.2.1.keep hg) (grown_trans H7.out.2.2.2 hg))))
  clear hg H7
  obtain ⟨-, g1, o1, rfl, -, hE⟩ := ed_cells H8.out.2.1 (by decide)
  obtain ⟨e0, e1⟩ := hE 0 _ rfl
  obtain ⟨-, g2, o2, rfl, -, hO⟩ := od_cells H8.out.2.2.1 (by decide)
  obtain ⟨q0, q1, q2, q3⟩ := hO 1 _ rfl
  rw [Nat.zero_mul, Nat.add_zero] at e0 e1
  rw [Nat.one_mul] at q0 q1 q2 q3
  have c2 : w8.cell? ⟨w5.heap.size, 2, none⟩ = some (.slice (some ⟨g1, o1, none⟩) 1 c5) := cell_of_row _ _ 2 _ _ _ H8.out.1
  have HF := Lib.hid (And.intro c2 (And.intro e0 (And.intro e1 (And.intro q0 (And.intro q1 (And.intro q2 q3))))))
  have HGW := Lib.hid H8.out.2.2.2
  clear hE hO c2 e0 e1 q0 q1 q2 q3 H8
  have GZ : Hid (w8.grownBy w8 none) := Lib.hid (grown_refl _ _)
  go_upto_region 5 with fail
  obtain ⟨a0, a1, a2, a3, a4, a5, a6⟩ := HF.out
  go_region_held3 (fun w' => w'.cell? ⟨w5.heap.size, 2, none⟩ = some (.slice (some ⟨g1, o1, none⟩) 1 c5) ∧ w'.cell? ⟨g1, o1, none⟩ = some (.int .i64 3) ∧ w'.cell? ⟨g1, o1 + 1, none⟩ = some (.int .i64 1) ∧ w'.cell? ⟨g2, o2 + 4, none⟩ = some (.int .i64 2) ∧ w'.cell? ⟨g2, o2 + 4 + 1, none⟩ = some (.int .i64 0) ∧ w'.cell? ⟨g2, o2 + 4 + 2, none⟩ = some (.int .i64 2) ∧ w'.cell? ⟨g2, o2 + 4 + 3, none⟩ = some (.int .i64 8) ∧ Hid (w8.grownBy w' none))
    (first | with_reducible exact keepAw HF.out (hid_drew GZ) | (with_reducible exact keepAw HF.out (hid_drew (hid_more GZ hg))) | (go_split_ands; with_reducible refine keepAw HF.out ?_; with_reducible assumption) | (go_split_ands; with_reducible refine keepAw HF.out (hid_more ?_ hg); with_reducible assumption))
    ((go_at_call 41; refine (iclaim_any 2 2 _).mono ?_; rintro e w' ⟨rfl, hg⟩))
  all_goals
    go_split_ands
    go_wp2_with fail
    go_ret
    exact ⟨rfl, grown_trans HGW.out (Hid.out (by assumption))⟩
end Go.Proofs.Ytndfhgklhjfhkaa

/- The reference's Ints at equal lists. -/
namespace Go.Proofs.Ytndfhgklhjfhkaa
open Go.RowKit Bs
end Go.Proofs.Ytndfhgklhjfhkaa

/- What the laws on claims hold in memory: the tape, two lists of claims, two numbers. -/
namespace Go.Proofs.Ytndfhgklhjfhkaa
open Go.RowKit Bs
section
variable {W w w1 : World} {a D E : Nat} {l0 l1 : List Od} {p0 p1 : Option Addr} {c0 c1 : Nat} {s0 s1 : Int}
end
end Go.Proofs.Ytndfhgklhjfhkaa

/- The reference's Has and Named; Same of equal topologies. -/
namespace Go.Proofs.Ytndfhgklhjfhkaa
open Go.RowKit Bs
end Go.Proofs.Ytndfhgklhjfhkaa

/- The reference's Resolve. -/
namespace Go.Proofs.Ytndfhgklhjfhkaa
open Go.RowKit Bs
section
variable {W w w1 : World} {l : List Od} {p : Option Addr} {c : Nat} {vo vg v' : Value} {out N : List Od} {giv : List Nat}
end
set_option maxRecDepth 100000 in
theorem od_cellsN (w : World) (x : Od) (t : TypeId) : ∀ j u, (odC x)[j]? = some u → (w.alloc (.cells #[.int .i64 x.r, .int .i64 x.s, .int .i64 x.i, .int .i64 x.l] t)).cell? ((⟨w.heap.size, 0, none⟩ : Addr).add j) = some u := fun j u hu => od_row w x t j u (by simpa using hu)
end Go.Proofs.Ytndfhgklhjfhkaa

/- The law IdentifyFull. -/
namespace Go.Proofs.Ytndfhgklhjfhkaa
open Go.RowKit Bs
/-- The first n claims in a row of the law's own. -/
structure FW (W : World) (n : Nat) (v : Value) (w : World) : Prop where
  ow : w.ownsRow W.heap.size 62 4 v (flO n).length ((flO n).flatMap odC)
  gr : W.grownBy w none
set_option maxRecDepth 100000 in
theorem FW.add {W w w1 : World} {n m k s g cap : Nat} {v : Value} {o : Obj} (h : FW W n v w) (e : n = 8 * (k - 1) + s) (hk : 1 ≤ k) (hs : s < 8)
    (hown : w1.ownsRow W.heap.size 62 4 (.slice (some ⟨g, 0, none⟩) m cap) ((flO n).length + 1) ((flO n).flatMap odC ++ odC ⟨(k : Int), (s : Int), (k : Int), 64⟩)) (hg : (w.alloc o).grownBy w1 v.ownBlock) :
    FW W (n + 1) (.slice (some ⟨g, 0, none⟩) m cap) w1 := by
  refine ⟨?_, grown_any (grown_trans h.gr (World.grownBy_alloc w o none)) hg (fun b hb e => by have := (h.ow.lt b e.symm).1; omega)⟩
  rw [flO_succ e hk hs, List.length_append, List.flatMap_append]
  simpa [odC] using hown
set_option maxRecDepth 100000 in
set_option maxHeartbeats 12800000 in
theorem full_walk (n : Nat) (hn : n < 256) (w : World) :
    Calls Try.prog 9 #[.int .u8 (n : Int)] w fun e w' => e = .returned (.bool true) ∧ w.grownBy w' none := by
  obtain ⟨io, hio, ho0, ho1, ho2⟩ := info_parts info_od
  have F0 : Hid (FW w 0 (.slice none 0 0) w) := Lib.hid ⟨World.ownsRow_nil _ _ _ _, grown_refl _ _⟩
  have n0 : (0 : Int) ≤ (n : Int) := by omega
  have n1 : (n : Int) < 256 := by omega
  go_enter Try.func9, Try.ntmps9
  go_wp2_with fail
  go_loopw [3, 4, 5] (fun v z x wr => ∃ (k : Nat) (u : Value), u = v ∧ 1 ≤ k ∧ k ≤ 25 ∧ x = .int .i64 (k : Int) ∧ z = .int .i64 (k : Int) ∧ Hid (FW w (8 * (k - 1)) u wr)) (fun _ _ x _ => 25 - (RowKit.intOf x).toNat)
  case atStart => exact ⟨1, _, rfl, by omega, by omega, rfl, rfl, F0⟩
  case round =>
  clear F0
  obtain ⟨k, v0, rfl, hk1, hk2, rfl, rfl, F1⟩ := hrel
  obtain ⟨w2, hw2⟩ : ∃ w2, w2 = wr := ⟨_, rfl⟩
  rw [← hw2] at F1 ⊢
  clear hw2
  by_cases hk : k ≤ 24
  case pos =>
    have hk' : (k : Int) ≤ 24 := by omega
    go_wp2_with fail
    go_loopw [3, 6] (fun v x wr => ∃ (s : Nat) (u : Value), u = v ∧ s ≤ 8 ∧ x = .int .i64 (s : Int) ∧ Hid (FW w (8 * (k - 1) + s) u wr)) (fun _ x _ => 8 - (RowKit.intOf x).toNat)
    case atStart => exact ⟨0, _, rfl, by omega, rfl, F1⟩
    case round =>
    clear F1
    obtain ⟨s, v1, rfl, hs, rfl, F2⟩ := hrel
    obtain ⟨w3, hw3⟩ : ∃ w3, w3 = wr := ⟨_, rfl⟩
    rw [← hw3] at F2 ⊢
    clear hw3
    by_cases hs8 : s < 8
    case pos =>
      have hs7 : (s : Int) ≤ 7 := by omega
      have hbs : w.heap.size ≤ w3.heap.size := F2.out.gr.size
      have HN := Lib.hid (show (flO (8 * (k - 1) + s)).length ≤ 192 by rw [flO_len]; omega)
      go_wp2_with (at_builtin; refine hold_on ?_)
      refine Lib.hid ?_
      refine wpList_append_lies _ rfl _ _ 23 rfl w.heap.size 62 io (.agg #[.int .i64 0, .int .i64 0, .int .i64 0, .int .i64 0]) 4 32 Try.underlying23 hio ho0 ho1 ho2 rfl (by decide) v1 (flO (8 * (k - 1) + s)).length ((flO (8 * (k - 1) + s)).flatMap odC) rfl (F2.out.ow.alloc _) ⟨w3.heap.size, 0, none⟩ 1 1 (odC ⟨(k : Int), (s : Int), (k : Int), 64⟩) rfl rfl ?c1 ?c2 (by decide) ?c3 ?c4 ?c5 _ rfl ?_
      try (case c1 => exact od_cellsN _ ⟨(k : Int), (s : Int), (k : Int), 64⟩ _)
      case c2 => exact od_one ⟨(k : Int), (s : Int), (k : Int), 64⟩
      case c3 => (have := HN.out; unfold maxLen; omega)
      case c4 => (have := HN.out; omega)
      case c5 => first | omega | (simp; omega)
      intro g6 cap6 w6 hown6 hg6 hat6 hlt6
      have F3 := Lib.hid (F2.out.add rfl hk1 hs8 hown6 hg6)
      clear hown6 hg6 hat6 hlt6 F2
      go_wp2_with fail
      exact ⟨⟨s + 1, _, rfl, by omega, congrArg _ (by omega), F3⟩, by simp only [RowKit.intOf]; omega⟩
    case neg =>
      obtain rfl : s = 8 := by omega
      rw [show 8 * (k - 1) + 8 = 8 * (k + 1 - 1) by omega] at F2
      go_wp2_with fail
      exact ⟨⟨k + 1, _, rfl, by omega, by omega, congrArg _ (by omega), congrArg _ (by omega), F2⟩, by simp only [RowKit.intOf]; omega⟩
  case neg =>
    obtain rfl : k = 25 := by omega
    obtain ⟨g, cap, rfl, hc1, hc2⟩ : ∃ g cap, v0 = .slice (some ⟨g, 0, none⟩) 192 cap ∧ 192 ≤ cap ∧ cap ≤ 9223372036854775807 := by
      obtain ⟨p, c, rfl, h1, h2⟩ := own_shape F1.out.ow
      rw [flO_len] at h1
      rcases F1.out.ow.2 with ⟨e, h0⟩ | ⟨g, cap, cur, e, _, _, hn, hm, _⟩
      · rw [flO_len] at h0; omega
      · rw [flO_len] at e hn
        exact ⟨g, cap, e, hn, hm⟩
    obtain ⟨l, hl⟩ : ∃ l, flO (8 * (25 - 1)) = l := ⟨_, rfl⟩
    have F2 : Hid (w2.ownsRow w.heap.size 62 4 (.slice (some ⟨g, 0, none⟩) l.length cap) l.length (l.flatMap odC) ∧ w.grownBy w2 none) := Lib.hid ⟨by
      have h := F1.out.ow
      rw [hl] at h
      have e : l.length = 192 := by rw [← hl, flO_len]
      rw [e] at h ⊢
      exact h, F1.out.gr⟩
    have HL : Hid (ckO l = 0 ∧ (∀ x, ckO (l ++ [x]) = 3) ∧ (∀ s : Nat, s < 8 → FrO l (s : Int) 25 true)) := Lib.hid ⟨by rw [← hl]; exact flO_ck, fun x => by rw [← hl]; exact flO_more x, fun s hs => by rw [← hl]; exact flO_free hs⟩
    have hln : l.length = 192 := by rw [← hl, flO_len]
    have HLN := Lib.hid hln
    rw [← hln] at hc1 ⊢
    have hl0 : (l.length : Int) ≤ 192 := by omega
    have hl1 : (0 : Int) < (l.length : Int) := by omega
    clear hl hln F1 hc2
    have hc1' : (l.length : Int) ≤ (cap : Int) := by omega
    have hk25 : ¬ ((25 : Nat) : Int) ≤ 24 := by omega
    go_wp2_with fail
    obtain ⟨s, hs⟩ : ∃ s : Nat, s = n % 8 := ⟨_, rfl⟩
    rw [show (n : Int) % 8 = (s : Int) by omega]
    have hs8 : s < 8 := by omega
    refine (ifreeT_any l (some ⟨g, 0, none⟩) cap (s : Int) _ w2 (rdf_of_own F2.out.1) (by omega)).mono ?_
    rintro e w3 ⟨n1, ok1, rfl, hf1, hg⟩
    obtain ⟨rfl, rfl⟩ := frO_uniq hf1 (HL.out.2.2 s hs8)
    have F3 := Lib.hid (And.intro (rdf_of_own F2.out.1 |>.keep hg) (grown_trans F2.out.2 hg))
    clear hf1 hg F2 hs hs8
    go_upto_region 12 with fail
    have HCW : Hid (∀ W, Hid (w3.grownBy W none) → ∀ j u, (l.flatMap odC)[j]? = some u → W.cell? ((⟨g, 0, none⟩ : Addr).add j) = some u) := Lib.hid (fun W hW => rdf_news (F3.out.1.keep hW.out))
    have GZ : Hid (w3.grownBy w3 none) := Lib.hid (grown_refl _ _)
    have c1 : (0 : Int) ≤ (l.length : Int) := by omega
    go_region_held3 (fun w' => Hid (w3.grownBy w' none))
      (first | with_reducible exact hid_drew GZ | (go_split_ands; with_reducible assumption) | (go_split_ands; with_reducible refine hid_more ?_ hg; with_reducible assumption) | (go_split_ands; with_reducible refine hid_more ?_ hap; with_reducible assumption) | (go_split_ands; refine hid_more (hid_more ?_ (World.grownBy_alloc _ _ _)) hap; with_reducible assumption) | (go_split_ands; exact hid_more (hid_more (hid_more (hid_drew GZ) hg) (World.grownBy_alloc _ _ _)) hap) | (go_split_ands; refine hid_more (hid_more (hid_more ?_ hg) (World.grownBy_alloc _ _ _)) hap; with_reducible assumption) | (go_split_ands; refine hid_more ?_ (World.grownBy_alloc _ _ _); with_reducible assumption))
      (first
        | (go_at_call 41; go_split_ands; refine (iclaim_any 25 1 _).mono ?_; rintro e w' ⟨rfl, hg⟩)
        | (go_split_ands; refine step_append_grows (by rfl) _ _ _ (by rfl) 62 io (.agg #[.int .i64 0, .int .i64 0, .int .i64 0, .int .i64 0]) 4 32 Try.underlying23 hio ho0 ho1 ho2 rfl (by decide) (some ⟨g, 0, none⟩) l.length l.length (l.flatMap odC) (by rfl) (fun e => by cases e) (by rw [flat_len odC 4 (fun _ => rfl)]) ?hh ⟨w'.heap.size, 0, none⟩ 1 1 (odC ⟨25, 0, 1, 8⟩) (by rfl) (by rfl) (od_cellsN _ ⟨25, 0, 1, 8⟩ _) (od_one ⟨25, 0, 1, 8⟩) (by omega) (by unfold maxLen; omega) (by omega) ?_; (intro b e; cases e; exact HCW.out _ (hid_more (by first | assumption | exact hid_more (by assumption) hg | exact hid_more (hid_drew GZ) hg) (World.grownBy_alloc _ _ _))); intro v' w9 hown hap))
    all_goals
      go_split_ands
      have HG := (by assumption : Hid (w3.grownBy w9 none))
      obtain ⟨p2, c2, rfl, hc3, hc4⟩ := own_shape hown
      have hR2 : RdF w9 (fun _ => True) (.slice p2 (l.length + 1) c2) (l.length + 1) ((l ++ [(⟨25, 0, 1, 8⟩ : Od)]).flatMap odC) := by
        rw [List.flatMap_append]
        simpa [odC] using (rdf_of_own hown).mono (q' := fun _ => True) (fun _ _ => trivial)
      have HN2 := Lib.hid (show (l ++ [(⟨25, 0, 1, 8⟩ : Od)]).length = l.length + 1 by simp)
      have F4 := Lib.hid (And.intro (F3.out.1.keep HG.out) (And.intro (grown_trans F3.out.2 HG.out) hR2))
      clear HG hown hap hR2 F3 GZ HCW hc3 hc4
      go_wp2_with fail
      have k1 := icheck_any l (some ⟨g, 0, none⟩) cap _ w9 F4.out.1 (by omega)
      rw [HL.out.1] at k1
      refine k1.mono ?_
      clear k1
      rintro e w10 ⟨rfl, hg⟩
      have F5 := Lib.hid (And.intro (F4.out.2.2.keep hg) (grown_trans F4.out.2.1 hg))
      clear F4 hg
      go_wp2_with fail
      have k1 := icheck_any (l ++ [(⟨25, 0, 1, 8⟩ : Od)]) p2 c2 _ w10 (by rw [HN2.out]; exact F5.out.1) (by rw [HN2.out]; omega)
      rw [HL.out.2.1, HN2.out] at k1
      refine k1.mono ?_
      clear k1
      rintro e w11 ⟨rfl, hg⟩
      have F6 := Lib.hid (grown_trans F5.out.2 hg)
      clear F5 hg
      go_wp2_with fail
      refine (iawake_any w11).mono ?_
      rintro e w14 ⟨rfl, hg⟩
      have G := Lib.hid (grown_trans F6.out hg)
      clear hg F6
      go_wp2_with fail
      go_ret
      exact ⟨rfl, G.out⟩
end Go.Proofs.Ytndfhgklhjfhkaa

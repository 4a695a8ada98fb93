/- Parts of the proof, packed: IdLeaf, IdCnt, IdSeek, IdChk, IdFre, IdLen, IdFuM, IdRck, IdCon, IdRcn, IdRsM, IdLay. -/
import Derived.Test.YtndfhgklhjfhkaaFu1
import Derived.Deep.CutRange
import Derived.Shelf.SlSortCmp.WholeK
/- identify: the leaves, of the program and of the reference. -/
namespace Go.Proofs.Ytndfhgklhjfhkaa
open Go.RowKit Bs
set_option maxRecDepth 100000 in
theorem row4i {w : World} {b : Nat} {x0 x1 x2 x3 : Value} {t : TypeId} (h : w.heap[b]? = some (.cells #[x0, x1, x2, x3] t (0, 0))) :
    w.cell? ⟨b, 0, none⟩ = some x0 ∧ w.cell? ⟨b, 1, none⟩ = some x1 ∧ w.cell? ⟨b, 2, none⟩ = some x2 ∧ w.cell? ⟨b, 3, none⟩ = some x3 :=
  ⟨cell_of_row _ _ _ _ _ _ h, cell_of_row _ _ _ _ _ _ h, cell_of_row _ _ _ _ _ _ h, cell_of_row _ _ _ _ _ _ h⟩
set_option maxRecDepth 100000 in
theorem ivr_lit (n : Int) (b : Bool) (h : inV n 1 99 = b) (w : World) :
    Calls Try.prog 69 #[.int .i64 n] w fun e w' => e = .returned (.bool b) ∧ w = w' := by
  subst h
  unfold inV
  go_enter Try.func69, Try.ntmps69
  by_cases h1 : (1 : Int) ≤ n
  · by_cases h2 : n ≤ (99 : Int)
    · rw [decide_eq_true (show 1 ≤ n ∧ n ≤ 99 from ⟨h1, h2⟩)]
      go_wp2_with fail
      go_ret
      exact ⟨rfl, rfl⟩
    · rw [decide_eq_false (show ¬ (1 ≤ n ∧ n ≤ 99) from fun h => h2 h.2)]
      go_wp2_with fail
      go_ret
      exact ⟨rfl, rfl⟩
  · rw [decide_eq_false (show ¬ (1 ≤ n ∧ n ≤ 99) from fun h => h1 h.1)]
    go_wp2_with fail
    go_ret
    exact ⟨rfl, rfl⟩
set_option maxRecDepth 100000 in
theorem ivs_lit (n : Int) (b : Bool) (h : inV n 0 7 = b) (w : World) :
    Calls Try.prog 52 #[.int .i64 n] w fun e w' => e = .returned (.bool b) ∧ w = w' := by
  subst h
  unfold inV
  go_enter Try.func52, Try.ntmps52
  by_cases h1 : (0 : Int) ≤ n
  · by_cases h2 : n ≤ (7 : Int)
    · rw [decide_eq_true (show 0 ≤ n ∧ n ≤ 7 from ⟨h1, h2⟩)]
      go_wp2_with fail
      go_ret
      exact ⟨rfl, rfl⟩
    · rw [decide_eq_false (show ¬ (0 ≤ n ∧ n ≤ 7) from fun h => h2 h.2)]
      go_wp2_with fail
      go_ret
      exact ⟨rfl, rfl⟩
  · rw [decide_eq_false (show ¬ (0 ≤ n ∧ n ≤ 7) from fun h => h1 h.1)]
    go_wp2_with fail
    go_ret
    exact ⟨rfl, rfl⟩
set_option maxRecDepth 100000 in
theorem ivi_lit (n : Int) (b : Bool) (h : inV n 1 256 = b) (w : World) :
    Calls Try.prog 67 #[.int .i64 n] w fun e w' => e = .returned (.bool b) ∧ w = w' := by
  subst h
  unfold inV
  go_enter Try.func67, Try.ntmps67
  by_cases h1 : (1 : Int) ≤ n
  · by_cases h2 : n ≤ (256 : Int)
    · rw [decide_eq_true (show 1 ≤ n ∧ n ≤ 256 from ⟨h1, h2⟩)]
      go_wp2_with fail
      go_ret
      exact ⟨rfl, rfl⟩
    · rw [decide_eq_false (show ¬ (1 ≤ n ∧ n ≤ 256) from fun h => h2 h.2)]
      go_wp2_with fail
      go_ret
      exact ⟨rfl, rfl⟩
  · rw [decide_eq_false (show ¬ (1 ≤ n ∧ n ≤ 256) from fun h => h1 h.1)]
    go_wp2_with fail
    go_ret
    exact ⟨rfl, rfl⟩
set_option maxRecDepth 100000 in
theorem vlp_lit (n : Int) (b : Bool) (h : vl n = b) (w : World) :
    Calls Try.prog 53 #[.int .i64 n] w fun e w' => e = .returned (.bool b) ∧ w = w' := by
  rw [← h]; exact vlp_any n w
set_option maxRecDepth 100000 in
set_option maxHeartbeats 1600000 in
theorem iwrc_any (x : Od) (w : World) :
    Calls Try.prog 47 #[.agg #[.int .i64 x.r, .int .i64 x.s, .int .i64 x.i, .int .i64 x.l]] w fun e w' => e = .returned (.bool (wrO x)) ∧ w.grownBy w' none := by
  obtain ⟨k1, k2⟩ := tone_box w #[.int .i64 x.r, .int .i64 x.s, .int .i64 x.i, .int .i64 x.l] 62
  obtain ⟨c0, c1, c2, c3⟩ := row4i k1
  have K := Lib.hid k2
  clear k1 k2
  go_enter Try.func47, Try.ntmps47
  go_upto_region 1 with fail
  generalize w.alloc _ = wa at *
  obtain ⟨n1, n2⟩ := tone_box wa #[.int .i64 x.s, .int .i64 x.i, .int .i64 x.l] 60
  have hb0 : w.heap.size < wa.heap.size := block_lt_of_cell c0
  have d0 := n2.cell c0 (by simp)
  have e0 : (wa.alloc (.cells #[.int .i64 x.s, .int .i64 x.i, .int .i64 x.l] 60)).cell? ⟨wa.heap.size, 0, none⟩ = some (.int .i64 x.s) := cell_of_row _ _ _ _ _ _ n1
  have e1 : (wa.alloc (.cells #[.int .i64 x.s, .int .i64 x.i, .int .i64 x.l] 60)).cell? ⟨wa.heap.size, 1, none⟩ = some (.int .i64 x.i) := cell_of_row _ _ _ _ _ _ n1
  have e2 : (wa.alloc (.cells #[.int .i64 x.s, .int .i64 x.i, .int .i64 x.l] 60)).cell? ⟨wa.heap.size, 2, none⟩ = some (.int .i64 x.l) := cell_of_row _ _ _ _ _ _ n1
  have K2 := Lib.hid (grown_trans K.out n2)
  clear n1 n2 K
  go_upto_region 2 with fail
  clear c0 c1 c2 c3
  generalize wa.alloc _ = wb at *
  have HW : Hid (wrO x = !(inV x.r 1 99 && inV x.s 0 7 && inV x.i 1 256 && vl x.l)) := Lib.hid rfl
  obtain ⟨b1, h1⟩ : ∃ b, inV x.r 1 99 = b := ⟨_, rfl⟩
  obtain ⟨b2, h2⟩ : ∃ b, inV x.s 0 7 = b := ⟨_, rfl⟩
  obtain ⟨b3, h3⟩ : ∃ b, inV x.i 1 256 = b := ⟨_, rfl⟩
  obtain ⟨b4, h4⟩ : ∃ b, vl x.l = b := ⟨_, rfl⟩
  rw [h1, h2, h3, h4] at HW
  have H1 := Lib.hid h1
  have H2 := Lib.hid h2
  have H3 := Lib.hid h3
  have H4 := Lib.hid h4
  clear h1 h2 h3 h4
  cases b1
  case false =>
    go_wp2_with (go_at_call 69; refine (ivr_lit _ _ H1.out _).mono ?_; rintro e w' ⟨rfl, rfl⟩)
    go_ret
    exact ⟨by rw [HW.out]; rfl, K2.out⟩
  cases b2
  case false =>
    go_wp2_with (first | (go_at_call 69; refine (ivr_lit _ _ H1.out _).mono ?_; rintro e w' ⟨rfl, rfl⟩) | (go_at_call 52; refine (ivs_lit _ _ H2.out _).mono ?_; rintro e w' ⟨rfl, rfl⟩))
    go_ret
    exact ⟨by rw [HW.out]; rfl, K2.out⟩
  cases b3
  case false =>
    go_wp2_with (first | (go_at_call 69; refine (ivr_lit _ _ H1.out _).mono ?_; rintro e w' ⟨rfl, rfl⟩) | (go_at_call 52; refine (ivs_lit _ _ H2.out _).mono ?_; rintro e w' ⟨rfl, rfl⟩) | (go_at_call 67; refine (ivi_lit _ _ H3.out _).mono ?_; rintro e w' ⟨rfl, rfl⟩))
    go_ret
    exact ⟨by rw [HW.out]; rfl, K2.out⟩
  go_wp2_with (first | (go_at_call 69; refine (ivr_lit _ _ H1.out _).mono ?_; rintro e w' ⟨rfl, rfl⟩) | (go_at_call 52; refine (ivs_lit _ _ H2.out _).mono ?_; rintro e w' ⟨rfl, rfl⟩) | (go_at_call 67; refine (ivi_lit _ _ H3.out _).mono ?_; rintro e w' ⟨rfl, rfl⟩) | (go_at_call 53; refine (vlp_lit _ _ H4.out _).mono ?_; rintro e w' ⟨rfl, rfl⟩))
  go_ret
  exact ⟨by rw [HW.out]; rfl, K2.out⟩
set_option maxRecDepth 100000 in
set_option maxHeartbeats 1600000 in
theorem icmpe_any (r s : Ed) (w : World) :
    Calls Try.prog 57 #[.agg #[.int .i64 r.r, .int .i64 r.i], .agg #[.int .i64 s.r, .int .i64 s.i]] w fun e w' => e = .returned (.int .i64 (cmpV r.i s.i)) ∧ w' = (w.alloc (.cells #[.int .i64 r.r, .int .i64 r.i] 54)).alloc (.cells #[.int .i64 s.r, .int .i64 s.i] 54) := by
  obtain ⟨k1, k2, k3, k4⟩ := two_boxes w #[.int .i64 r.r, .int .i64 r.i] #[.int .i64 s.r, .int .i64 s.i] 54 54
  obtain ⟨c0, c1⟩ := row_cells k1
  obtain ⟨d0, d1⟩ := row_cells k2
  clear k1 k2 k3 k4
  go_enter Try.func57, Try.ntmps57
  go_wp2_with (go_at_call 71; refine (tcmp_any _ _ _).mono ?_; rintro e w' ⟨rfl, rfl⟩)
  go_ret
  exact ⟨rfl, rfl⟩
set_option maxRecDepth 100000 in
theorem keep4o {w5 w' : World} {b g : Nat} {l m : Od} (h : w5.heap[b]? = some (.cells #[.int .i64 l.r, .int .i64 l.s, .int .i64 l.i, .int .i64 l.l] 62 (0, 0)) ∧ w5.heap[g]? = some (.cells #[.int .i64 m.r, .int .i64 m.s, .int .i64 m.i, .int .i64 m.l] 62 (0, 0))) (hg : Hid (w5.grownBy w' none)) :
    w'.cell? ⟨b, 0, none⟩ = some (.int .i64 l.r) ∧ w'.cell? ⟨b, 1, none⟩ = some (.int .i64 l.s) ∧ w'.cell? ⟨g, 0, none⟩ = some (.int .i64 m.r) ∧ w'.cell? ⟨g, 1, none⟩ = some (.int .i64 m.s) ∧ Hid (w5.grownBy w' none) := by
  obtain ⟨a0, a1, -, -⟩ := row4i (kept_row h.1 hg.out (by simp))
  obtain ⟨b0, b1, -, -⟩ := row4i (kept_row h.2 hg.out (by simp))
  exact ⟨a0, a1, b0, b1, hg⟩
set_option maxRecDepth 100000 in
set_option maxHeartbeats 3200000 in
theorem icmpo_any (l m : Od) (w : World) :
    Calls Try.prog 49 #[.agg #[.int .i64 l.r, .int .i64 l.s, .int .i64 l.i, .int .i64 l.l], .agg #[.int .i64 m.r, .int .i64 m.s, .int .i64 m.i, .int .i64 m.l]] w fun e w' => e = .returned (.int .i64 (cmpO l m)) ∧ w.grownBy w' none := by
  obtain ⟨k1, k2, k3, k4⟩ := two_boxes w #[.int .i64 l.r, .int .i64 l.s, .int .i64 l.i, .int .i64 l.l] #[.int .i64 m.r, .int .i64 m.s, .int .i64 m.i, .int .i64 m.l] 62 62
  have HB := Lib.hid (And.intro k1 k2)
  have K := Lib.hid k3
  clear k1 k2 k3 k4
  go_enter Try.func49, Try.ntmps49
  go_upto_region 1 with fail
  generalize (w.alloc _).alloc _ = wa at *
  have GZ : Hid (wa.grownBy wa none) := Lib.hid (grown_refl _ _)
  obtain ⟨a0, a1, b0, b1, -⟩ := keep4o HB.out GZ
  go_region_held3 (fun w' => w'.cell? ⟨w.heap.size, 0, none⟩ = some (.int .i64 l.r) ∧ w'.cell? ⟨w.heap.size, 1, none⟩ = some (.int .i64 l.s) ∧ w'.cell? ⟨w.heap.size + 1, 0, none⟩ = some (.int .i64 m.r) ∧ w'.cell? ⟨w.heap.size + 1, 1, none⟩ = some (.int .i64 m.s) ∧ Hid (wa.grownBy w' none))
    (first | with_reducible exact keep4o HB.out (hid_drew GZ) | with_reducible exact keep4o HB.out (hid_drew (hid_more GZ (World.grownBy_alloc _ _ _))) | (go_split_ands; with_reducible refine keep4o HB.out ?_; with_reducible assumption) | (go_split_ands; with_reducible refine keep4o HB.out (hid_more ?_ (World.grownBy_alloc _ _ _)); with_reducible assumption))
    (first
      | (go_at_call 71; refine (tcmp_any _ _ _).mono ?_; rintro e w' ⟨rfl, rfl⟩)
      | (go_at_call 70; refine (tor_any [cmpV l.r m.r, cmpV l.s m.s] _ _ (fun _ => True) _ ?_ (by simp)).mono ?_; exact (rd_pair _ _ _ _ trivial).keep (grown_drew (grown_refl _ _)); rintro e w' ⟨rfl, rfl⟩))
  all_goals
    go_split_ands
    go_wp2_with fail
    go_ret
    exact ⟨rfl, grown_trans K.out (Hid.out (by assumption))⟩
end Go.Proofs.Ytndfhgklhjfhkaa

/- identify: count. -/
namespace Go.Proofs.Ytndfhgklhjfhkaa
open Go.RowKit Bs
/-- While claims are counted: the result's box, the counts. -/
structure CN (W : World) (q : Nat → Prop) (l : List Od) (p : Option Addr) (c : Nat) (f : Nat → Nat) (w : World) : Prop where
  rb : w.heap[W.heap.size]? = some (.cells (arrV 257 (ivN fun _ => 0)) 92 (0, 0))
  cb : w.heap[W.heap.size + 1]? = some (.cells (arrV 257 (ivN f)) 92 (0, 0))
  rd : RdF w (· < W.heap.size) (.slice p l.length c) l.length (l.flatMap odC)
  gr : W.grownBy w none
section
variable {W w w1 : World} {q : Nat → Prop} {l : List Od} {p : Option Addr} {c : Nat} {f : Nat → Nat}
set_option maxRecDepth 100000 in
theorem CN.keep (h : CN W q l p c f w) (g : w.grownBy w1 none) : CN W q l p c f w1 := ⟨kept_row h.rb g (by simp), kept_row h.cb g (by simp), h.rd.keep g, grown_trans h.gr g⟩
set_option maxRecDepth 100000 in
theorem CN.start (hR : RdF W q (.slice p l.length c) l.length (l.flatMap odC)) : CN W q l p c (fun _ => 0) ((W.alloc (.cells (arrV 257 (ivN fun _ => 0)) 92)).alloc (.cells (arrV 257 (ivN fun _ => 0)) 92)) := by
  obtain ⟨k1, k2, k3, k4⟩ := two_boxes W (arrV 257 (ivN fun _ => 0)) (arrV 257 (ivN fun _ => 0)) 92 92
  exact ⟨k1, k2, hR.old.keep k3, k3⟩
set_option maxRecDepth 100000 in
theorem CN.put (h : CN W q l p c f w) {k : Nat} (hk : k < 257) (m : Nat) : CN W q l p c (fun j => if j = k then m else f j) (w.setCell ⟨W.heap.size + 1, k, none⟩ (.int .i64 (m : Int))) := by
  obtain ⟨h1, h2⟩ := arr_put (.int .i64 (m : Int)) h.cb hk
  refine ⟨kept_row h.rb h2 (fun e => by have := Option.some.inj e; omega), ?_, h.rd.grown h2 (fun b hb e => by have := Option.some.inj e; omega), grown_new h.gr h2 (by omega)⟩
  rw [h1]
  congr 2
  refine arr_congr fun j _ => ?_
  unfold ivN
  show (if j = k then _ else _) = Value.int .i64 (((if j = k then m else f j : Nat)) : Int)
  split <;> rfl
end
set_option maxRecDepth 100000 in
set_option maxHeartbeats 3200000 in
theorem icount_any (l : List Od) (p : Option Addr) (c : Nat) (sub : Int) (q : Nat → Prop) (w : World) (hR : RdF w q (.slice p l.length c) l.length (l.flatMap odC)) (hm : l.length ≤ 1000) (hv : ∀ x ∈ l, 1 ≤ x.i ∧ x.i ≤ 256) :
    Calls Try.prog 60 #[.slice p l.length c, .int .i64 sub] w fun e w' => e = .returned (.agg (arrV 257 (ivN fun k => cnt l sub k))) ∧ w.grownBy w' none := by
  have HZ := (zero_of_info info_cs).1
  have H0 := Lib.hid (CN.start hR)
  have HV := Lib.hid hv
  clear hR hv
  go_enter Try.func60, Try.ntmps60
  go_upto_region 2 with fail
  generalize (w.alloc _).alloc _ = wa at *
  have H1 : Hid (CN w q l p c (fun j => cnt (l.take 0) sub j) wa) := H0
  clear HZ H0
  go_wp2_with fail
  go_loopw [10] (fun a wr => ∃ k : Nat, k ≤ l.length ∧ a = .int .i64 (k : Int) ∧ Hid (CN w q l p c (fun j => cnt (l.take k) sub j) wr)) (fun a _ => l.length - (RowKit.intOf a).toNat)
  case atStart => exact ⟨0, Nat.zero_le _, rfl, H1⟩
  case round =>
    obtain ⟨w2, rfl⟩ : ∃ w2, w2 = wr := ⟨_, rfl⟩
    obtain ⟨k, hk, rfl, H⟩ := hrel
    clear H1
    by_cases hlt : k < l.length
    · obtain ⟨-, b, off, rfl, -, hc⟩ := od_cells H.out.rd (by omega)
      obtain ⟨x, hx⟩ : ∃ x, l[k]? = some x := ⟨_, List.getElem?_eq_getElem hlt⟩
      obtain ⟨a0, a1, a2, a3⟩ := hc k x hx
      obtain ⟨m, hm1⟩ : ∃ m : Nat, x.i = (m : Int) := ⟨x.i.toNat, by have := HV.out x (List.mem_of_getElem? hx); omega⟩
      have hm2 : m < 257 := by have := HV.out x (List.mem_of_getElem? hx); omega
      have HX := Lib.hid hx
      have HB := Lib.hid (heap_alloc_new w2 (.cells #[.int .i64 x.r, .int .i64 x.s, .int .i64 x.i, .int .i64 x.l] 62))
      have HG := Lib.hid (World.grownBy_alloc w2 (.cells #[.int .i64 x.r, .int .i64 x.s, .int .i64 x.i, .int .i64 x.l] 62) none)
      have HM1 := Lib.hid hm1
      clear hc hx hm1
      go_upto_region 5 with fail
      clear a0 a1 a2 a3
      generalize w2.alloc _ = w3 at *
      have H2 := Lib.hid (H.out.keep HG.out)
      rw [HM1.out] at HB
      obtain ⟨d0, d1, d2, d3⟩ := row4i HB.out
      obtain ⟨n, hn⟩ : ∃ n : Nat, cnt (l.take k) sub m = n := ⟨_, rfl⟩
      have hnl : n ≤ 1000 := by have := cnt_le (l.take k) sub m; have := List.length_take_le k l; omega
      have e1 : w3.cell? ⟨w.heap.size + 1, m, none⟩ = some (.int .i64 (n : Int)) := by
        rw [← hn]; exact arr_row H2.out.cb hm2
      have f1 := frozen_of_row _ _ m _ _ H2.out.cb
      have HT : Hid (x.s = sub → (fun j : Nat => cnt (l.take (k + 1)) sub j) = fun j => if j = m then n + 1 else cnt (l.take k) sub j) := Lib.hid (fun hs => by
        funext j
        rw [cnt_take HX.out, ← hn]
        by_cases hj : j = m
        · subst hj
          rw [if_pos ⟨hs, HM1.out⟩, if_pos rfl]
        · rw [if_neg (fun e => hj (by have := e.2; have := HM1.out; omega)), if_neg hj]; rfl)
      have HF : Hid (x.s ≠ sub → (fun j : Nat => cnt (l.take (k + 1)) sub j) = fun j : Nat => cnt (l.take k) sub j) := Lib.hid (fun hs => by
        funext j
        rw [cnt_take HX.out, if_neg (fun e => hs e.1)]; rfl)
      have HP := Lib.hid (H2.out.put hm2 (n + 1))
      clear hn H HG
      by_cases h1 : x.s = sub
      · have h1' : (x.s == sub) = true := by simpa using h1
        have HN : Hid (CN w q l _ c (fun j => cnt (l.take (k + 1)) sub j) _) := Lib.hid (by rw [HT.out h1]; exact HP.out)
        clear HT HF HP h1
        go_wp2_with fail
        exact ⟨⟨k + 1, by omega, congrArg _ (by omega), HN⟩, by simp only [RowKit.intOf]; omega⟩
      · have h1' : (x.s == sub) = false := by simpa using h1
        have HN : Hid (CN w q l _ c (fun j => cnt (l.take (k + 1)) sub j) w3) := Lib.hid (by rw [HF.out h1]; exact H2.out)
        clear HT HF HP h1
        go_wp2_with fail
        exact ⟨⟨k + 1, by omega, congrArg _ (by omega), HN⟩, by simp only [RowKit.intOf]; omega⟩
    · obtain rfl : k = l.length := by omega
      have HE : Hid (CN w q l p c (fun j => cnt l sub j) w2) := by rw [List.take_length] at H; exact H
      clear H
      have hsz : (Try.prog.info? 92).map (·.size) = some 257 := (zero_of_info info_cs).2
      have hus := Try.underlying92
      have HSZ := Lib.hid hsz
      have HU := Lib.hid hus
      clear hsz hus
      go_wp2_with fail
      refine wp_load_row 92 (.tmp 5) rfl (w.heap.size + 1) rfl _ (arrV 257 (ivN fun j : Nat => cnt l sub j)) _ _ HE.out.cb HU.out rfl (by rw [arr_size]; exact HSZ.out) ?_
      obtain ⟨F, hF⟩ : ∃ F, (arrV 257 (ivN fun j : Nat => cnt l sub j)) = F := ⟨_, rfl⟩
      have hFs : F.size = 257 := by rw [← hF, arr_size]
      rw [hF]
      have hst := run_storeCells_from (P := Try.prog) w.heap.size 92 F.toList 0 _ w2 HE.out.rb (by rw [arr_size, Array.length_toList, hFs]) (fun v hv => by rw [← hF] at hv; exact (Array.all_eq_true_iff_forall_mem.1 (arr_one (n := 257) (f := ivN fun j : Nat => cnt l sub j) fun _ => rfl)) v (by simpa using hv))
      have HST := Lib.hid hst
      have HFF := Lib.hid hF
      clear hst hF
      go_wp2_with fail
      rw [HST.out, Result.andThen_ok, Oper.upon_skip]
      go_wp2_with fail
      have e0 : (List.take 0 (arrV 257 (ivN fun _ => 0)).toList ++ F.toList).toArray = F := by simp
      rw [e0]
      have hrow := setRow_heap w2 w.heap.size _ F _ _ HE.out.rb
      refine bodyPost_ret (v := .agg F) (results_cell_row (p := 4) (fr := (0, 0)) (by kernel_rfl) _ _ w.heap.size _ F _ rfl hrow HU.out rfl (by rw [hFs]; exact HSZ.out)) rfl ⟨by rw [HFF.out], grown_new HE.out.gr grown_setRow (Nat.le_refl _)⟩
end Go.Proofs.Ytndfhgklhjfhkaa

/- identify: IndexFunc, ContainsFunc and ascending at claims and at edges. -/
namespace Go.Proofs.Ytndfhgklhjfhkaa
open Go.RowKit Bs
set_option maxRecDepth 100000 in
set_option maxHeartbeats 1600000 in
theorem iidxO_any (g : Nat) (lb : Array Value) (P : Od → Bool) (eg : EnterF g) (R : List Od) (p : Option Addr) (c : Nat) (q : Nat → Prop) (w : World) (hR : RdF w q (.slice p R.length c) R.length (R.flatMap odC)) (hm : R.length ≤ 9223372036854775807)
    (hP : ∀ (r : Od) (w' : World), w.grownBy w' none → Calls Try.prog g (#[.agg #[.int .i64 r.r, .int .i64 r.s, .int .i64 r.i, .int .i64 r.l]] ++ lb) w' fun e w2 => e = .returned (.bool (P r)) ∧ w'.grownBy w2 none) :
    Calls Try.prog 68 #[.slice p R.length c, .func (.func g) #[] lb] w fun e w' => ∃ i : Int, e = .returned (.int .i64 i) ∧ decide (0 ≤ i) = R.any P ∧ w.grownBy w' none := by
  have HR := Lib.hid hR
  have HP := Lib.hid hP
  clear hR hP
  go_enter Try.func68, Try.ntmps68
  go_wp2_with fail
  go_loopw [8] (fun a wr => ∃ k : Nat, k ≤ R.length ∧ a = .int .i64 (k : Int) ∧ Hid (w.grownBy wr none) ∧ Hid ((R.take k).any P = false)) (fun a _ => R.length - (RowKit.intOf a).toNat)
  case atStart => exact ⟨0, Nat.zero_le _, rfl, Lib.hid (grown_refl _ _), Lib.hid rfl⟩
  case round =>
    obtain ⟨k, hk, rfl, G, HN⟩ := hrel
    by_cases hlt : k < R.length
    · obtain ⟨-, b, off, rfl, hq, hc⟩ := od_cells (HR.out.keep G.out) (by omega)
      obtain ⟨x, hx⟩ : ∃ x, R[k]? = some x := ⟨_, List.getElem?_eq_getElem hlt⟩
      obtain ⟨a0, a1, a2, a3⟩ := hc k x hx
      have HX := Lib.hid hx
      clear hc hx
      have hcall := HP.out x wr G.out
      cases hp : P x
      · rw [hp] at hcall
        have HY := Lib.hid hp
        clear hp
        go_wp2_with (go_at_fn g; refine hcall.mono ?_; rintro e w' ⟨rfl, hg⟩; have HG := Lib.hid (grown_trans G.out hg); clear hg)
        exact ⟨⟨k + 1, by omega, congrArg _ (by omega), HG, Lib.hid (any_take HN.out HX.out HY.out)⟩, by simp only [RowKit.intOf]; omega⟩
      · rw [hp] at hcall
        have HY := Lib.hid hp
        clear hp
        go_wp2_with (go_at_fn g; refine hcall.mono ?_; rintro e w' ⟨rfl, hg⟩; have HG := Lib.hid (grown_trans G.out hg); clear hg)
        go_ret
        refine ⟨_, rfl, ?_, HG.out⟩
        rw [any_at HX.out HY.out, decide_eq_true_eq]; omega
    · obtain rfl : k = R.length := by omega
      go_wp2_with fail
      go_ret
      refine ⟨_, rfl, ?_, G.out⟩
      rw [any_end HN.out (Nat.le_refl _)]; decide
set_option maxRecDepth 100000 in
set_option maxHeartbeats 1600000 in
theorem icontO_any (g : Nat) (lb : Array Value) (P : Od → Bool) (eg : EnterF g) (R : List Od) (p : Option Addr) (c : Nat) (q : Nat → Prop) (w : World) (hR : RdF w q (.slice p R.length c) R.length (R.flatMap odC)) (hm : R.length ≤ 9223372036854775807)
    (hP : ∀ (r : Od) (w' : World), w.grownBy w' none → Calls Try.prog g (#[.agg #[.int .i64 r.r, .int .i64 r.s, .int .i64 r.i, .int .i64 r.l]] ++ lb) w' fun e w2 => e = .returned (.bool (P r)) ∧ w'.grownBy w2 none) :
    Calls Try.prog 46 #[.slice p R.length c, .func (.func g) #[] lb] w fun e w' => e = .returned (.bool (R.any P)) ∧ w.grownBy w' none := by
  have HR := Lib.hid hR
  have HP := Lib.hid hP
  clear hR hP
  go_enter Try.func46, Try.ntmps46
  go_wp2_with (go_at_call 68; refine (iidxO_any g lb P eg R p c q w HR.out hm HP.out).mono ?_; rintro e w' ⟨i, rfl, hi, hg⟩; have HI := Lib.hid (And.intro hi hg); clear hi hg)
  go_ret
  rw [← HI.out.1]
  exact ⟨rfl, HI.out.2⟩
set_option maxRecDepth 100000 in
theorem ascO_end {R : List Od} (h : ∀ i x y, i + 1 < R.length → R[i]? = some x → R[i + 1]? = some y → ltO x y = true) : ascB ltO R = true :=
  (ascB_iff _ _).2 fun i x y hx hy => h i x y ((List.getElem?_eq_some_iff.1 hy).1) hx hy
set_option maxRecDepth 100000 in
theorem ascO_hit {R : List Od} {i : Nat} {x y : Od} (hx : R[i]? = some x) (hy : R[i + 1]? = some y) (h : ltO x y = false) : ascB ltO R = false := by
  rw [Bool.eq_false_iff]
  intro h2
  have := (ascB_iff _ _).1 h2 i x y hx hy
  rw [h] at this; cases this
set_option maxRecDepth 100000 in
theorem ltO_of_ge {x y : Od} (h : 0 ≤ cmpO x y) : ltO x y = false := by
  exact cmpO_ge.1 h
set_option maxRecDepth 100000 in
theorem ltO_of_lt {x y : Od} (h : ¬ 0 ≤ cmpO x y) : ltO x y = true := by
  exact (by have : ¬ ltO x y = false := fun e => h (cmpO_ge.2 e); simpa using this)
set_option maxRecDepth 100000 in
theorem keepAO {wr w' : World} {b i j : Nat} {x y : Od} (h : wr.cell? ⟨b, i, none⟩ = some (.int .i64 x.r) ∧ wr.cell? ⟨b, i + 1, none⟩ = some (.int .i64 x.s) ∧ wr.cell? ⟨b, i + 2, none⟩ = some (.int .i64 x.i) ∧ wr.cell? ⟨b, i + 3, none⟩ = some (.int .i64 x.l) ∧ wr.cell? ⟨b, j, none⟩ = some (.int .i64 y.r) ∧ wr.cell? ⟨b, j + 1, none⟩ = some (.int .i64 y.s) ∧ wr.cell? ⟨b, j + 2, none⟩ = some (.int .i64 y.i) ∧ wr.cell? ⟨b, j + 3, none⟩ = some (.int .i64 y.l)) (hg : Hid (wr.grownBy w' none)) : w'.cell? ⟨b, i, none⟩ = some (.int .i64 x.r) ∧ w'.cell? ⟨b, i + 1, none⟩ = some (.int .i64 x.s) ∧ w'.cell? ⟨b, i + 2, none⟩ = some (.int .i64 x.i) ∧ w'.cell? ⟨b, i + 3, none⟩ = some (.int .i64 x.l) ∧ w'.cell? ⟨b, j, none⟩ = some (.int .i64 y.r) ∧ w'.cell? ⟨b, j + 1, none⟩ = some (.int .i64 y.s) ∧ w'.cell? ⟨b, j + 2, none⟩ = some (.int .i64 y.i) ∧ w'.cell? ⟨b, j + 3, none⟩ = some (.int .i64 y.l) ∧ Hid (wr.grownBy w' none) := by
  obtain ⟨h0, h1, h2, h3, h4, h5, h6, h7⟩ := h
  exact ⟨hg.out.cell h0 (by simp), hg.out.cell h1 (by simp), hg.out.cell h2 (by simp), hg.out.cell h3 (by simp), hg.out.cell h4 (by simp), hg.out.cell h5 (by simp), hg.out.cell h6 (by simp), hg.out.cell h7 (by simp), hg⟩
set_option maxRecDepth 100000 in
set_option maxHeartbeats 3200000 in
theorem iascO_any (R : List Od) (p : Option Addr) (c : Nat) (q : Nat → Prop) (w : World) (hR : RdF w q (.slice p R.length c) R.length (R.flatMap odC)) (hm : R.length ≤ 9223372036854775807) :
    Calls Try.prog 48 #[.slice p R.length c, .func (.func 49) #[] #[]] w fun e w' => e = .returned (.bool (ascB ltO R)) ∧ w.grownBy w' none := by
  have eg : EnterF 49 := enters_of Try.func49 (by kernel_rfl) rfl
  have HR := Lib.hid hR
  clear hR
  go_enter Try.func48, Try.ntmps48
  go_wp2_with fail
  go_loopw [5] (fun a wr => ∃ k : Nat, 1 ≤ k ∧ (k ≤ R.length ∨ k = 1) ∧ a = .int .i64 (k : Int) ∧ Hid (w.grownBy wr none) ∧ Hid (∀ i x y, i + 1 < k → R[i]? = some x → R[i + 1]? = some y → ltO x y = true)) (fun a _ => R.length - (RowKit.intOf a).toNat)
  case atStart => exact ⟨1, by omega, Or.inr rfl, rfl, Lib.hid (grown_refl _ _), Lib.hid (fun i x y h => by omega)⟩
  case round =>
    obtain ⟨k, hk1, hk, rfl, G, HN⟩ := hrel
    by_cases hlt : k < R.length
    · obtain ⟨j, rfl⟩ : ∃ j, k = j + 1 := ⟨k - 1, by omega⟩
      obtain ⟨-, b, off, rfl, hq, hc⟩ := od_cells (HR.out.keep G.out) (by omega)
      obtain ⟨x, hx⟩ : ∃ x, R[j]? = some x := ⟨_, List.getElem?_eq_getElem (by omega)⟩
      obtain ⟨y, hy⟩ : ∃ y, R[j + 1]? = some y := ⟨_, List.getElem?_eq_getElem hlt⟩
      obtain ⟨a0, a1, a2, a3⟩ := hc j x hx
      obtain ⟨b0, b1, b2, b3⟩ := hc (j + 1) y hy
      have HXY := Lib.hid (And.intro hx hy)
      have ew1 : ((j : Int) + 1 - 1) = (j : Int) := by omega
      have ew2 : IntKind.i64.wrap ((j : Int) + 1 - 1) = (j : Int) := by rw [ew1, IntWalk.i64_in _ (by omega)]
      have ew3 : IntKind.i64.wrap (j : Int) = (j : Int) := IntWalk.i64_in _ (by omega)
      have j0 : (0 : Int) ≤ (j : Int) := by omega
      have j1 : (0 : Int) ≤ (j : Int) + 1 := by omega
      have j2 : (j : Int) < (R.length : Int) := by omega
      have j3 : (j : Int) + 1 < (R.length : Int) := by omega
      have j4 : ((j : Int) + 1).toNat = j + 1 := by omega
      clear hc hx hy
      have hcast : ((j + 1 : Nat) : Int) = (j : Int) + 1 := by omega
      rw [hcast]
      have HF := Lib.hid (show wr.cell? ⟨b, off + j * 4, none⟩ = some (.int .i64 x.r) ∧ wr.cell? ⟨b, off + j * 4 + 1, none⟩ = some (.int .i64 x.s) ∧ wr.cell? ⟨b, off + j * 4 + 2, none⟩ = some (.int .i64 x.i) ∧ wr.cell? ⟨b, off + j * 4 + 3, none⟩ = some (.int .i64 x.l) ∧ wr.cell? ⟨b, off + (j + 1) * 4, none⟩ = some (.int .i64 y.r) ∧ wr.cell? ⟨b, off + (j + 1) * 4 + 1, none⟩ = some (.int .i64 y.s) ∧ wr.cell? ⟨b, off + (j + 1) * 4 + 2, none⟩ = some (.int .i64 y.i) ∧ wr.cell? ⟨b, off + (j + 1) * 4 + 3, none⟩ = some (.int .i64 y.l) from ⟨a0, a1, a2, a3, b0, b1, b2, b3⟩)
      have GZ : Hid (wr.grownBy wr none) := Lib.hid (grown_refl _ _)
      go_upto_region 4 with fail
      cases hlt2 : ltO x y
      · have hge : 0 ≤ cmpO x y := by
          by_cases h : 0 ≤ cmpO x y
          · exact h
          · rw [ltO_of_lt h] at hlt2; cases hlt2
        have HL := Lib.hid hlt2
        clear hlt2
        go_region_held3 (fun w' => w'.cell? ⟨b, off + j * 4, none⟩ = some (.int .i64 x.r) ∧ w'.cell? ⟨b, off + j * 4 + 1, none⟩ = some (.int .i64 x.s) ∧ w'.cell? ⟨b, off + j * 4 + 2, none⟩ = some (.int .i64 x.i) ∧ w'.cell? ⟨b, off + j * 4 + 3, none⟩ = some (.int .i64 x.l) ∧ w'.cell? ⟨b, off + (j + 1) * 4, none⟩ = some (.int .i64 y.r) ∧ w'.cell? ⟨b, off + (j + 1) * 4 + 1, none⟩ = some (.int .i64 y.s) ∧ w'.cell? ⟨b, off + (j + 1) * 4 + 2, none⟩ = some (.int .i64 y.i) ∧ w'.cell? ⟨b, off + (j + 1) * 4 + 3, none⟩ = some (.int .i64 y.l) ∧ Hid (wr.grownBy w' none))
          (first | with_reducible exact keepAO HF.out (hid_drew GZ) | (with_reducible exact keepAO HF.out (hid_drew (hid_more GZ hg))) | (go_split_ands; with_reducible refine keepAO HF.out ?_; with_reducible assumption) | (go_split_ands; with_reducible refine keepAO HF.out (hid_more ?_ hg); with_reducible assumption))
          ((go_at_call 49; refine (icmpo_any x y _).mono ?_; rintro e w' ⟨rfl, hg⟩))
        all_goals
          go_split_ands
          go_wp2_with fail
          go_ret
          rw [ascO_hit HXY.out.1 HXY.out.2 HL.out]
          exact ⟨rfl, grown_trans G.out (Hid.out (by assumption))⟩
      · have hge : ¬ 0 ≤ cmpO x y := by
          intro h
          rw [ltO_of_ge h] at hlt2; cases hlt2
        have HL := Lib.hid hlt2
        clear hlt2
        go_region_held3 (fun w' => w'.cell? ⟨b, off + j * 4, none⟩ = some (.int .i64 x.r) ∧ w'.cell? ⟨b, off + j * 4 + 1, none⟩ = some (.int .i64 x.s) ∧ w'.cell? ⟨b, off + j * 4 + 2, none⟩ = some (.int .i64 x.i) ∧ w'.cell? ⟨b, off + j * 4 + 3, none⟩ = some (.int .i64 x.l) ∧ w'.cell? ⟨b, off + (j + 1) * 4, none⟩ = some (.int .i64 y.r) ∧ w'.cell? ⟨b, off + (j + 1) * 4 + 1, none⟩ = some (.int .i64 y.s) ∧ w'.cell? ⟨b, off + (j + 1) * 4 + 2, none⟩ = some (.int .i64 y.i) ∧ w'.cell? ⟨b, off + (j + 1) * 4 + 3, none⟩ = some (.int .i64 y.l) ∧ Hid (wr.grownBy w' none))
          (first | with_reducible exact keepAO HF.out (hid_drew GZ) | (with_reducible exact keepAO HF.out (hid_drew (hid_more GZ hg))) | (go_split_ands; with_reducible refine keepAO HF.out ?_; with_reducible assumption) | (go_split_ands; with_reducible refine keepAO HF.out (hid_more ?_ hg); with_reducible assumption))
          ((go_at_call 49; refine (icmpo_any x y _).mono ?_; rintro e w' ⟨rfl, hg⟩))
        all_goals
          go_split_ands
          have HGW := Lib.hid (grown_trans G.out (Hid.out (by assumption)))
          go_wp2_with fail
          refine ⟨⟨j + 1 + 1, by omega, Or.inl (by omega), congrArg _ (by omega), HGW, Lib.hid fun i x2 y2 hi hx2 hy2 => ?_⟩, by simp only [RowKit.intOf]; omega⟩
          by_cases hij : i = j
          · subst hij
            have e1 := HXY.out.1.symm.trans hx2
            have e2 := HXY.out.2.symm.trans hy2
            injection e1 with e1
            injection e2 with e2
            subst e1
            subst e2
            exact HL.out
          · exact HN.out i x2 y2 (by omega) hx2 hy2
    · have h1 : ¬ (k : Int) < (R.length : Int) := by omega
      go_wp2_with fail
      go_ret
      rw [ascO_end fun i x y hi hx hy => HN.out i x y (by omega) hx hy]
      exact ⟨rfl, G.out⟩
end Go.Proofs.Ytndfhgklhjfhkaa

/- identify: Check. -/
namespace Go.Proofs.Ytndfhgklhjfhkaa
open Go.RowKit Bs
set_option maxRecDepth 100000 in
set_option maxHeartbeats 3200000 in
theorem icheck_any (l : List Od) (p : Option Addr) (c : Nat) (q : Nat → Prop) (w : World) (hR : RdF w q (.slice p l.length c) l.length (l.flatMap odC)) (hm : l.length ≤ 9223372036854775807) :
    Calls Try.prog 15 #[.slice p l.length c] w fun e w' => e = .returned (.int .i64 (ckO l)) ∧ w.grownBy w' none := by
  have HR := Lib.hid hR
  have e1 : EnterF 47 := enters_of Try.func47 (by kernel_rfl) rfl
  have E1 := Lib.hid e1
  clear hR e1
  go_enter Try.func15, Try.ntmps15
  by_cases h1 : 192 < l.length
  · have h1' : (192 : Int) < (l.length : Int) := by omega
    go_wp2_with fail
    go_ret
    exact ⟨by unfold ckO; rw [if_pos h1]; rfl, grown_refl _ _⟩
  have h1' : ¬ (192 : Int) < (l.length : Int) := by omega
  go_wp2_with fail
  refine (icontO_any 47 #[] wrO E1.out l p c _ w HR.out hm (fun r w' _ => iwrc_any r w')).mono ?_
  rintro e w1 ⟨rfl, hg⟩
  have G1 := Lib.hid hg
  clear hg
  cases f1 : l.any wrO
  case true =>
    have F1 := Lib.hid f1
    clear f1
    go_wp2_with fail
    go_ret
    exact ⟨by unfold ckO; rw [if_neg h1, F1.out]; rfl, G1.out⟩
  have F1 := Lib.hid f1
  clear f1
  go_wp2_with fail
  refine (iascO_any l p c _ w1 (HR.out.keep G1.out) hm).mono ?_
  rintro e w2 ⟨rfl, hg⟩
  have G2 := Lib.hid (grown_trans G1.out hg)
  clear hg
  cases f2 : ascB ltO l
  case false =>
    have F2 := Lib.hid f2
    clear f2
    go_wp2_with fail
    go_ret
    exact ⟨by unfold ckO; rw [if_neg h1, F1.out, F2.out]; rfl, G2.out⟩
  have F2 := Lib.hid f2
  clear f2
  go_wp2_with fail
  go_ret
  exact ⟨by unfold ckO; rw [if_neg h1, F1.out, F2.out]; rfl, G2.out⟩
end Go.Proofs.Ytndfhgklhjfhkaa

/- identify: free. -/
namespace Go.Proofs.Ytndfhgklhjfhkaa
open Go.RowKit Bs
set_option maxRecDepth 100000 in
set_option maxHeartbeats 3200000 in
theorem ifree_any (f : Nat → Nat) (w : World) :
    Calls Try.prog 61 #[.agg (arrV 257 (ivN f))] w fun e w' => ∃ n ok, e = .returned (.tuple #[.int .i64 n, .bool ok]) ∧ FreeIs f n ok ∧ w.grownBy w' none := by
  obtain ⟨k1, k2⟩ := tone_box w (arrV 257 (ivN f)) 92
  have HB := Lib.hid k1
  have K := Lib.hid k2
  clear k1 k2
  go_enter Try.func61, Try.ntmps61
  go_upto_region 1 with fail
  generalize w.alloc _ = wa at *
  go_wp2_with fail
  go_loopw [4] (fun a wr => ∃ k : Nat, 1 ≤ k ∧ k ≤ 257 ∧ a = .int .i64 (k : Int) ∧ wr = wa ∧ Hid (∀ j : Nat, 1 ≤ j → j < k → f j ≠ 0)) (fun a _ => 257 - (RowKit.intOf a).toNat)
  case atStart => exact ⟨1, Nat.le_refl _, by omega, rfl, rfl, Lib.hid (fun j h1 h2 => by omega)⟩
  case round =>
    obtain ⟨k, hk1, hk, rfl, rfl, HN⟩ := hrel
    by_cases hlt : k ≤ 256
    · obtain ⟨n, hn⟩ : ∃ n, f k = n := ⟨_, rfl⟩
      have hc := arr_row HB.out (show k < 257 by omega)
      unfold ivN at hc
      rw [hn] at hc
      have h3 : (k : Int) ≤ 256 := by omega
      have HF := Lib.hid hn
      clear hn
      by_cases h0 : n = 0
      · subst h0
        go_wp2_with fail
        go_ret2
        refine ⟨_, _, rfl, Or.inl ⟨rfl, by omega, by omega, by rw [Int.toNat_natCast]; exact HF.out, fun j h1 h2 => HN.out j h1 (by omega)⟩, K.out⟩
      · have h4 : ((n : Int) == 0) = false := by simpa using h0
        have HN2 : Hid (∀ j : Nat, 1 ≤ j → j < k + 1 → f j ≠ 0) := Lib.hid (fun j h1 h2 => by
          by_cases hj : j = k
          · subst hj; rw [HF.out]; exact h0
          · exact HN.out j h1 (by omega))
        go_wp2_with fail
        exact ⟨⟨k + 1, by omega, by omega, congrArg _ (by omega), (by first | rfl | trivial), HN2⟩, by simp only [RowKit.intOf]; omega⟩
    · obtain rfl : k = 257 := by omega
      go_wp2_with fail
      go_ret2
      exact ⟨_, _, rfl, Or.inr ⟨rfl, rfl, fun j h1 h2 => HN.out j h1 (by omega)⟩, K.out⟩
end Go.Proofs.Ytndfhgklhjfhkaa

/- identify: Length, Free. -/
namespace Go.Proofs.Ytndfhgklhjfhkaa
open Go.RowKit Bs
set_option maxRecDepth 100000 in
set_option maxHeartbeats 6400000 in
theorem ilen_any (l : List Od) (p : Option Addr) (c : Nat) (sub : Int) (q : Nat → Prop) (w : World) (hR : RdF w q (.slice p l.length c) l.length (l.flatMap odC)) (hm : l.length ≤ 9223372036854775807) :
    Calls Try.prog 25 #[.slice p l.length c, .int .i64 sub] w fun e w' => e = .returned (.int .i64 (lnO l sub)) ∧ w.grownBy w' none := by
  have HR := Lib.hid hR
  clear hR
  go_enter Try.func25, Try.ntmps25
  go_wp2_with fail
  refine (icheck_any l p c _ w HR.out hm).mono ?_
  rintro e w1 ⟨rfl, hg⟩
  have G1 := Lib.hid hg
  clear hg
  by_cases h0 : ckO l = 0
  case neg =>
    have h0' : (ckO l != 0) = true := by simpa using h0
    have HC : Hid (lnO l sub = 0) := Lib.hid (if_neg h0)
    clear h0
    go_wp2_with fail
    go_ret
    rw [HC.out]
    exact ⟨rfl, G1.out⟩
  have HC : Hid (lnO l sub = lnK l sub) := Lib.hid (if_pos h0)
  obtain ⟨hl, -, -⟩ := ck_any h0
  rw [h0]
  clear h0
  go_wp2_with fail
  go_loopw [5, 13] (fun v a wr => ∃ k : Nat, k ≤ l.length ∧ a = .int .i64 (k : Int) ∧ v = .int .i64 (lnK (l.take k) sub) ∧ Hid (w.grownBy wr none)) (fun _ a _ => l.length - (RowKit.intOf a).toNat)
  case atStart => exact ⟨0, by omega, rfl, rfl, G1⟩
  case round =>
    obtain ⟨w2, rfl⟩ : ∃ w2, w2 = wr := ⟨_, rfl⟩
    obtain ⟨k, hk, rfl, rfl, N⟩ := hrel
    clear G1
    by_cases hlt : k < l.length
    · obtain ⟨-, b, off, rfl, -, hc⟩ := od_cells (HR.out.keep N.out) (by omega)
      obtain ⟨x, hx⟩ : ∃ x, l[k]? = some x := ⟨_, List.getElem?_eq_getElem hlt⟩
      obtain ⟨a0, a1, a2, a3⟩ := hc k x hx
      have HS := Lib.hid (lnK_take hx sub)
      have HB := Lib.hid (heap_alloc_new w2 (.cells #[.int .i64 x.r, .int .i64 x.s, .int .i64 x.i, .int .i64 x.l] 62))
      have HG := Lib.hid (World.grownBy_alloc w2 (.cells #[.int .i64 x.r, .int .i64 x.s, .int .i64 x.i, .int .i64 x.l] 62) none)
      clear hc hx
      go_upto_region 7 with fail
      clear a0 a1 a2 a3
      generalize w2.alloc _ = w3 at *
      have N1 := Lib.hid (grown_trans N.out HG.out)
      obtain ⟨d0, d1, d2, d3⟩ := row4i HB.out
      obtain ⟨n, hn⟩ : ∃ n, lnK (l.take k) sub = n := ⟨_, rfl⟩
      rw [hn] at HS ⊢
      clear hn N HG
      by_cases h1 : x.s = sub
      · have h1' : (x.s == sub) = true := by simpa using h1
        by_cases h2 : n = 0
        · have h2' : (n == 0) = true := by simpa using h2
          have HE : Hid (lnK (l.take (k + 1)) sub = x.l) := Lib.hid (by rw [HS.out]; unfold lnS; rw [if_pos ⟨h1, Or.inl h2⟩])
          clear HS h1 h2
          go_wp2_with fail
          exact ⟨⟨k + 1, by omega, congrArg _ (by omega), by rw [HE.out], N1⟩, by simp only [RowKit.intOf]; omega⟩
        · have h2' : (n == 0) = false := by simpa using h2
          by_cases h3 : x.l < n
          · have HE : Hid (lnK (l.take (k + 1)) sub = x.l) := Lib.hid (by rw [HS.out]; unfold lnS; rw [if_pos ⟨h1, Or.inr h3⟩])
            clear HS h1 h2
            go_wp2_with fail
            exact ⟨⟨k + 1, by omega, congrArg _ (by omega), by rw [HE.out], N1⟩, by simp only [RowKit.intOf]; omega⟩
          · have HE : Hid (lnK (l.take (k + 1)) sub = n) := Lib.hid (by rw [HS.out]; unfold lnS; rw [if_neg (fun h => by have := h.2; omega)])
            clear HS h1 h2
            go_wp2_with fail
            exact ⟨⟨k + 1, by omega, congrArg _ (by omega), by rw [HE.out], N1⟩, by simp only [RowKit.intOf]; omega⟩
      · have h1' : (x.s == sub) = false := by simpa using h1
        have HE : Hid (lnK (l.take (k + 1)) sub = n) := Lib.hid (by rw [HS.out]; unfold lnS; rw [if_neg (fun h => h1 h.1)])
        clear HS h1
        go_wp2_with fail
        exact ⟨⟨k + 1, by omega, congrArg _ (by omega), by rw [HE.out], N1⟩, by simp only [RowKit.intOf]; omega⟩
    · obtain rfl : k = l.length := by omega
      have HE : Hid (lnK (l.take l.length) sub = lnK l sub) := Lib.hid (by rw [List.take_length])
      go_wp2_with fail
      go_ret
      rw [HC.out, HE.out]
      exact ⟨rfl, N.out⟩
/-- What Free returns. -/
def FrO (l : List Od) (sub : Int) (n : Int) (ok : Bool) : Prop := (ckO l ≠ 0 ∧ n = 0 ∧ ok = false) ∨ (ckO l = 0 ∧ FreeIs (fun k => cnt l sub k) n ok)
set_option maxRecDepth 100000 in
theorem frO_uniq {l : List Od} {sub n m : Int} {a b : Bool} (h : FrO l sub n a) (k : FrO l sub m b) : n = m ∧ a = b := by
  rcases h with ⟨h1, rfl, rfl⟩ | ⟨h1, h2⟩
  · rcases k with ⟨k1, rfl, rfl⟩ | ⟨k1, k2⟩
    · exact ⟨rfl, rfl⟩
    · exact absurd k1 h1
  · rcases k with ⟨k1, rfl, rfl⟩ | ⟨k1, k2⟩
    · exact absurd h1 k1
    · exact free_uniq (fun j _ _ => Iff.rfl) h2 k2
set_option maxRecDepth 100000 in
set_option maxHeartbeats 6400000 in
theorem ifreeT_any (l : List Od) (p : Option Addr) (c : Nat) (sub : Int) (q : Nat → Prop) (w : World) (hR : RdF w q (.slice p l.length c) l.length (l.flatMap odC)) (hm : l.length ≤ 9223372036854775807) :
    Calls Try.prog 20 #[.slice p l.length c, .int .i64 sub] w fun e w' => ∃ n ok, e = .returned (.tuple #[.int .i64 n, .bool ok]) ∧ FrO l sub n ok ∧ w.grownBy w' none := by
  have HR := Lib.hid hR
  clear hR
  go_enter Try.func20, Try.ntmps20
  go_wp2_with fail
  refine (icheck_any l p c _ w HR.out hm).mono ?_
  rintro e w1 ⟨rfl, hg⟩
  have G1 := Lib.hid hg
  clear hg
  by_cases h0 : ckO l = 0
  case neg =>
    have h0' : (ckO l != 0) = true := by simpa using h0
    have H0 := Lib.hid h0
    clear h0
    go_wp2_with fail
    go_ret2
    exact ⟨_, _, rfl, Or.inl ⟨H0.out, rfl, rfl⟩, G1.out⟩
  obtain ⟨hl, -, -⟩ := ck_any h0
  have H0 := Lib.hid h0
  rw [h0]
  clear h0
  go_wp2_with fail
  refine (icount_any l p c sub _ w1 (HR.out.keep G1.out) (by omega) (fun x hx => ck_id H0.out hx)).mono ?_
  rintro e w2 ⟨rfl, hg⟩
  have G2 := Lib.hid (grown_trans G1.out hg)
  clear hg G1
  go_wp2_with fail
  refine (ifree_any (fun k : Nat => cnt l sub k) w2).mono ?_
  rintro e w3 ⟨n, ok, rfl, hf, hg⟩
  have G3 := Lib.hid (grown_trans G2.out hg)
  have HF := Lib.hid hf
  clear hg hf G2
  go_wp2_with fail
  go_ret2
  exact ⟨_, _, rfl, Or.inr ⟨H0.out, HF.out⟩, G3.out⟩
end Go.Proofs.Ytndfhgklhjfhkaa

/- identify: as many claims as there can be, the mathematics. -/
namespace Go.Proofs.Ytndfhgklhjfhkaa
open Go.RowKit Bs
/-- The first n claims of the law. -/
def flO (n : Nat) : List Od := (List.range n).map fun (k : Nat) => (⟨((k / 8 : Nat) : Int) + 1, ((k % 8 : Nat) : Int), ((k / 8 : Nat) : Int) + 1, 64⟩ : Od)
set_option maxRecDepth 100000 in
theorem flO_succ {n k s : Nat} (h : n = 8 * (k - 1) + s) (hk : 1 ≤ k) (hs : s < 8) : flO (n + 1) = flO n ++ [⟨(k : Int), (s : Int), (k : Int), 64⟩] := by
  unfold flO
  rw [List.range_succ, List.map_append, List.map_cons, List.map_nil, show n / 8 = k - 1 by omega, show n % 8 = s by omega, show ((k - 1 : Nat) : Int) + 1 = (k : Int) by omega]
set_option maxRecDepth 100000 in
theorem flO_len (n : Nat) : (flO n).length = n := by unfold flO; simp
set_option maxRecDepth 100000 in
theorem flO_ck : ckO (flO 192) = 0 := by kernel_rfl
set_option maxRecDepth 100000 in
theorem flO_more (x : Od) : ckO (flO 192 ++ [x]) = 3 := by
  unfold ckO
  rw [if_pos (by rw [List.length_append, flO_len]; simp)]
set_option maxRecDepth 100000 in
theorem flO_all : ((List.range 8).all fun s => decide (cnt (flO 192) ((s : Nat) : Int) 25 = 0) && (List.range 25).all fun j => decide (1 ≤ j → cnt (flO 192) ((s : Nat) : Int) ((j : Nat) : Int) ≠ 0)) = true := by kernel_rfl
set_option maxRecDepth 100000 in
theorem flO_free {s : Nat} (hs : s < 8) : FrO (flO 192) (s : Int) 25 true := by
  have h := List.all_eq_true.1 flO_all s (by simp; omega)
  rw [Bool.and_eq_true] at h
  refine Or.inr ⟨flO_ck, Or.inl ⟨rfl, by omega, by omega, of_decide_eq_true h.1, fun j h1 h2 => ?_⟩⟩
  have h3 := List.all_eq_true.1 h.2 j (by simp; omega)
  exact of_decide_eq_true h3 h1
end Go.Proofs.Ytndfhgklhjfhkaa

/- The reference's Check of claims. -/
namespace Go.Proofs.Ytndfhgklhjfhkaa
open Go.RowKit Bs
end Go.Proofs.Ytndfhgklhjfhkaa

/- identify: Conflicts, Length, Free. -/
namespace Go.Proofs.Ytndfhgklhjfhkaa
open Go.RowKit Bs
end Go.Proofs.Ytndfhgklhjfhkaa

/- The reference's claimed, Conflicts, Length, Free. -/
namespace Go.Proofs.Ytndfhgklhjfhkaa
open Go.RowKit Bs
end Go.Proofs.Ytndfhgklhjfhkaa

/- identify: Resolve, the mathematics. -/
namespace Go.Proofs.Ytndfhgklhjfhkaa
open Go.RowKit Bs
/-- The least number from 1 to 256 that is not counted. -/
def frL (c : Nat → Nat) : Option Nat := (List.range 257).find? (fun j => decide (1 ≤ j ∧ c j = 0))
set_option maxRecDepth 100000 in
theorem frL_some {c : Nat → Nat} {n : Nat} (h1 : 1 ≤ n) (h2 : n ≤ 256) (h0 : c n = 0) (hm : ∀ j, 1 ≤ j → j < n → c j ≠ 0) : frL c = some n := by
  unfold frL
  rw [List.find?_range_eq_some]
  refine ⟨decide_eq_true ⟨h1, h0⟩, List.mem_range.2 (by omega), fun j hj => ?_⟩
  simp only [Bool.not_eq_true', decide_eq_false_iff_not]
  rintro ⟨q1, q2⟩
  exact hm j q1 hj q2
set_option maxRecDepth 100000 in
theorem frL_none {c : Nat → Nat} (hm : ∀ j, 1 ≤ j → j ≤ 256 → c j ≠ 0) : frL c = none := by
  unfold frL
  rw [List.find?_eq_none]
  intro j hj
  have := List.mem_range.1 hj
  simp only [decide_eq_true_eq]
  rintro ⟨q1, q2⟩
  exact hm j q1 (by omega) q2
set_option maxRecDepth 100000 in
theorem frL_is {c : Nat → Nat} {n : Int} {ok : Bool} (h : FreeIs c n ok) : (ok = true ∧ ∃ m : Nat, n = (m : Int) ∧ 1 ≤ m ∧ m ≤ 256 ∧ c m = 0 ∧ frL c = some m) ∨ (ok = false ∧ frL c = none) := by
  rcases h with ⟨rfl, h1, h2, h3, h4⟩ | ⟨rfl, rfl, h4⟩
  · refine Or.inl ⟨rfl, n.toNat, by omega, by omega, by omega, h3, frL_some (by omega) (by omega) h3 (fun j q1 q2 => h4 j q1 (by omega))⟩
  · exact Or.inr ⟨rfl, frL_none h4⟩
/-- The counts, with what was given. -/
def cgv (l : List Od) (sub : Int) (giv : List Nat) (j : Nat) : Nat := cnt l sub j + giv.count j
set_option maxRecDepth 100000 in
theorem cgv_snoc (l : List Od) (sub : Int) (giv : List Nat) (m : Nat) : (fun j => cgv l sub (giv ++ [m]) j) = fun j => if j = m then cgv l sub giv m + 1 else cgv l sub giv j := by
  funext j
  unfold cgv
  rw [List.count_append]
  by_cases h : j = m
  · subst h
    rw [if_pos rfl]
    simp
    omega
  · rw [if_neg h, List.count_eq_zero_of_not_mem (a := j) (l := [m]) (by simpa using h)]
    rfl
/-- Is there an earlier claim for the same ID? -/
def erl (l : List Od) (sub : Int) (k : Nat) (x : Od) : Bool := decide (x.s = sub ∧ 0 < cnt (l.take k) sub x.i)
/-- The first k claims settled; what was given. -/
def rsv (l : List Od) (sub : Int) : Nat → Option (List Od × List Nat)
  | 0 => some ([], [])
  | k + 1 => match rsv l sub k, l[k]? with
    | some (out, giv), some x =>
      if erl l sub k x then
        match frL (cgv l sub giv) with
        | some m => some (out ++ [{ x with i := (m : Int) }], giv ++ [m])
        | none => none
      else some (out ++ [x], giv)
    | r, none => r
    | none, _ => none
set_option maxRecDepth 100000 in
theorem rsv_keep {l : List Od} {sub : Int} {k : Nat} {x : Od} {out : List Od} {giv : List Nat} (h : rsv l sub k = some (out, giv)) (hx : l[k]? = some x) (he : erl l sub k x = false) : rsv l sub (k + 1) = some (out ++ [x], giv) := by
  rw [rsv, h, hx]
  simp [he]
set_option maxRecDepth 100000 in
theorem rsv_new {l : List Od} {sub : Int} {k m : Nat} {x : Od} {out : List Od} {giv : List Nat} (h : rsv l sub k = some (out, giv)) (hx : l[k]? = some x) (he : erl l sub k x = true) (hf : frL (cgv l sub giv) = some m) : rsv l sub (k + 1) = some (out ++ [{ x with i := (m : Int) }], giv ++ [m]) := by
  rw [rsv, h, hx]
  simp [he, hf]
set_option maxRecDepth 100000 in
theorem rsv_none {l : List Od} {sub : Int} {k : Nat} {x : Od} {out : List Od} {giv : List Nat} (h : rsv l sub k = some (out, giv)) (hx : l[k]? = some x) (he : erl l sub k x = true) (hf : frL (cgv l sub giv) = none) : rsv l sub (k + 1) = none := by
  rw [rsv, h, hx]
  simp [he, hf]
set_option maxRecDepth 100000 in
theorem rsv_stay {l : List Od} {sub : Int} {k : Nat} (h : rsv l sub k = none) : rsv l sub (k + 1) = none := by
  rw [rsv, h]
  cases l[k]? <;> rfl
set_option maxRecDepth 100000 in
theorem rsv_none_le {l : List Od} {sub : Int} {k n : Nat} (h : rsv l sub k = none) (hn : k ≤ n) : rsv l sub n = none := by
  induction n with
  | zero =>
    obtain rfl : k = 0 := by omega
    exact h
  | succ n ih =>
    by_cases hk : k = n + 1
    · subst hk; exact h
    · exact rsv_stay (ih (by omega))
/-- What Resolve returns. -/
def rsX (l : List Od) (sub : Int) : Int := if ckO l ≠ 0 then ckO l else if (rsv l sub l.length).isSome = true then 0 else 9
def rsO (l : List Od) (sub : Int) : List Od := if ckO l ≠ 0 then [] else ((rsv l sub l.length).getD ([], [])).1
set_option maxRecDepth 100000 in
theorem rsv_len {l : List Od} {sub : Int} : ∀ {k : Nat} {out : List Od} {giv : List Nat}, k ≤ l.length → rsv l sub k = some (out, giv) → out.length = k ∧ giv.length ≤ k
  | 0, out, giv, _, h => by
    rw [rsv] at h
    injection h with h
    injection h with h1 h2
    subst h1
    subst h2
    exact ⟨rfl, Nat.le_refl _⟩
  | k + 1, out, giv, hk, h => by
    obtain ⟨x, hx⟩ : ∃ x, l[k]? = some x := ⟨_, List.getElem?_eq_getElem (by omega)⟩
    cases hp : rsv l sub k with
    | none => rw [rsv_stay hp] at h; cases h
    | some r =>
      obtain ⟨o, g⟩ := r
      obtain ⟨i1, i2⟩ := rsv_len (by omega) hp
      cases he : erl l sub k x with
      | false =>
        rw [rsv_keep hp hx he] at h
        injection h with h
        injection h with h1 h2
        subst h1
        subst h2
        exact ⟨by simp [i1], by omega⟩
      | true =>
        cases hf : frL (cgv l sub g) with
        | none => rw [rsv_none hp hx he hf] at h; cases h
        | some m =>
          rw [rsv_new hp hx he hf] at h
          injection h with h
          injection h with h1 h2
          subst h1
          subst h2
          exact ⟨by simp [i1], by simp; omega⟩
set_option maxRecDepth 100000 in
theorem od_set : ∀ (M : List Od) (k : Nat) (v : Int) (x : Od), M[k]? = some x → (M.flatMap odC).set (k * 4 + 2) (.int .i64 v) = (M.set k { x with i := v }).flatMap odC
  | [], _, _, _, h => by simp at h
  | a :: t, 0, v, x, h => by
    obtain rfl : a = x := by simpa using h
    simp [odC]
  | a :: t, k + 1, v, x, h => by
    rw [List.flatMap_cons, List.set_append_right _ _ (by rw [od_len]; omega), od_len, show (k + 1) * 4 + 2 - 4 = k * 4 + 2 by omega, od_set t k v x (by simpa using h), List.set_cons_succ, List.flatMap_cons]

end Go.Proofs.Ytndfhgklhjfhkaa

/- The library's contract on slices.SortFunc, laid at this program. -/
namespace Go.Proofs.Ytndfhgklhjfhkaa
open Go.Shelf
def sortE_ren : Go.Shelf.Ren := ⟨fun | 6 => 73 | 15 => 76 | 14 => 75 | 28 => 85 | 29 => 86 | 20 => 77 | 21 => 78 | 22 => 79 | 23 => 80 | 24 => 81 | 25 => 82 | 26 => 83 | 27 => 84 | 46 => 87 | 47 => 88 | 48 => 89 | 49 => 90 | 50 => 91 | 57 => 92 | n => n, fun | 22 => 24 | 24 => 54 | 25 => 89 | 3 => 3 | 39 => 106 | 0 => 0 | 53 => 115 | 55 => 117 | 4 => 4 | 46 => 109 | 45 => 108 | 50 => 43 | 5 => 5 | 9 => 9 | 66 => 118 | 70 => 122 | 76 => 124 | 77 => 125 | n => n, fun | n => n⟩
set_option maxRecDepth 100000 in
theorem sortE : Go.Proofs.SlLaysF0.n6 Try.prog sortE_ren where
  mixed := by kernel_rfl
  f6 := ⟨ "slices.SortFunc[[]bitcast/api.Edge,bitcast/api.Edge]", by decide, Try.func73.trans (congrArg some (by kernel_rfl))⟩
  f14 := ⟨ "slices.pdqsortCmpFunc[bitcast/api.Edge]", by decide, Try.func75.trans (congrArg some (by kernel_rfl))⟩
  f15 := Try.func76.trans (congrArg some (by kernel_rfl))
  f20 := ⟨ "slices.insertionSortCmpFunc[bitcast/api.Edge]", by decide, Try.func77.trans (congrArg some (by kernel_rfl))⟩
  f21 := ⟨ "slices.heapSortCmpFunc[bitcast/api.Edge]", by decide, Try.func78.trans (congrArg some (by kernel_rfl))⟩
  f22 := ⟨ "slices.breakPatternsCmpFunc[bitcast/api.Edge]", by decide, Try.func79.trans (congrArg some (by kernel_rfl))⟩
  f23 := ⟨ "slices.choosePivotCmpFunc[bitcast/api.Edge]", by decide, Try.func80.trans (congrArg some (by kernel_rfl))⟩
  f24 := ⟨ "slices.reverseRangeCmpFunc[bitcast/api.Edge]", by decide, Try.func81.trans (congrArg some (by kernel_rfl))⟩
  f25 := ⟨ "slices.partialInsertionSortCmpFunc[bitcast/api.Edge]", by decide, Try.func82.trans (congrArg some (by kernel_rfl))⟩
  f26 := ⟨ "slices.partitionEqualCmpFunc[bitcast/api.Edge]", by decide, Try.func83.trans (congrArg some (by kernel_rfl))⟩
  f27 := ⟨ "slices.partitionCmpFunc[bitcast/api.Edge]", by decide, Try.func84.trans (congrArg some (by kernel_rfl))⟩
  f28 := Try.func85.trans (congrArg some (by kernel_rfl))
  f29 := Try.func86.trans (congrArg some (by kernel_rfl))
  f46 := ⟨ "slices.siftDownCmpFunc[bitcast/api.Edge]", by decide, Try.func87.trans (congrArg some (by kernel_rfl))⟩
  f47 := Try.func88.trans (congrArg some (by kernel_rfl))
  f48 := Try.func89.trans (congrArg some (by kernel_rfl))
  f49 := ⟨ "slices.medianAdjacentCmpFunc[bitcast/api.Edge]", by decide, Try.func90.trans (congrArg some (by kernel_rfl))⟩
  f50 := ⟨ "slices.medianCmpFunc[bitcast/api.Edge]", by decide, Try.func91.trans (congrArg some (by kernel_rfl))⟩
  f57 := ⟨ "slices.order2CmpFunc[bitcast/api.Edge]", by decide, Try.func92.trans (congrArg some (by kernel_rfl))⟩
  t0 := Try.underlying0
  a0 := Try.isAgg0
  z0 := Try.sizeOf0
  v0 := Try.zeroValue0
  t3 := Try.underlying3
  a3 := Try.isAgg3
  z3 := Try.sizeOf3
  v3 := Try.zeroValue3
  t4 := Try.underlying4
  a4 := Try.isAgg4
  z4 := Try.sizeOf4
  v4 := Try.zeroValue4
  t5 := Try.underlying5
  a5 := Try.isAgg5
  z5 := Try.sizeOf5
  v5 := Try.zeroValue5
  t9 := Try.underlying9
  a9 := Try.isAgg9
  z9 := Try.sizeOf9
  v9 := Try.zeroValue9
  t22 := Try.underlying24
  a22 := Try.isAgg24
  z22 := Try.sizeOf24
  v22 := Try.zeroValue24
  t25 := Try.underlying89
  a25 := Try.isAgg89
  z25 := Try.sizeOf89
  v25 := Try.zeroValue89
  t39 := Try.underlying106
  a39 := Try.isAgg106
  z39 := Try.sizeOf106
  v39 := Try.zeroValue106
  t45 := Try.underlying108
  a45 := Try.isAgg108
  z45 := Try.sizeOf108
  v45 := Try.zeroValue108
  t46 := Try.underlying109
  a46 := Try.isAgg109
  z46 := Try.sizeOf109
  v46 := Try.zeroValue109
  t50 := Try.underlying43
  a50 := Try.isAgg43
  z50 := Try.sizeOf43
  v50 := Try.zeroValue43
  t53 := Try.underlying115
  a53 := Try.isAgg115
  z53 := Try.sizeOf115
  v53 := Try.zeroValue115
  t55 := Try.underlying117
  a55 := Try.isAgg117
  z55 := Try.sizeOf117
  v55 := Try.zeroValue117
  t66 := Try.underlying118
  a66 := Try.isAgg118
  z66 := Try.sizeOf118
  v66 := Try.zeroValue118
  t70 := Try.underlying122
  a70 := Try.isAgg122
  z70 := Try.sizeOf122
  v70 := Try.zeroValue122
  t76 := Try.underlying124
  a76 := Try.isAgg124
  z76 := Try.sizeOf124
  v76 := Try.zeroValue124
  t77 := Try.underlying125
  a77 := Try.isAgg125
  z77 := Try.sizeOf125
  v77 := Try.zeroValue125
end Go.Proofs.Ytndfhgklhjfhkaa

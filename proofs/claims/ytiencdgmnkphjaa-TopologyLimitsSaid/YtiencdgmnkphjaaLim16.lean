/- Parts of the proof, packed: ToLimL. -/
import Derived.Test.YtiencdgmnkphjaaLim12
import Derived.Test.YtiencdgmnkphjaaLim15
/- The law TopologyLimits. -/
namespace Go.Proofs.Ytiencdgmnkphjaa
open Go.RowKit Bs
def rtf (k : Nat) : List Rt := (List.range k).map fun (i : Nat) => (⟨(i : Int) + 1, false⟩ : Rt)
theorem rtf_succ (k : Nat) : rtf (k + 1) = rtf k ++ [⟨(k : Int) + 1, false⟩] := by
  unfold rtf
  rw [List.range_succ, List.map_append]
  rfl
theorem rtf_len (k : Nat) : (rtf k).length = k := by unfold rtf; simp
/-- The first sixty pairs. -/
def prs : List (Int × Int) := ((List.range 24).flatMap fun (a : Nat) => ((List.range 24).filter fun (b : Nat) => decide (a < b)).map fun (b : Nat) => ((a : Int) + 1, (b : Int) + 1)).take 60
def lkp (n : Int) (p : Int × Int) : Lk := ⟨p.1, p.2, 1 + n, 1000, 1000⟩
def lks (n : Int) (t : Nat) : List Lk := (prs.take t).map (lkp n)
/-- How many links there are ahead of the pair (a, b). -/
def ix (a b : Nat) : Nat := min 60 ((a - 1) * (48 - a) / 2 + (b - a - 1))
set_option maxRecDepth 100000 in
theorem prs_len : prs.length = 60 := by kernel_rfl
theorem lks_len (n : Int) (t : Nat) (ht : t ≤ 60) : (lks n t).length = t := by
  unfold lks
  rw [List.length_map, List.length_take, prs_len]
  omega
set_option maxRecDepth 100000 in
theorem ix_all : ((List.range 25).all fun a => (List.range 25).all fun b => decide (1 ≤ a → a < b → (ix a b < 60 → prs[ix a b]? = some ((a : Int), (b : Int)) ∧ ix a (b + 1) = ix a b + 1) ∧ (ix a b = 60 → ix (a + 1) (a + 2) = 60))) = true := by kernel_rfl
set_option maxRecDepth 100000 in
theorem ix_row : ((List.range 25).all fun a => decide (1 ≤ a → ix a 25 = ix (a + 1) (a + 2))) = true := by kernel_rfl
theorem ix_le (a b : Nat) : ix a b ≤ 60 := by unfold ix; omega
theorem ix_at {a b : Nat} (h1 : 1 ≤ a) (h2 : a < b) (h3 : b ≤ 24) : (ix a b < 60 → prs[ix a b]? = some ((a : Int), (b : Int)) ∧ ix a (b + 1) = ix a b + 1) ∧ (ix a b = 60 → ix (a + 1) (a + 2) = 60) := by
  have h := List.all_eq_true.1 ix_all a (by simp; omega)
  have h := List.all_eq_true.1 h b (by simp; omega)
  exact of_decide_eq_true h h1 h2
theorem ix_end {a : Nat} (h1 : 1 ≤ a) (h3 : a ≤ 24) : ix a 25 = ix (a + 1) (a + 2) := by
  have h := List.all_eq_true.1 ix_row a (by simp; omega)
  exact of_decide_eq_true h h1
theorem lks_next (n : Int) {t : Nat} {a b : Int} (h : prs[t]? = some (a, b)) : lks n (t + 1) = lks n t ++ [⟨a, b, 1 + n, 1000, 1000⟩] := by
  unfold lks
  rw [List.take_add_one, h, List.map_append]
  rfl
set_option maxRecDepth 100000 in
theorem lim_ok (n : Int) (h0 : 0 ≤ n) (h1 : n < 256) : OkAll (rtf 24) (lks n 60) := by
  refine ⟨by rw [rtf_len]; omega, by rw [lks_len n 60 (Nat.le_refl _)]; omega, by kernel_rfl, by kernel_rfl, ?_, by kernel_rfl, by kernel_rfl, by kernel_rfl⟩
  rw [List.any_eq_false]
  intro l hl
  obtain ⟨p, -, rfl⟩ := List.mem_map.1 hl
  unfold wrNum lkp
  simp
  omega
theorem lim_chk (n : Int) (h0 : 0 ≤ n) (h1 : n < 256) : chk (rtf 24) (lks n 60) = 0 := okAll_chk (lim_ok n h0 h1)
theorem lim_okT (n : Int) (h0 : 0 ≤ n) (h1 : n < 256) : okT (rtf 24) (lks n 60) = true := by unfold okT; rw [lim_chk n h0 h1]; rfl
theorem lim_more (L : List Lk) : chk (rtf 24 ++ [⟨99, false⟩]) L = 3 := by
  unfold chk
  rw [if_pos (.inl (by rw [List.length_append, rtf_len]; simp))]
set_option maxRecDepth 100000 in
theorem lim_e3 (n : Int) (h0 : 0 ≤ n) (h1 : n < 256) : errV (rtf 24) (lks n 60) ⟨24, 23, 1, 1⟩ = 3 := by
  unfold errV
  rw [lim_okT n h0 h1]
  kernel_rfl
set_option maxRecDepth 100000 in
theorem lim_e0 (n : Int) (h0 : 0 ≤ n) (h1 : n < 256) : errV (rtf 24) (lks n 60) ⟨2, 1, 5, 6⟩ = 0 := by
  unfold errV
  rw [lim_okT n h0 h1]
  kernel_rfl
set_option maxRecDepth 100000 in
theorem lim_fnd (n : Int) : fndL (lks n 60) (lkOf ⟨2, 1, 5, 6⟩) = true := by kernel_rfl
set_option maxRecDepth 100000 in
theorem lim_links (n : Int) : (linksV (lks n 60) ⟨2, 1, 5, 6⟩).length = 60 ∧ (linksV (lks n 60) ⟨2, 1, 5, 6⟩)[0]? = some ⟨1, 2, 6, 5, 1000⟩ := ⟨by kernel_rfl, by kernel_rfl⟩
theorem lcells5 (w : World) (x0 x1 x2 x3 x4 : Value) (t : TypeId) : ∀ j u, [x0, x1, x2, x3, x4][j]? = some u → (w.alloc (.cells #[x0, x1, x2, x3, x4] t)).cell? ((⟨w.heap.size, 0, none⟩ : Addr).add j) = some u := by
  intro j u hj
  have hb : (w.alloc (.cells #[x0, x1, x2, x3, x4] t)).heap[w.heap.size]? = some (.cells #[x0, x1, x2, x3, x4] t (0, 0)) := heap_alloc_new w _
  have hadd : (⟨w.heap.size, 0, none⟩ : Addr).add j = ⟨w.heap.size, 0 + j, none⟩ := by unfold Addr.add; split <;> simp_all
  rw [hadd, cell_of_row _ _ _ _ _ _ hb, Nat.zero_add]
  simpa using hj
/-- While the law's topology grows. -/
structure LM (w : World) (vR vL : Value) (R : List Rt) (L : List Lk) (wr : World) : Prop where
  gb : wr.heap[w.heap.size]? = some (.cells #[vR, vL] 26 (0, 0))
  oR : wr.ownsRow (w.heap.size + 1) 73 2 vR R.length (R.flatMap rtC)
  oL : wr.ownsRow (w.heap.size + 1) 68 5 vL L.length (L.flatMap lkC)
  ap : ∀ g, vR.ownBlock = some g → vL.ownBlock ≠ some g
  gr : w.grownBy wr none
  sz : w.heap.size + 1 ≤ wr.heap.size
theorem LM.start (w : World) : LM w (.slice none 0 0) (.slice none 0 0) [] [] (w.alloc (.cells #[.slice none 0 0, .slice none 0 0] 26)) :=
  ⟨heap_alloc_new w _, World.ownsRow_nil _ _ _ _, World.ownsRow_nil _ _ _ _, (fun g h => by cases h), World.grownBy_alloc _ _ _, by simp⟩
theorem own_away {w w' : World} {base size n b : Nat} {e : TypeId} {v : Value} {xs : List Value} (h : w.ownsRow base e size v n xs) (g : w.grownBy w' (some b)) (hb : b < base) : w'.ownsRow base e size v n xs := by
  refine h.kept g ?_
  cases hv : v.ownBlock with
  | none => exact .inl rfl
  | some k => exact .inr (fun e => by have := (h.lt k hv).1; have := Option.some.inj e; omega)
theorem LM.addR {w wr w1 : World} {vR vL : Value} {R : List Rt} {L : List Lk} {y : Rt} {o : Obj} {g n cap : Nat} (h : LM w vR vL R L wr)
    (hown : w1.ownsRow (w.heap.size + 1) 73 2 (.slice (some ⟨g, 0, none⟩) n cap) (R.length + 1) (R.flatMap rtC ++ [.int .i64 y.id, .bool y.cap])) (hg : (wr.alloc o).grownBy w1 vR.ownBlock) (hat : vR.ownBlock = some g ∨ g = (wr.alloc o).heap.size) :
    w1.heap[w.heap.size]? = some (.cells #[vR, vL] 26 (0, 0)) ∧ LM w (.slice (some ⟨g, 0, none⟩) n cap) vL (R ++ [y]) L (w1.setCell ⟨w.heap.size, 0, none⟩ (.slice (some ⟨g, 0, none⟩) n cap)) := by
  have k0 := World.grownBy_alloc wr o none
  have hs : (wr.alloc o).heap.size = wr.heap.size + 1 := by simp
  have hne : ∀ b, b < w.heap.size + 1 → some b ≠ vR.ownBlock := fun b hb e => by
    have := (h.oR.lt b e.symm).1
    omega
  have hb := kept_row (kept_row h.gb k0 (by simp)) hg (hne _ (by omega))
  have k9 : w1.grownBy (w1.setCell ⟨w.heap.size, 0, none⟩ (.slice (some ⟨g, 0, none⟩) n cap)) (some w.heap.size) := grown_setCell w1 ⟨w.heap.size, 0, none⟩ _
  have hL : w1.ownsRow (w.heap.size + 1) 68 5 vL L.length (L.flatMap lkC) := by
    refine (h.oL.alloc o).kept hg ?_
    cases hv : vL.ownBlock with
    | none => exact .inl rfl
    | some k => exact .inr (fun e => h.ap k e.symm hv)
  refine ⟨hb, ⟨heap_setCell_same w1 _ 0 _ _ _ hb, ?_, own_away hL k9 (by omega), ?_, grown_new (grown_any (grown_trans h.gr k0) hg (fun b hb => hne b (by omega))) k9 (Nat.le_refl _), ?_⟩⟩
  · have h1 := own_away hown k9 (by omega)
    rw [List.length_append, List.flatMap_append]
    exact h1
  · intro g2 hg2 e
    obtain rfl : g = g2 := Option.some.inj hg2
    rcases hat with hat | hat
    · exact h.ap g hat e
    · have := (h.oL.lt g e).2
      omega
  · have := h.sz
    have := hg.size
    have := k9.size
    omega
theorem LM.addL {w wr w1 : World} {vR vL : Value} {R : List Rt} {L : List Lk} {y : Lk} {o : Obj} {g n cap : Nat} (h : LM w vR vL R L wr)
    (hown : w1.ownsRow (w.heap.size + 1) 68 5 (.slice (some ⟨g, 0, none⟩) n cap) (L.length + 1) (L.flatMap lkC ++ lkC y)) (hg : (wr.alloc o).grownBy w1 vL.ownBlock) (hat : vL.ownBlock = some g ∨ g = (wr.alloc o).heap.size) :
    w1.heap[w.heap.size]? = some (.cells #[vR, vL] 26 (0, 0)) ∧ LM w vR (.slice (some ⟨g, 0, none⟩) n cap) R (L ++ [y]) (w1.setCell ⟨w.heap.size, 1, none⟩ (.slice (some ⟨g, 0, none⟩) n cap)) := by
  have k0 := World.grownBy_alloc wr o none
  have hs : (wr.alloc o).heap.size = wr.heap.size + 1 := by simp
  have hne : ∀ b, b < w.heap.size + 1 → some b ≠ vL.ownBlock := fun b hb e => by
    have := (h.oL.lt b e.symm).1
    omega
  have hb := kept_row (kept_row h.gb k0 (by simp)) hg (hne _ (by omega))
  have k9 : w1.grownBy (w1.setCell ⟨w.heap.size, 1, none⟩ (.slice (some ⟨g, 0, none⟩) n cap)) (some w.heap.size) := grown_setCell w1 ⟨w.heap.size, 1, none⟩ _
  have hR : w1.ownsRow (w.heap.size + 1) 73 2 vR R.length (R.flatMap rtC) := by
    refine (h.oR.alloc o).kept hg ?_
    cases hv : vR.ownBlock with
    | none => exact .inl rfl
    | some k => exact .inr (fun e => h.ap k hv e.symm)
  refine ⟨hb, ⟨heap_setCell_same w1 _ 1 _ _ _ hb, own_away hR k9 (by omega), ?_, ?_, grown_new (grown_any (grown_trans h.gr k0) hg (fun b hb => hne b (by omega))) k9 (Nat.le_refl _), ?_⟩⟩
  · have h1 := own_away hown k9 (by omega)
    rw [List.length_append, List.flatMap_append]
    simpa using h1
  · intro g2 hg2 e
    obtain rfl : g = g2 := Option.some.inj e
    rcases hat with hat | hat
    · exact h.ap g hg2 hat
    · have := (h.oR.lt g hg2).2
      omega
  · have := h.sz
    have := hg.size
    have := k9.size
    omega
theorem LM.keep {w wr w' : World} {vR vL : Value} {R : List Rt} {L : List Lk} (h : LM w vR vL R L wr) (g : wr.grownBy w' none) : LM w vR vL R L w' :=
  ⟨kept_row h.gb g (by simp), h.oR.kept g (by cases hv : vR.ownBlock <;> simp), h.oL.kept g (by cases hv : vL.ownBlock <;> simp), h.ap, grown_trans h.gr g, Nat.le_trans h.sz g.size⟩
/-- The two topologies of the law. -/
structure LG (w : World) (Bm : Nat) (T T2 : Tg) (wr : World) : Prop where
  gb : wr.heap[w.heap.size]? = some (.cells #[.slice T.pR T.R.length T.cR, .slice T.pL T.L.length T.cL] 26 (0, 0))
  mb : wr.heap[Bm]? = some (.cells #[.slice T2.pR T2.R.length T2.cR, .slice T2.pL T2.L.length T2.cL] 26 (0, 0))
  t : TgOk wr (fun _ => True) T
  t2 : TgOk wr (fun _ => True) T2
  gr : w.grownBy wr none
theorem LG.keep {w wr w' : World} {Bm : Nat} {T T2 : Tg} (h : LG w Bm T T2 wr) (g : wr.grownBy w' none) : LG w Bm T T2 w' := ⟨kept_row h.gb g (by simp), kept_row h.mb g (by simp), h.t.keep g, h.t2.keep g, grown_trans h.gr g⟩
set_option maxRecDepth 100000 in
set_option maxHeartbeats 6400000 in
theorem tlimits_walk (n : Nat) (hn : n < 256) (w : World) :
    Calls Try.prog 10 #[.int .u8 (n : Int)] w fun e w' => e = .returned (.bool true) ∧ w.grownBy w' none := by
  obtain ⟨ir, hir, hr0, hr1, hr2⟩ := info_parts info_rt2
  obtain ⟨il, hil, hl0, hl1, hl2⟩ := info_parts info_lk2
  have S0 := Lib.hid (LM.start w)
  go_enter Try.func10, Try.ntmps10
  go_upto_region 2 with fail
  generalize w.alloc _ = wa at *
  go_wp2_with fail
  go_loopw [4] (fun i wr => ∃ (k : Nat) (vR : Value), k ≤ 24 ∧ i = .int .i64 ((k : Int) + 1) ∧ Hid (LM w vR (.slice none 0 0) (rtf k) [] wr)) (fun i _ => 25 - (intOf i).toNat)
  case atStart => exact ⟨0, _, by omega, rfl, S0⟩
  case round =>
  obtain ⟨k, vR, hk, rfl, M⟩ := hrel
  clear S0
  obtain ⟨c0, c1⟩ := row_cells M.out.gb
  by_cases hlt : k < 24
  · have hown := M.out.oR
    have hsz := M.out.sz
    rw [rtf_len] at hown
    have hk1 : ((k : Int) + 1) ≤ 24 := by omega
    go_wp2_with (at_builtin; refine hold_on ?_)
    refine Lib.hid ?_
    refine wpList_append_lies _ rfl _ _ 23 rfl (w.heap.size + 1) 73 ir (.agg #[.int .i64 0, .bool false]) 2 16 Try.underlying23 hir hr0 hr1 hr2 rfl (by decide) _ _ _ rfl (hown.alloc _) ⟨wr.heap.size, 0, none⟩ 1 1 [.int .i64 ((k : Int) + 1), .bool false] rfl rfl ?c1 ?c2 (by decide) ?c3 ?c4 ?c5 _ rfl ?_
    try (case c1 => exact cells2 _ _ _ _)
    case c2 => intro u hu; simp at hu; rcases hu with rfl | rfl <;> rfl
    case c3 => first | omega | (unfold maxLen; omega)
    case c4 => omega
    case c5 => first | omega | (simp; omega)
    intro g6 cap6 w6 hown6 hg6 hat6 hlt6
    obtain ⟨hb6, hM6⟩ := M.out.addR (y := ⟨(k : Int) + 1, false⟩) (by rw [rtf_len]; exact hown6) hg6 (hat6.imp id fun e => by rw [e]; try simp)
    rw [← rtf_succ] at hM6
    have M6 := Lib.hid hM6
    obtain ⟨z0, z1⟩ := row_cells hb6
    have y0 := frozen_of_row _ _ 0 _ _ hb6
    clear hown hown6 hg6 hat6 hlt6 hM6 hb6 c0 c1 M
    go_wp2_with fail
    exact ⟨⟨k + 1, _, by omega, congrArg _ (by omega), M6⟩, by simp only [intOf]; omega⟩
  have M24 : Hid (LM w vR (.slice none 0 0) (rtf 24) [] wr) := Lib.hid (by have := M.out; rw [show k = 24 by omega] at this; exact this)
  have hkn : ¬ ((k : Int) + 1 ≤ 24) := by omega
  clear hk hlt M
  have M := M24
  clear M24
  go_wp2_with fail
  clear hkn
  go_loopw [5] (fun i wr => ∃ (a : Nat) (vL : Value), 1 ≤ a ∧ a ≤ 25 ∧ i = .int .i64 (a : Int) ∧ Hid (LM w vR vL (rtf 24) (lks n (ix a (a + 1))) wr)) (fun i _ => 25 - (intOf i).toNat)
  case atStart => exact ⟨1, _, by omega, by omega, rfl, M⟩
  case round =>
  obtain ⟨a, vL, ha1, ha2, rfl, M⟩ := hrel
  by_cases hat : a ≤ 24
  · have ha3 : (a : Int) ≤ 24 := by omega
    clear c0 c1
    go_wp2_with fail
    go_loopw [6] (fun i wr => ∃ (b : Nat) (vL : Value), a < b ∧ b ≤ 25 ∧ i = .int .i64 (b : Int) ∧ Hid (LM w vR vL (rtf 24) (lks n (ix a b)) wr)) (fun i _ => 25 - (intOf i).toNat)
    case atStart => exact ⟨a + 1, _, by omega, by omega, congrArg _ (by omega), M⟩
    case round =>
    obtain ⟨b, vL, hb1, hb2, rfl, M⟩ := hrel
    obtain ⟨c0, c1⟩ := row_cells M.out.gb
    obtain ⟨p, c, rfl, -, -⟩ := own_shape M.out.oL
    have hie := ix_le a b
    have hll := lks_len n (ix a b) hie
    rw [hll] at c1
    by_cases hbt : b ≤ 24
    · have hb3 : (b : Int) ≤ 24 := by omega
      obtain ⟨hi1, hi2⟩ := ix_at ha1 hb1 hbt
      by_cases ht : ix a b < 60
      · obtain ⟨hi3, hi4⟩ := hi1 ht
        have hown := M.out.oL
        have hsz := M.out.sz
        rw [hll] at hown
        have HN := Lib.hid (lks_next n hi3)
        have HI := Lib.hid hi4
        obtain ⟨t, ht2⟩ : ∃ t, ix a b = t := ⟨_, rfl⟩
        rw [ht2] at hown c1 ht HN HI hie
        have HM : Hid (LM w vR (.slice p t c) (rtf 24) (lks n t) wr ∧ (lks n t).length = t) := Lib.hid (by
          have := M.out
          rw [ht2] at this hll
          rw [hll] at this
          exact ⟨this, hll⟩)
        have ht6 : (t : Int) < 60 := by omega
        have hcv : IntKind.i64.wrap (n : Int) = (n : Int) := by rw [IntKind.wrap_i64]; omega
        have hcw : IntKind.i64.wrap (1 + (n : Int)) = 1 + (n : Int) := by rw [IntKind.wrap_i64]; omega
        clear hi1 hi2 hi3 hi4 ht2 hll M
        go_wp2_with (at_builtin; refine hold_on ?_)
        refine Lib.hid ?_
        refine wpList_append_lies _ rfl _ _ 24 rfl (w.heap.size + 1) 68 il (.agg #[.int .i64 0, .int .i64 0, .int .i64 0, .int .i64 0, .int .i64 0]) 5 40 Try.underlying24 hil hl0 hl1 hl2 rfl (by decide) _ _ _ rfl (hown.alloc _) ⟨wr.heap.size, 0, none⟩ 1 1 [.int .i64 (a : Int), .int .i64 (b : Int), .int .i64 (1 + (n : Int)), .int .i64 1000, .int .i64 1000] rfl rfl ?c1 ?c2 (by decide) ?c3 ?c4 ?c5 _ rfl ?_
        try (case c1 => exact lcells5 _ _ _ _ _ _ _)
        case c2 => intro u hu; simp at hu; rcases hu with rfl | rfl | rfl | rfl | rfl <;> rfl
        case c3 => first | omega | (unfold maxLen; omega)
        case c4 => omega
        case c5 => first | omega | (simp; omega)
        intro g6 cap6 w6 hown6 hg6 hat6 hlt6
        obtain ⟨hb6, hM6⟩ := HM.out.1.addL (y := ⟨(a : Int), (b : Int), 1 + (n : Int), 1000, 1000⟩) (by rw [HM.out.2]; exact hown6) hg6 (hat6.imp id fun e => by rw [e]; try simp)
        have M6 : Hid (LM w vR (.slice (some ⟨g6, 0, none⟩) (t + 1) cap6) (rtf 24) (lks n (ix a (b + 1))) (w6.setCell ⟨w.heap.size, 1, none⟩ (.slice (some ⟨g6, 0, none⟩) (t + 1) cap6))) := Lib.hid (by rw [HI.out, HN.out]; exact hM6)
        obtain ⟨z0, z1⟩ := row_cells hb6
        have y1 := frozen_of_row _ _ 1 _ _ hb6
        clear hown hown6 hg6 hat6 hlt6 hM6 hb6 c0 c1 HM
        go_wp2_with fail
        exact ⟨⟨b + 1, _, by omega, by omega, congrArg _ (by omega), M6⟩, by simp only [intOf]; omega⟩
      · have ht60 : ix a b = 60 := by omega
        have HI := Lib.hid (hi2 ht60)
        rw [ht60] at c1
        have HM : Hid (LM w vR (.slice p 60 c) (rtf 24) (lks n (ix (a + 1) (a + 2))) wr) := Lib.hid (by
          have := M.out
          rw [hll, ht60] at this
          rw [HI.out]
          exact this)
        clear hi1 hi2 hie hll ht ht60 M
        go_wp2_with fail
        exact ⟨⟨a + 1, _, by omega, by omega, congrArg _ (by omega), HM⟩, by simp only [intOf]; omega⟩
    · obtain rfl : b = 25 := by omega
      have HM : Hid (LM w vR (.slice p (ix a 25) c) (rtf 24) (lks n (ix (a + 1) (a + 2))) wr) := Lib.hid (by
        have := M.out
        rw [hll] at this
        rw [← ix_end ha1 hat]
        exact this)
      clear hie hll M
      go_wp2_with fail
      exact ⟨⟨a + 1, _, by omega, by omega, congrArg _ (by omega), HM⟩, by simp only [intOf]; omega⟩
  obtain ⟨R, hR⟩ : ∃ R, rtf 24 = R := ⟨_, rfl⟩
  obtain ⟨L, hL⟩ : ∃ L, lks n 60 = L := ⟨_, rfl⟩
  have HRL := Lib.hid (And.intro hR hL)
  have M1 : Hid (LM w vR vL R L wr) := Lib.hid (by
    have h := M.out
    obtain rfl : a = 25 := by omega
    rw [show ix 25 (25 + 1) = 60 by kernel_rfl, hR, hL] at h
    exact h)
  have hRl : R.length ≤ 24 := by rw [← hR, rtf_len]; omega
  have hRg : 24 ≤ R.length := by rw [← hR, rtf_len]; omega
  have hLl : L.length ≤ 60 := by rw [← hL, lks_len n 60 (Nat.le_refl _)]; omega
  have hLg : 60 ≤ L.length := by rw [← hL, lks_len n 60 (Nat.le_refl _)]; omega
  have hna : ¬ ((a : Int) ≤ 24) := by omega
  obtain ⟨gL, cL, rfl, -, hgL⟩ := M1.out.oL.form (by omega)
  have hcapL := own_caps M1.out.oL
  obtain ⟨gR, capR, rfl, -, hgR⟩ := M1.out.oR.form (by omega)
  have hcapR := own_caps M1.out.oR
  clear M hR hL c0 c1
  obtain ⟨c0, c1⟩ := row_cells M1.out.gb
  have gal := World.grownBy_alloc wr (.cells #[.slice (some ⟨gR, 0, none⟩) R.length capR, .slice (some ⟨gL, 0, none⟩) L.length cL] 26) none
  have HMB := Lib.hid (And.intro (heap_alloc_new wr (.cells #[.slice (some ⟨gR, 0, none⟩) R.length capR, .slice (some ⟨gL, 0, none⟩) L.length cL] 26)) gal)
  clear gal
  go_upto_region 14 with fail
  clear c0 c1 hna
  generalize wr.alloc _ = w5 at *
  obtain ⟨Bm, hBm⟩ : ∃ Bm, Bm = wr.heap.size := ⟨_, rfl⟩
  have HBm := Lib.hid hBm
  rw [← hBm] at HMB ⊢
  clear hBm
  obtain ⟨c0, c1⟩ := row_cells (kept_row M1.out.gb HMB.out.2 (by simp))
  have hoR := M1.out.oR.kept HMB.out.2 (.inr (fun e => by cases e))
  have hcu : capR ≤ 9223372036854775807 := hcapR.2
  have hcl := hcapR.1
  have n0 : ¬ capR = 0 := by omega
  go_wp2_with (at_builtin; refine hold_on ?_)
  refine Lib.hid ?_
  refine wpList_append_full rtC 2 16 (by decide) (fun _ => rfl) 73 23 ir (.agg #[.int .i64 0, .bool false]) Try.underlying23 hir hr0 hr1 hr2 rfl (by decide) rfl _ _ rfl gR R.length R rfl rfl ((hoR.alloc _).cells (g := gR) rfl) ⟨w5.heap.size, 0, none⟩ 1 ⟨99, false⟩ rfl (cells2 _ _ _ _) (by omega) ?_
  intro v' w6 hown6 hg6
  obtain ⟨R2, hR2⟩ : ∃ R2, R2 = R ++ [(⟨99, false⟩ : Rt)] := ⟨_, rfl⟩
  rw [← hR2] at hown6
  have HR2 := Lib.hid hR2
  clear hR2
  obtain ⟨p2, c2, rfl, hc2, hc3⟩ := own_shape hown6
  have hg56 := grown_trans (World.grownBy_alloc w5 _ none) hg6
  have hb6 := kept_row HMB.out.1 hg56 (by simp)
  obtain ⟨z0, z1⟩ := row_cells hb6
  have y0 := frozen_of_row _ _ 0 _ _ hb6
  have hgs : w6.grownBy (w6.setCell ⟨Bm, 0, none⟩ (.slice p2 R2.length c2)) (some Bm) := grown_setCell w6 ⟨Bm, 0, none⟩ _
  have hM7 := M1.out.keep (grown_trans HMB.out.2 hg56)
  have hBlt : ∀ b, b < wr.heap.size → some b ≠ some Bm := fun b hb e => by have := Option.some.inj e; have := HBm.out; omega
  have hszl := M1.out.sz
  have h56 : w5.heap.size ≤ (w5.alloc (.cells #[.int .i64 99, .bool false] 73)).heap.size := by simp
  have hB5 := blk_lt HMB.out.1
  have LG0 : Hid (LG w Bm ⟨R, L, some ⟨gR, 0, none⟩, capR, some ⟨gL, 0, none⟩, cL⟩ ⟨R2, L, p2, c2, some ⟨gL, 0, none⟩, cL⟩ (w6.setCell ⟨Bm, 0, none⟩ (.slice p2 R2.length c2))) := Lib.hid (by
    have q : ∀ b, some b ≠ some Bm ↔ b ≠ Bm := fun b => ⟨fun h e => h (by rw [e]), fun h e => h (Option.some.inj e)⟩
    have hrR := ((rdf_of_own2 M1.out.oR).keep (grown_trans HMB.out.2 hg56)).grown hgs (fun b hb => hBlt b hb.2)
    have hrL := ((rdf_of_own2 M1.out.oL).keep (grown_trans HMB.out.2 hg56)).grown hgs (fun b hb => hBlt b hb.2)
    have hr2 := (rdf_of_own hown6).grown hgs (fun b hb e => by have := Option.some.inj e; omega)
    exact ⟨kept_row hM7.gb hgs (hBlt _ (by omega)), heap_setCell_same w6 Bm 0 _ _ _ hb6, ⟨hrR.mono (fun _ _ => trivial), hrL.mono (fun _ _ => trivial), hcapR, hcapL⟩, ⟨hr2.mono (fun _ _ => trivial), hrL.mono (fun _ _ => trivial), ⟨hc2, hc3⟩, hcapL⟩, grown_new hM7.gr hgs (by have := HBm.out; omega)⟩)
  clear hown6 hg6 hg56 hb6 hgs hM7 hBlt h56 hB5 hoR HMB M1 c0 c1
  go_upto_region 15 with fail
  clear z0 z1 y0
  generalize w6.setCell _ _ = w7 at *
  obtain ⟨c0, c1⟩ := row_cells LG0.out.gb
  have HN := Lib.hid (show (0 : Int) ≤ (n : Int) ∧ (n : Int) < 256 from ⟨by omega, by omega⟩)
  have HE3 : Hid (errV R L ⟨24, 23, 1, 1⟩ = 3) := Lib.hid (by rw [← HRL.out.1, ← HRL.out.2]; exact lim_e3 n HN.out.1 HN.out.2)
  have HE0 : Hid (errV R L ⟨2, 1, 5, 6⟩ = 0) := Lib.hid (by rw [← HRL.out.1, ← HRL.out.2]; exact lim_e0 n HN.out.1 HN.out.2)
  have HFN : Hid (fndL L (lkOf ⟨2, 1, 5, 6⟩) = true) := Lib.hid (by rw [← HRL.out.2]; exact lim_fnd n)
  go_wp2_with fail
  refine (tapplyL_any ⟨R, L, some ⟨gR, 0, none⟩, capR, some ⟨gL, 0, none⟩, cL⟩ ⟨24, 23, 1, 1⟩ _ w7 LG0.out.t (fun h => by cases h) (fun h => by cases h) ⟨rfl, .inr (by rw [HE3.out]; decide)⟩).mono ?_
  rintro e w8 ⟨p3, c3, p4, c4, rfl, -, hg⟩
  simp only
  rw [HE3.out]
  obtain ⟨N3, hN3⟩ : ∃ N, (if (3 : Int) = 0 then R else []).length = N := ⟨_, rfl⟩
  obtain ⟨N4, hN4⟩ : ∃ N, (if (3 : Int) = 0 then linksV L ⟨24, 23, 1, 1⟩ else []).length = N := ⟨_, rfl⟩
  rw [hN3, hN4]
  have LG1 := Lib.hid (LG0.out.keep (grown_trans hg (World.grownBy_alloc w8 (.cells #[.slice p3 N3 c3, .slice p4 N4 c4] 26) none)))
  clear hg LG0 c0 c1 hN3 hN4
  go_upto_region 16 with fail
  generalize w8.alloc _ = w9 at *
  obtain ⟨c0, c1⟩ := row_cells LG1.out.gb
  go_wp2_with fail
  refine (tapplyL_any ⟨R, L, some ⟨gR, 0, none⟩, capR, some ⟨gL, 0, none⟩, cL⟩ ⟨2, 1, 5, 6⟩ _ w9 LG1.out.t (fun h => by cases h) (fun h => by cases h) ⟨rfl, .inl HFN.out⟩).mono ?_
  rintro e w10 ⟨p5, c5, p6, c6, rfl, hTU, hg⟩
  simp only at hTU ⊢
  rw [HE0.out, if_pos rfl, if_pos rfl] at hTU
  rw [HE0.out, if_pos rfl, if_pos rfl]
  obtain ⟨Lu, hLu⟩ : ∃ Lu, linksV L ⟨2, 1, 5, 6⟩ = Lu := ⟨_, rfl⟩
  rw [hLu] at hTU ⊢
  have HLU : Hid (Lu.length = 60 ∧ Lu[0]? = some ⟨1, 2, 6, 5, 1000⟩) := Lib.hid (by rw [← hLu, ← HRL.out.2]; exact lim_links n)
  have hlu1 : Lu.length ≤ 60 := by have := HLU.out.1; omega
  have hlu2 : 60 ≤ Lu.length := by have := HLU.out.1; omega
  have gal := World.grownBy_alloc w10 (.cells #[.slice p5 R.length c5, .slice p6 Lu.length c6] 26) none
  have LG2 := Lib.hid (LG1.out.keep (grown_trans hg gal))
  have HU := Lib.hid (And.intro (heap_alloc_new w10 (.cells #[.slice p5 R.length c5, .slice p6 Lu.length c6] 26)) (hTU.keep gal))
  clear hg LG1 c0 c1 gal hTU hLu
  go_upto_region 17 with fail
  generalize w10.alloc _ = w11 at *
  obtain ⟨Bu, hBu⟩ : ∃ Bu, w10.heap.size = Bu := ⟨_, rfl⟩
  rw [hBu] at HU ⊢
  clear hBu
  obtain ⟨c0, c1⟩ := row_cells LG2.out.gb
  have HCK : Hid (chk R L = 0 ∧ chk R2 L = 3) := Lib.hid ⟨by rw [← HRL.out.1, ← HRL.out.2]; exact lim_chk n HN.out.1 HN.out.2, by rw [HR2.out, ← HRL.out.1]; exact lim_more L⟩
  go_wp2_with fail
  refine (tcheck_any ⟨R, L, some ⟨gR, 0, none⟩, capR, some ⟨gL, 0, none⟩, cL⟩ _ _ LG2.out.t).mono ?_
  rintro e w12 ⟨rfl, hg⟩
  simp only
  rw [HCK.out.1]
  have LG3 := Lib.hid (LG2.out.keep hg)
  have HU3 := Lib.hid (And.intro (kept_row HU.out.1 hg (by simp)) (HU.out.2.keep hg))
  clear hg LG2 HU c0 c1
  obtain ⟨c0, c1⟩ := row_cells LG3.out.mb
  go_wp2_with fail
  refine (tcheck_any ⟨R2, L, p2, c2, some ⟨gL, 0, none⟩, cL⟩ _ _ LG3.out.t2).mono ?_
  rintro e w13 ⟨rfl, hg⟩
  simp only
  rw [HCK.out.2]
  have LG4 := Lib.hid (LG3.out.keep hg)
  have HU4 := Lib.hid (And.intro (kept_row HU3.out.1 hg (by simp)) (HU3.out.2.keep hg))
  clear hg LG3 HU3 c0 c1
  obtain ⟨c0, c1⟩ := row_cells HU4.out.1
  have hl6 : ((Lu.length : Int) == 60) = true := by rw [beq_iff_eq]; omega
  obtain ⟨-, b, off, rfl, -, hcc⟩ := rdl_cells (L := Lu) HU4.out.2.l (by omega)
  obtain ⟨d0, d1, d2, d3, d4⟩ := hcc 0 _ HLU.out.2
  simp only [Nat.zero_mul, Nat.add_zero] at d0 d1 d2 d3 d4
  have l0 : 0 < Lu.length := by omega
  have l1 : (0 : Int) < (Lu.length : Int) := by omega
  clear hcc
  go_wp2_with fail
  refine (tawake_any _).mono ?_
  rintro e w14 ⟨rfl, hg⟩
  have HE := Lib.hid (grown_trans LG4.out.gr hg)
  clear hg
  go_wp2_with fail
  go_ret
  exact ⟨rfl, HE.out⟩
end Go.Proofs.Ytiencdgmnkphjaa

/- Parts of the proof, packed: IdEdg, IdRes, IdOpn, ToOrdM, ToTopK. -/
import Derived.Test.YtlgmankojgjfjaaCk3
import Derived.Test.YtlgmankojgjfjaaCk2
import Derived.Lib.SliceRun
import Derived.Test.YtlgmankojgjfjaaCk1
import Derived.Deep.AppendLies
import Derived.Deep.Onto
import Derived.Laws.OwnMore
/- identify: the edges of a subdomain. -/
namespace Go.Proofs.Ytlgmankojgjfjaa
open Go.RowKit Bs
set_option maxRecDepth 100000 in
theorem info_ed : (Try.prog.info? 56).map (fun i => (i.zero, i.size, i.bytes)) = some (some (.agg #[.int .i64 0, .int .i64 0]), 2, 16) := by kernel_rfl
set_option maxRecDepth 100000 in
theorem ed_row (w : World) (x : Ed) (t : TypeId) (j : Nat) (u : Value) (hu : ([x].flatMap edC)[j]? = some u) : (w.alloc (.cells #[.int .i64 x.r, .int .i64 x.i] t)).cell? ((⟨w.heap.size, 0, none⟩ : Addr).add j) = some u := by
  rw [add_plain]
  have hb := heap_alloc_new w (.cells #[.int .i64 x.r, .int .i64 x.i] t)
  rcases j with _ | _ | j
  · cases hu; exact cell_of_row _ _ _ _ _ _ hb
  · cases hu; exact cell_of_row _ _ _ _ _ _ hb
  · simp [edC] at hu
set_option maxRecDepth 100000 in
theorem own_low {w : World} {b1 b2 size n : Nat} {e : TypeId} {v : Value} {xs : List Value} (h : w.ownsRow b1 e size v n xs) (hb : b2 ≤ b1) : w.ownsRow b2 e size v n xs := by
  refine ⟨h.1, ?_⟩
  rcases h.2 with h1 | ⟨g, cap, cur, h1, h2, h3⟩
  · exact .inl h1
  · exact .inr ⟨g, cap, cur, h1, Nat.le_trans hb h2, h3⟩
/-- While edges are collected: the counts lie in the block B. -/
structure EG (W : World) (q : Nat → Prop) (l : List Od) (p : Option Addr) (c : Nat) (sub : Int) (B : Nat) (v : Value) (M : List Ed) (w : World) : Prop where
  cb : w.heap[B]? = some (.cells (arrV 257 (ivN fun k => cnt l sub k)) 86 (0, 0))
  rd : RdF w (· < W.heap.size) (.slice p l.length c) l.length (l.flatMap odC)
  own : w.ownsRow (B + 1) 56 2 v M.length (M.flatMap edC)
  gr : W.grownBy w none
  lo : W.heap.size ≤ B ∧ B < w.heap.size
section
variable {W w w1 : World} {q : Nat → Prop} {l : List Od} {p : Option Addr} {c B : Nat} {sub : Int} {v v' : Value} {M N : List Ed}
set_option maxRecDepth 100000 in
theorem EG.keep (h : EG W q l p c sub B v M w) (g : w.grownBy w1 none) : EG W q l p c sub B v M w1 :=
  ⟨kept_row h.cb g (by simp), h.rd.keep g, h.own.kept g (by cases v.ownBlock <;> simp), grown_trans h.gr g, h.lo.1, Nat.lt_of_lt_of_le h.lo.2 g.size⟩
set_option maxRecDepth 100000 in
theorem EG.app {o : Obj} (h : EG W q l p c sub B v M w) (hown : w1.ownsRow (B + 1) 56 2 v' N.length (N.flatMap edC)) (hg : (w.alloc o).grownBy w1 v.ownBlock) : EG W q l p c sub B v' N w1 := by
  have h1 := h.keep (World.grownBy_alloc w o none)
  have hne : ∀ b, b ≤ B → some b ≠ v.ownBlock := fun b hb e => by have := (h.own.lt b e.symm).1; omega
  exact ⟨kept_row h1.cb hg (hne B (Nat.le_refl _)), h1.rd.grown hg (fun b hb => hne b (by have := h.lo.1; omega)), hown, grown_any h1.gr hg (fun b hb => hne b (by have := h.lo.1; omega)), h.lo.1, Nat.lt_of_lt_of_le h1.lo.2 hg.size⟩
end
set_option maxRecDepth 100000 in
theorem e1_len (l m : List Od) (sub : Int) : (e1K l m sub).length ≤ m.length := by
  unfold e1K
  rw [List.length_map]
  exact List.length_filter_le _ _
/-- What edges returns: the edges by ID. -/
def EdgPost (l : List Od) (sub : Int) (w : World) (e : Ending) (w' : World) : Prop :=
  ∃ p c, e = .returned (.slice p (e2K l sub 257).length c) ∧ w'.ownsRow w.heap.size 56 2 (.slice p (e2K l sub 257).length c) (e2K l sub 257).length ((e2K l sub 257).flatMap edC) ∧ w.grownBy w' none
set_option maxRecDepth 100000 in
set_option maxHeartbeats 6400000 in
theorem iedges_any (l : List Od) (p : Option Addr) (c : Nat) (sub : Int) (q : Nat → Prop) (w : World) (hR : RdF w q (.slice p l.length c) l.length (l.flatMap odC)) (h0 : ckO l = 0) :
    Calls Try.prog 48 #[.slice p l.length c, .int .i64 sub] w fun e w' => EdgPost l sub w e w' := by
  have HZ := (zero_of_info info_cs).1
  obtain ⟨ie, hie, he0, he1, he2⟩ := info_parts info_ed
  have HR := Lib.hid hR.old
  have H0 := Lib.hid h0
  have hl := (ck_any h0).1
  clear hR h0
  go_enter Try.func48, Try.ntmps48
  go_wp2_with fail
  refine (icount_any l p c sub _ w HR.out (by omega) (fun x hx => ck_id H0.out hx)).mono ?_
  rintro e w1 ⟨rfl, hg⟩
  have G1 := Lib.hid hg
  clear hg
  obtain ⟨F, hF⟩ : ∃ F, arrV 257 (ivN fun k => cnt l sub k) = F := ⟨_, rfl⟩
  have hFs : F.size = 257 := by rw [← hF, arr_size]
  have hst := run_storeCells_new (P := Try.prog) w1 86 (arrV 257 (ivN fun _ => 0)) F (by rw [hFs]; exact (zero_of_info info_cs).2) (by rw [hFs, arr_size]) (by rw [← hF]; exact arr_one fun _ => rfl)
  have HST := Lib.hid hst
  have HFF := Lib.hid hF
  rw [hF]
  clear hst hF
  go_wp2_with fail
  rw [HST.out, Result.andThen_ok, Oper.upon_skip]
  have E0 : Hid (EG w q l p c sub w1.heap.size (.slice none 0 0) (e1K l (l.take 0) sub) (w1.alloc (.cells F 86))) := Lib.hid ⟨by rw [HFF.out]; exact heap_alloc_new _ _, (HR.out.keep G1.out).keep (World.grownBy_alloc w1 _ _), World.ownsRow_nil _ _ _ _, grown_trans G1.out (World.grownBy_alloc w1 _ _), G1.out.size, by simp⟩
  go_upto_region 2 with fail
  generalize w1.alloc _ = w2 at *
  generalize w1.heap.size = B at *
  clear G1 HST HFF hFs HZ
  go_wp2_with fail
  go_loopw [6, 14] (fun v a wr => ∃ k : Nat, k ≤ l.length ∧ a = .int .i64 (k : Int) ∧ (∃ pv nv cv, v = .slice pv nv cv) ∧ Hid (EG w q l p c sub B v (e1K l (l.take k) sub) wr)) (fun _ a _ => l.length - (RowKit.intOf a).toNat)
  case atStart => exact ⟨0, by omega, rfl, ⟨_, _, _, rfl⟩, E0⟩
  case round =>
    obtain ⟨w3, rfl⟩ : ∃ w3, w3 = wr := ⟨_, rfl⟩
    obtain ⟨k, hk, rfl, ⟨pv, nv, cv, rfl⟩, N⟩ := hrel
    clear E0
    by_cases hlt : k < l.length
    · obtain ⟨-, b, off, rfl, -, hc⟩ := od_cells N.out.rd (by omega)
      obtain ⟨x, hx⟩ : ∃ x, l[k]? = some x := ⟨_, List.getElem?_eq_getElem hlt⟩
      obtain ⟨a0, a1, a2, a3⟩ := hc k x hx
      obtain ⟨m, hm1⟩ : ∃ m : Nat, x.i = (m : Int) := ⟨x.i.toNat, by have := ck_id H0.out (List.mem_of_getElem? hx); omega⟩
      have hm2 : m < 257 := by have := ck_id H0.out (List.mem_of_getElem? hx); omega
      have HY : Hid (x.s = sub ∧ cnt l sub x.i = 1 → e1K l (l.take (k + 1)) sub = e1K l (l.take k) sub ++ [edOf x]) := Lib.hid (e1K_yes hx)
      have HN : Hid (¬ (x.s = sub ∧ cnt l sub x.i = 1) → e1K l (l.take (k + 1)) sub = e1K l (l.take k) sub) := Lib.hid (e1K_no hx)
      have hlen := e1_len l (l.take k) sub
      have hlen2 := List.length_take_le k l
      obtain ⟨M, hM⟩ : ∃ M, e1K l (l.take k) sub = M := ⟨_, rfl⟩
      rw [hM] at N HY HN hlen
      clear hM
      have HB := Lib.hid (heap_alloc_new w3 (.cells #[.int .i64 x.r, .int .i64 x.s, .int .i64 x.i, .int .i64 x.l] 50))
      have HG := Lib.hid (World.grownBy_alloc w3 (.cells #[.int .i64 x.r, .int .i64 x.s, .int .i64 x.i, .int .i64 x.l] 50) none)
      have HM1 := Lib.hid hm1
      clear hc hx hm1
      go_upto_region 6 with fail
      clear a0 a1 a2 a3
      generalize w3.alloc _ = w4 at *
      have N1 := Lib.hid (N.out.keep HG.out)
      rw [HM1.out] at HB HY HN
      obtain ⟨d0, d1, d2, d3⟩ := row4i HB.out
      obtain ⟨n, hn⟩ : ∃ n : Nat, cnt l sub m = n := ⟨_, rfl⟩
      have e1 : w4.cell? ⟨B, m, none⟩ = some (.int .i64 (n : Int)) := by rw [← hn]; exact arr_row N1.out.cb hm2
      rw [hn] at HY HN
      obtain rfl : nv = M.length := by
        obtain ⟨p', c', e, _⟩ := own_shape N.out.own
        injection e
      have HO := Lib.hid N1.out.own
      have hbs : B < w4.heap.size := N1.out.lo.2
      clear hn N HG
      by_cases h1 : x.s = sub
      · have h1' : (x.s == sub) = true := by simpa using h1
        by_cases h2 : n = 1
        · have h2' : ((n : Int) == 1) = true := by subst h2; rfl
          have HE : Hid (e1K l (l.take (k + 1)) sub = M ++ [edOf x]) := Lib.hid (HY.out ⟨h1, h2⟩)
          have hed : edOf x = ⟨x.r, (m : Int)⟩ := by unfold edOf; rw [HM1.out]
          rw [hed] at HE
          clear HY HN h1 h2 hed
          go_wp2_with (at_builtin; refine wpList_append_f edC 2 16 (by decide) (fun _ => rfl) ed_one 56 24 ie _ Try.underlying24 hie he0 he1 he2 rfl (by decide) rfl _ _ rfl (B + 1) _ M _ ?c0 rfl (HO.out.alloc _) (some ⟨w4.heap.size, 0, none⟩) 1 1 [⟨x.r, (m : Int)⟩] rfl rfl (by simp) (fun _ => True) (rdf_one _ trivial (fun j u hu => ed_row _ _ _ _ _ hu) 1) (by decide) (by simp; omega) (by simp; omega) ?_)
          try (case c0 => rfl)
          intro v' w5 hown' hg
          have N2 : Hid (EG w q l (some ⟨b, off, none⟩) c sub B v' (e1K l (l.take (k + 1)) sub) w5) := Lib.hid (by rw [HE.out]; exact N1.out.app (by simpa using hown') hg)
          obtain ⟨p1, c1, rfl, -, -⟩ := own_shape hown'
          clear hown' hg HO HE d0 d1 d2 d3 e1
          go_wp2_with fail
          exact ⟨⟨k + 1, by omega, congrArg _ (by omega), ⟨_, _, _, rfl⟩, N2⟩, by simp only [RowKit.intOf]; omega⟩
        · have h2' : ((n : Int) == 1) = false := by
            have : (n : Int) ≠ 1 := by omega
            simpa using this
          have N2 : Hid (EG w q l (some ⟨b, off, none⟩) c sub B _ (e1K l (l.take (k + 1)) sub) w4) := Lib.hid (by rw [HN.out (fun h => h2 h.2)]; exact N1.out)
          clear HY HN h1 h2
          go_wp2_with fail
          exact ⟨⟨k + 1, by omega, congrArg _ (by omega), ⟨_, _, _, rfl⟩, N2⟩, by simp only [RowKit.intOf]; omega⟩
      · have h1' : (x.s == sub) = false := by simpa using h1
        have N2 : Hid (EG w q l (some ⟨b, off, none⟩) c sub B _ (e1K l (l.take (k + 1)) sub) w4) := Lib.hid (by rw [HN.out (fun h => h1 h.1)]; exact N1.out)
        clear HY HN h1
        go_wp2_with fail
        exact ⟨⟨k + 1, by omega, congrArg _ (by omega), ⟨_, _, _, rfl⟩, N2⟩, by simp only [RowKit.intOf]; omega⟩
    · obtain rfl : k = l.length := by omega
      rw [List.take_length] at N
      have hlen := e1_len l l sub
      obtain rfl : nv = (e1K l l sub).length := by
        obtain ⟨p', c', e, _⟩ := own_shape N.out.own
        injection e
      go_wp2_with fail
      refine (isort_any (B + 1) (e1K l l sub) pv cv w3 N.out.own (by omega)).mono ?_
      rintro e w4 ⟨F, rfl, hp, hs, ho, hg⟩
      have hF := edges_eq H0.out sub hp hs
      have hFl : (e1K l l sub).length = F.length := hp.length_eq.symm
      subst hF
      have HF : Hid (EdgPost l sub w (.returned (.slice pv (e2K l sub 257).length cv)) w4) := Lib.hid ⟨_, _, rfl, own_low ho (by have := N.out.lo.1; omega), grown_any N.out.gr hg (fun b hb e => by have := (N.out.own.lt b e.symm).1; have := N.out.lo.1; omega)⟩
      rw [hFl]
      clear hp hs ho hg N hFl
      go_wp2_with fail
      go_ret
      exact HF.out
end Go.Proofs.Ytlgmankojgjfjaa

/- identify: Resolve. -/
namespace Go.Proofs.Ytlgmankojgjfjaa
open Go.RowKit Bs
set_option maxRecDepth 100000 in
theorem info_od : (Try.prog.info? 50).map (fun i => (i.zero, i.size, i.bytes)) = some (some (.agg #[.int .i64 0, .int .i64 0, .int .i64 0, .int .i64 0]), 4, 32) := by kernel_rfl
set_option maxRecDepth 100000 in
theorem info_bs : (Try.prog.info? 88).map (fun i => (i.zero, i.size)) = some (some (.agg (arrV 257 (bvN fun _ => false))), 257) := by kernel_rfl
set_option maxRecDepth 100000 in
set_option maxHeartbeats 1600000 in
theorem icln_any (C : List Od) (p : Option Addr) (c : Nat) (q : Nat → Prop) (w : World) (hR : RdF w q (.slice p C.length c) C.length (C.flatMap odC)) (hn : p = none → c = 0) (hc : C.length ≤ c ∧ c ≤ 9223372036854775807) (hm : C.length ≤ 1000) :
    Calls Try.prog 49 #[.slice p C.length c] w fun e w' => ∃ v, e = .returned v ∧ w'.ownsRow w.heap.size 50 4 v C.length (C.flatMap odC) ∧ w.grownBy w' none := by
  obtain ⟨ii, hii, hi0, hi1, hi2⟩ := info_parts info_od
  cases p with
  | none =>
    obtain rfl := hn rfl
    have h0 : C.length = 0 := by omega
    obtain rfl := List.eq_nil_of_length_eq_zero h0
    clear hR
    have heq : ∀ w : World, (binOp .eql 23 (.slice none 0 0) (.slice none 0 0)).run Try.prog w = .ok (.bool true) w := fun w => Lib.run_eql_slice_nil w _ _ none 0 0 0 0 Try.underlying23
    go_enter Try.func49, Try.ntmps49
    go_wp2_with fail
    go_ret
    exact ⟨_, rfl, World.ownsRow_nil _ _ _ _, grown_refl _ _⟩
  | some ad =>
    have k0 := World.grownBy_alloc w (.cells #[] 50) none
    have hlit : (w.alloc (.cells #[] 50)).ownsRow w.heap.size 50 4 (.slice (some ⟨w.heap.size, 0, none⟩) 0 0) 0 (([] : List Od).flatMap odC) := World.ownsRow_lit w #[] 0 (Nat.le_refl _) (by decide) rfl
    have HL := Lib.hid (And.intro hlit (And.intro k0 (hR.grown k0 (fun _ _ => by simp))))
    clear hlit k0 hR
    have heq : ∀ w : World, (binOp .eql 23 (.slice (some ad) C.length c) (.slice none 0 0)).run Try.prog w = .ok (.bool false) w := fun w => Lib.run_eql_slice_nil w _ _ (some ad) C.length c 0 0 Try.underlying23
    go_enter Try.func49, Try.ntmps49
    go_wp2_with (at_builtin; refine hold_on ?_)
    refine Lib.hid ?_
    refine wpList_append_f odC 4 32 (by decide) (fun _ => rfl) od_one 50 23 ii _ Try.underlying23 hii hi0 hi1 hi2 rfl (by decide) rfl _ _ rfl w.heap.size _ [] 0 rfl rfl HL.out.1 _ _ _ C rfl rfl (fun h => by cases h) q HL.out.2.2 hc.1 (by omega) (by simp) ?_
    intro v' w1 hown hg
    rw [List.nil_append] at hown
    have HO := Lib.hid (And.intro hown (old_grow HL.out.2.1 HL.out.1 (Nat.le_refl _) hg))
    clear hown hg
    go_wp2_with fail
    go_ret
    exact ⟨v', rfl, HO.out.1, HO.out.2⟩
set_option maxRecDepth 100000 in
/-- One cell of a row of the call's own is written. -/
theorem own_odset {w : World} {base g n cap k : Nat} {M : List Od} {x : Od} (h : w.ownsRow base 50 4 (.slice (some ⟨g, 0, none⟩) n cap) M.length (M.flatMap odC)) (hx : M[k]? = some x) (v : Int) :
    (w.setCell ⟨g, k * 4 + 2, none⟩ (.int .i64 v)).ownsRow base 50 4 (.slice (some ⟨g, 0, none⟩) n cap) (M.set k { x with i := v }).length ((M.set k { x with i := v }).flatMap odC) := by
  have hk := (List.getElem?_eq_some_iff.1 hx).1
  rcases h.2 with ⟨e, _⟩ | ⟨g', cap', cur, e, hb, hg, r1, r2, r3, r4⟩
  · cases e
  · injection e with e1 e2 e3
    injection e1 with e1
    injection e1 with e1
    subst e1
    subst e2
    subst e3
    rw [List.length_set]
    refine ⟨by rw [flat_len odC 4 (fun _ => rfl), List.length_set], .inr ⟨g, cap, _, rfl, hb, heap_setCell_same w g _ _ _ _ hg, r1, r2, by simp [r3], ?_⟩⟩
    rw [← od_set M k v x hx, ← r4]
    simp only [Array.toList_setIfInBounds]
    rw [List.take_set]
/-- While conflicts are settled: the list, the counts in B1, what is kept in B2. -/
structure RV (W : World) (l : List Od) (p : Option Addr) (c : Nat) (B1 B2 : Nat) (v : Value) (M : List Od) (f : Nat → Nat) (kf : Nat → Bool) (w : World) : Prop where
  own : w.ownsRow W.heap.size 50 4 v M.length (M.flatMap odC)
  ob : ∀ g, v.ownBlock = some g → g < B1
  cb : w.heap[B1]? = some (.cells (arrV 257 (ivN f)) 86 (0, 0))
  kb : w.heap[B2]? = some (.cells (arrV 257 (bvN kf)) 88 (0, 0))
  rd : RdF w (· < W.heap.size) (.slice p l.length c) l.length (l.flatMap odC)
  gr : W.grownBy w none
  lo : W.heap.size ≤ B1 ∧ B1 < B2
section
variable {W w w1 : World} {l : List Od} {p : Option Addr} {c B1 B2 : Nat} {v : Value} {M : List Od} {f : Nat → Nat} {kf : Nat → Bool}
set_option maxRecDepth 100000 in
theorem RV.keep (h : RV W l p c B1 B2 v M f kf w) (g : w.grownBy w1 none) : RV W l p c B1 B2 v M f kf w1 :=
  ⟨h.own.kept g (by cases v.ownBlock <;> simp), h.ob, kept_row h.cb g (by simp), kept_row h.kb g (by simp), h.rd.keep g, grown_trans h.gr g, h.lo⟩
set_option maxRecDepth 100000 in
theorem RV.putK (h : RV W l p c B1 B2 v M f kf w) {m : Nat} (hm : m < 257) : RV W l p c B1 B2 v M f (fun j => if j = m then true else kf j) (w.setCell ⟨B2, m, none⟩ (.bool true)) := by
  obtain ⟨h1, h2⟩ := arr_put (.bool true) h.kb hm
  have hlo := h.lo
  refine ⟨h.own.kept h2 ?_, h.ob, kept_row h.cb h2 (fun e => by have := Option.some.inj e; omega), ?_, h.rd.grown h2 (fun b hb e => by have := Option.some.inj e; omega), grown_new h.gr h2 (by omega), hlo⟩
  · cases hv : v.ownBlock with
    | none => exact .inl rfl
    | some x => exact .inr fun e => by have := h.ob x hv; have := Option.some.inj e; omega
  · rw [h1]
    congr 2
    refine arr_congr fun j _ => ?_
    unfold bvN
    show (if j = m then _ else _) = Value.bool (if j = m then true else kf j)
    split <;> rfl
set_option maxRecDepth 100000 in
theorem RV.putC (h : RV W l p c B1 B2 v M f kf w) {m : Nat} (hm : m < 257) (n : Nat) : RV W l p c B1 B2 v M (fun j => if j = m then n else f j) kf (w.setCell ⟨B1, m, none⟩ (.int .i64 (n : Int))) := by
  obtain ⟨h1, h2⟩ := arr_put (.int .i64 (n : Int)) h.cb hm
  have hlo := h.lo
  refine ⟨h.own.kept h2 ?_, h.ob, ?_, kept_row h.kb h2 (fun e => by have := Option.some.inj e; omega), h.rd.grown h2 (fun b hb e => by have := Option.some.inj e; omega), grown_new h.gr h2 (by omega), hlo⟩
  · cases hv : v.ownBlock with
    | none => exact .inl rfl
    | some x => exact .inr fun e => by have := h.ob x hv; have := Option.some.inj e; omega
  · rw [h1]
    congr 2
    refine arr_congr fun j _ => ?_
    unfold ivN
    show (if j = m then _ else _) = Value.int .i64 (((if j = m then n else f j : Nat)) : Int)
    split <;> rfl
set_option maxRecDepth 100000 in
theorem RV.putL {g n cap k : Nat} {x : Od} (h : RV W l p c B1 B2 (.slice (some ⟨g, 0, none⟩) n cap) M f kf w) (hx : M[k]? = some x) (i : Int) : RV W l p c B1 B2 (.slice (some ⟨g, 0, none⟩) n cap) (M.set k { x with i := i }) f kf (w.setCell ⟨g, k * 4 + 2, none⟩ (.int .i64 i)) := by
  have h2 := grown_setCell w ⟨g, k * 4 + 2, none⟩ (.int .i64 i)
  have hg := h.ob g rfl
  have hlo := h.lo
  have hge := (h.own.lt g rfl).1
  exact ⟨own_odset h.own hx i, h.ob, kept_row h.cb h2 (fun e => by have : B1 = g := Option.some.inj e; omega), kept_row h.kb h2 (fun e => by have : B2 = g := Option.some.inj e; omega), h.rd.grown h2 (fun b hb e => by have : b = g := Option.some.inj e; omega), grown_new h.gr h2 hge, hlo⟩
end
/-- What Resolve returns. -/
def ResPost (l : List Od) (sub : Int) (w : World) (e : Ending) (w' : World) : Prop :=
  ∃ p c, e = .returned (.tuple #[.slice p (rsO l sub).length c, .int .i64 (rsX l sub)]) ∧ w'.ownsRow w.heap.size 50 4 (.slice p (rsO l sub).length c) (rsO l sub).length ((rsO l sub).flatMap odC) ∧ w.grownBy w' none
set_option maxRecDepth 100000 in
theorem res_no {l : List Od} {sub x : Int} (h : rsX l sub = x) (h2 : rsO l sub = []) {w w' : World} (g : w.grownBy w' none) : ResPost l sub w (.returned (.tuple #[.slice none 0 0, .int .i64 x])) w' := by
  refine ⟨none, 0, by rw [h, h2]; rfl, ?_, g⟩
  rw [h2]
  exact World.ownsRow_nil _ _ _ _
end Go.Proofs.Ytlgmankojgjfjaa

/- Claims and plans that come in as arguments. -/
namespace Go.Proofs.Ytlgmankojgjfjaa
open Go.ChangeShapes Go.WideShapes Go.ChangeAt Go.RowKit Go.Joins Bs
set_option maxRecDepth 100000 in
theorem kit_cellsow : Try.prog.cellsOf 50 = 4 := by kernel_rfl
set_option maxRecDepth 100000 in
theorem kit_cellscl : Try.prog.cellsOf 48 = 3 := by kernel_rfl
set_option maxRecDepth 100000 in
theorem kit_cellsed : Try.prog.cellsOf 56 = 2 := by kernel_rfl
set_option maxRecDepth 100000 in
theorem kit_cellseds : Try.prog.cellsOf 24 = 1 := by kernel_rfl
set_option maxRecDepth 100000 in
theorem kit_cellspl : Try.prog.cellsOf 26 = 3 := by kernel_rfl
set_option maxRecDepth 100000 in
theorem ilist2 {A : Type} {xs : List A} (h : xs.length = 2) : ∃ x0 x1, xs = [x0, x1] := by
  match xs, h with
  | [x0, x1], _ => exact ⟨x0, x1, rfl⟩
set_option maxRecDepth 100000 in
theorem ilist3 {A : Type} {xs : List A} (h : xs.length = 3) : ∃ x0 x1 x2, xs = [x0, x1, x2] := by
  match xs, h with
  | [x0, x1, x2], _ => exact ⟨x0, x1, x2, rfl⟩
set_option maxRecDepth 100000 in
theorem ilist4 {A : Type} {xs : List A} (h : xs.length = 4) : ∃ x0 x1 x2 x3, xs = [x0, x1, x2, x3] := by
  match xs, h with
  | [x0, x1, x2, x3], _ => exact ⟨x0, x1, x2, x3, rfl⟩
section
variable {H : Type} {enc : TypeId × Value → H} {W : World} {base : Nat} {v : Value} {d : DataW H} {ps : List MemPlace}
set_option maxRecDepth 100000 in
/-- A slice of structs of k cells. -/
theorem rowsI_trod {α : Type} (f : α → List Value) (P : α → Prop) (k : Nat) (hk : 0 < k) (hf : ∀ x, (f x).length = k) (x0 : α) {E T : TypeId} (hT : Try.prog.underlying T = some (.slice E)) (hc : Try.prog.cellsOf E = k)
    (hE : ∀ {fuel : Nat} {cs : List Value} {y : DataW H × List MemPlace}, DataW.trod enc Try.prog W 0 (fun _ => true) true fuel E cs = some y → ∃ r : α, cs = f r ∧ P r)
    {fuel : Nat} {c0 : Value} {y : DataW H × List MemPlace} (h : DataW.trod enc Try.prog W 0 (fun _ => true) true fuel T [c0] = some y) :
    ∃ (l : List α) (p : Option Addr) (c : Nat), c0 = .slice p l.length c ∧ RdF W (· < W.heap.size) (.slice p l.length c) l.length (l.flatMap f) ∧ l.length ≤ c ∧ c ≤ 9223372036854775807 ∧ (p = none → c = 0) ∧ ∀ x ∈ l, P x := by
  rcases DataW.trod_slice hT h with ⟨hcs, _⟩ | ⟨a, len, cap, elems, rest, n, _, hcs, _, _, hl, hm, hlen, hel, _, _⟩
  · obtain rfl : c0 = .slice none 0 0 := by simpa using hcs
    exact ⟨[], none, 0, rfl, rdf_nil _ _ _ _, Nat.le_refl _, by omega, fun _ => rfl, fun x h => by cases h⟩
  · obtain rfl : c0 = .slice (some a) len cap := by simpa using hcs
    rw [hc] at hel
    have each : ∀ i, ∃ l : α, i < len → (∀ j, j < k → W.cell? ((a.add (i * k)).add j) = (f l)[j]?) ∧ P l := by
      intro i
      by_cases hi : i < len
      · have h1 := hel i hi
        rw [List.getElem?_eq_getElem (by omega)] at h1
        obtain ⟨cs, hc1, hc2⟩ := Option.bind_eq_some_iff.1 h1
        obtain ⟨l, rfl, hPl⟩ := hE hc2
        obtain ⟨_, _, hc3⟩ := World.cells?_some hc1
        exact ⟨l, fun _ => ⟨fun j hj => hc3 j hj, hPl⟩⟩
      · exact ⟨x0, fun h => absurd h hi⟩
    obtain ⟨g, hfn2⟩ := Classical.axiomOfChoice each
    have hfn : ∀ i, i < len → ∀ j, j < k → W.cell? ((a.add (i * k)).add j) = (f (g i))[j]? := fun i hi => (hfn2 i hi).1
    have hll : ((List.range len).map g).length = len := by simp
    refine ⟨(List.range len).map g, some a, cap, by rw [hll], ?_, by rw [hll]; exact hl, hm, (fun e => by cases e), fun x hx => by
      obtain ⟨i, hi, rfl⟩ := List.mem_map.1 hx
      exact (hfn2 i (List.mem_range.1 hi)).2⟩
    rw [hll]
    refine ⟨some a, cap, rfl, fun hne => ?_⟩
    have hpos : 0 < len := by
      rcases Nat.eq_zero_or_pos len with h0 | h0
      · subst h0
        exact absurd rfl hne
      · exact h0
    obtain ⟨b, off, spot⟩ := a
    have hget : ∀ i, i < len → ∀ j, j < k → ∃ u, (f (g i))[j]? = some u := fun i _ j hj => ⟨_, List.getElem?_eq_getElem (by rw [hf]; exact hj)⟩
    have hspot : spot = none := by
      obtain ⟨u, hu⟩ := hget 0 hpos 0 hk
      have := (hfn 0 hpos 0 hk).trans hu
      simpa [Addr.add] using World.cell?_spot this
    subst hspot
    have hcell : ∀ i j, i < len → j < k → W.cell? ⟨b, off + (i * k + j), none⟩ = (f (g i))[j]? := by
      intro i j hi hj
      have := hfn i hi j hj
      rw [Go.WideShapes.add_plain, Go.WideShapes.add_plain] at this
      rw [← this]
      congr 2
      omega
    refine ⟨b, off, rfl, ?_, fun j x hj => ?_⟩
    · obtain ⟨u, hu⟩ := hget 0 hpos 0 hk
      exact World.block_lt_of_cell? W ⟨b, off + (0 * k + 0), none⟩ ((hcell 0 0 hpos hk).trans hu)
    have hj2 : j < len * k := by
      have := (List.getElem?_eq_some_iff.1 hj).1
      rw [flat_len f k hf, hll] at this
      exact this
    have hm1 : j / k < len := (Nat.div_lt_iff_lt_mul hk).2 hj2
    have hm2 : j % k < k := Nat.mod_lt _ hk
    have hd : j = j / k * k + j % k := by rw [Nat.mul_comm]; exact (Nat.div_add_mod j k).symm
    have hat : ((List.range len).map g)[j / k]? = some (g (j / k)) := by
      rw [List.getElem?_map, List.getElem?_range hm1]; rfl
    rw [hd] at hj ⊢
    rw [flat_at f k hf _ _ _ _ hat hm2] at hj
    rw [hcell _ _ hm1 hm2]
    exact hj
set_option maxRecDepth 100000 in
theorem ow_trod {fuel : Nat} {cs : List Value} {y : DataW H × List MemPlace} (h : DataW.trod enc Try.prog W 0 (fun _ => true) true fuel 50 cs = some y) : ∃ x : Od, cs = odC x ∧ True := by
  obtain ⟨xs, n, _, _, hl, hlen, hf⟩ := DataW.trod_struct Try.underlying50 h
  rw [kit_cellsow] at hl
  obtain ⟨c0, c1, c2, c3, rfl⟩ := ilist4 hl
  obtain ⟨x0, x1, rfl⟩ := ilist2 hlen
  have h0 : DataW.trod enc Try.prog W 0 (fun _ => true) true n 3 [c0] = some x0 := by simpa [Value.cells, kit_cellsInt] using hf 0 _ rfl
  have h1 : DataW.trod enc Try.prog W 0 (fun _ => true) true n 48 [c1, c2, c3] = some x1 := by simpa [Value.cells, kit_cellsInt, kit_cellscl] using hf 1 _ rfl
  obtain ⟨m0, e0, _, w0⟩ := DataW.trod_int Try.underlying3 h0
  obtain rfl : c0 = .int .i64 m0 := by simpa using e0
  obtain ⟨ys, k, _, _, hl2, hlen2, hg⟩ := DataW.trod_struct Try.underlying48 h1
  obtain ⟨y0, y1, y2, rfl⟩ := ilist3 hlen2
  have g0 : DataW.trod enc Try.prog W 0 (fun _ => true) true k 3 [c1] = some y0 := by simpa [Value.cells, kit_cellsInt] using hg 0 _ rfl
  have g1 : DataW.trod enc Try.prog W 0 (fun _ => true) true k 3 [c2] = some y1 := by simpa [Value.cells, kit_cellsInt] using hg 1 _ rfl
  have g2 : DataW.trod enc Try.prog W 0 (fun _ => true) true k 3 [c3] = some y2 := by simpa [Value.cells, kit_cellsInt] using hg 2 _ rfl
  obtain ⟨m1, e1, _, w1⟩ := DataW.trod_int Try.underlying3 g0
  obtain rfl : c1 = .int .i64 m1 := by simpa using e1
  obtain ⟨m2, e2, _, w2⟩ := DataW.trod_int Try.underlying3 g1
  obtain rfl : c2 = .int .i64 m2 := by simpa using e2
  obtain ⟨m3, e3, _, w3⟩ := DataW.trod_int Try.underlying3 g2
  obtain rfl : c3 = .int .i64 m3 := by simpa using e3
  exact ⟨⟨m0, m1, m2, m3⟩, rfl, trivial⟩
set_option maxRecDepth 100000 in
theorem ed_trod {fuel : Nat} {cs : List Value} {y : DataW H × List MemPlace} (h : DataW.trod enc Try.prog W 0 (fun _ => true) true fuel 56 cs = some y) : ∃ x : Ed, cs = edC x ∧ True := by
  obtain ⟨xs, n, _, _, hl, hlen, hf⟩ := DataW.trod_struct Try.underlying56 h
  rw [kit_cellsed] at hl
  obtain ⟨c0, c1, rfl⟩ := ilist2 hl
  obtain ⟨x0, x1, rfl⟩ := ilist2 hlen
  have h0 : DataW.trod enc Try.prog W 0 (fun _ => true) true n 3 [c0] = some x0 := by simpa [Value.cells, kit_cellsInt] using hf 0 _ rfl
  have h1 : DataW.trod enc Try.prog W 0 (fun _ => true) true n 3 [c1] = some x1 := by simpa [Value.cells, kit_cellsInt] using hf 1 _ rfl
  obtain ⟨m0, e0, _, w0⟩ := DataW.trod_int Try.underlying3 h0
  obtain rfl : c0 = .int .i64 m0 := by simpa using e0
  obtain ⟨m1, e1, _, w1⟩ := DataW.trod_int Try.underlying3 h1
  obtain rfl : c1 = .int .i64 m1 := by simpa using e1
  exact ⟨⟨m0, m1⟩, rfl, trivial⟩
set_option maxRecDepth 100000 in
theorem opn_owneds (hval : Value.okWide Try.prog W .any base 23 v) (h : DataW.Trod enc Try.prog W 0 (fun _ => true) true 23 v d ps) :
    ∃ (l : List Od) (p : Option Addr) (c : Nat), v = .slice p l.length c ∧ RdF W (· < W.heap.size) (.slice p l.length c) l.length (l.flatMap odC) ∧ (p = none → c = 0) ∧ l.length ≤ c ∧ c ≤ 9223372036854775807 := by
  obtain ⟨p0, n0, c0, rfl⟩ := okWide_slice Try.underlying23 hval
  obtain ⟨fuel, hf⟩ := h
  obtain ⟨l, p, c, e, h1, h2, h3, h4, -⟩ := rowsI_trod odC (fun _ => True) 4 (by decide) (fun _ => rfl) ⟨0, 0, 0, 0⟩ Try.underlying23 kit_cellsow ow_trod (by simpa [Value.cells] using hf)
  injection e with e1 e2 e3
  subst e1
  subst e2
  subst e3
  exact ⟨l, p0, c0, rfl, h1, h4, h2, h3⟩
set_option maxRecDepth 100000 in
theorem opn_plan (hval : Value.okWide Try.prog W .any base 26 v) (h : DataW.Trod enc Try.prog W 0 (fun _ => true) true 26 v d ps) :
    ∃ (s n : Int) (l : List Ed) (p : Option Addr) (c : Nat), v = .agg #[.int .i64 s, .int .i64 n, .slice p l.length c] ∧ RdF W (· < W.heap.size) (.slice p l.length c) l.length (l.flatMap edC) ∧ (p = none → c = 0) ∧ l.length ≤ c ∧ c ≤ 9223372036854775807 := by
  have hs := Try.underlying26
  obtain ⟨cs, rfl, hcs⟩ := okWide_struct hs hval
  obtain ⟨fuel, hf0⟩ := h
  obtain ⟨xs, n, _, _, hl, hlen, hf⟩ := DataW.trod_struct hs hf0
  rw [kit_cellspl] at hl
  obtain ⟨c0, c1, c2, h3⟩ := ilist3 hl
  obtain ⟨x0, x1, x2, rfl⟩ := ilist3 hlen
  obtain rfl : cs = #[c0, c1, c2] := by
    apply Array.ext'
    simpa [Value.cells] using h3
  have h0 : DataW.trod enc Try.prog W 0 (fun _ => true) true n 3 [c0] = some x0 := by simpa [Value.cells, kit_cellsInt] using hf 0 _ rfl
  have h1 : DataW.trod enc Try.prog W 0 (fun _ => true) true n 3 [c1] = some x1 := by simpa [Value.cells, kit_cellsInt] using hf 1 _ rfl
  have h2 : DataW.trod enc Try.prog W 0 (fun _ => true) true n 24 [c2] = some x2 := by simpa [Value.cells, kit_cellsInt, kit_cellseds] using hf 2 _ rfl
  obtain ⟨m0, e0, _, w0⟩ := DataW.trod_int Try.underlying3 h0
  obtain rfl : c0 = .int .i64 m0 := by simpa using e0
  obtain ⟨m1, e1, _, w1⟩ := DataW.trod_int Try.underlying3 h1
  obtain rfl : c1 = .int .i64 m1 := by simpa using e1
  obtain ⟨l, p, c, rfl, r1, r2, r3, r4, -⟩ := rowsI_trod edC (fun _ => True) 2 (by decide) (fun _ => rfl) ⟨0, 0⟩ Try.underlying24 kit_cellsed ed_trod h2
  exact ⟨m0, m1, l, p, c, rfl, r1, r4, r2, r3⟩
end
end Go.Proofs.Ytlgmankojgjfjaa

/- Links in order, and the tape's topologies: the mathematics. -/
namespace Go.Proofs.Ytlgmankojgjfjaa
open Go.RowKit Bs
/-- A link laid where the lesser ones end. -/
def insL (O : List Lk) (y : Lk) : List Lk := O.takeWhile (fun x => ltL x y) ++ y :: O.dropWhile (fun x => ltL x y)
def ordL (L : List Lk) : List Lk := L.foldl insL []
set_option maxRecDepth 100000 in
theorem insL_cons (a : Lk) (t : List Lk) (y : Lk) : insL (a :: t) y = if ltL a y then a :: insL t y else y :: a :: t := by
  unfold insL
  rw [List.takeWhile_cons, List.dropWhile_cons]
  split <;> rfl
set_option maxRecDepth 100000 in
theorem insL_len (O : List Lk) (y : Lk) : (insL O y).length = O.length + 1 := by
  unfold insL
  rw [List.length_append, List.length_cons]
  have := congrArg List.length (List.takeWhile_append_dropWhile (p := fun x => ltL x y) (l := O))
  rw [List.length_append] at this
  omega
set_option maxRecDepth 100000 in
theorem ordL_take (L : List Lk) (k : Nat) (y : Lk) (h : L[k]? = some y) : ordL (L.take (k + 1)) = insL (ordL (L.take k)) y := by
  unfold ordL
  rw [List.take_add_one, h, List.foldl_append]
  rfl
set_option maxRecDepth 100000 in
theorem foldl_insL_len : ∀ (L O : List Lk), (L.foldl insL O).length = O.length + L.length
  | [], O => by simp
  | a :: t, O => by rw [List.foldl_cons, foldl_insL_len t, insL_len, List.length_cons]; omega
set_option maxRecDepth 100000 in
theorem ordL_len (L : List Lk) : (ordL L).length = L.length := by
  unfold ordL
  rw [foldl_insL_len]; simp
set_option maxRecDepth 100000 in
theorem insL_at (y : Lk) : ∀ (O : List Lk) (j : Nat), j ≤ O.length → (∀ i x, i < j → O[i]? = some x → ltL x y = true) → (∀ x, O[j]? = some x → ltL x y = false) → insL O y = O.take j ++ y :: O.drop j
  | [], j, hj, _, _ => by
    obtain rfl : j = 0 := by simpa using hj
    rfl
  | a :: t, 0, _, _, h2 => by
    rw [insL_cons, h2 a rfl]
    rfl
  | a :: t, j + 1, hj, h1, h2 => by
    rw [insL_cons, if_pos (h1 0 a (by omega) rfl), insL_at y t j (by simpa using hj) (fun i x hi hx => h1 (i + 1) x (by omega) (by simpa using hx)) (fun x hx => h2 x (by simpa using hx))]
    rfl
set_option maxRecDepth 100000 in
theorem mem_insL (y z : Lk) : ∀ O : List Lk, z ∈ insL O y ↔ z = y ∨ z ∈ O
  | [] => by simp [insL]
  | a :: t => by
    rw [insL_cons]
    split
    · rw [List.mem_cons, List.mem_cons, mem_insL y z t]
      constructor
      · rintro (h | h | h)
        · exact .inr (.inl h)
        · exact .inl h
        · exact .inr (.inr h)
      · rintro (h | h | h)
        · exact .inr (.inl h)
        · exact .inl h
        · exact .inr (.inr h)
    · simp
set_option maxRecDepth 100000 in
theorem ltL_trans {x y z : Lk} (h1 : ltL x y = true) (h2 : ltL y z = true) : ltL x z = true := by
  unfold ltL at *
  have h1 := of_decide_eq_true h1
  have h2 := of_decide_eq_true h2
  exact decide_eq_true (by omega)
/-- The ends differ. -/
def EndsNe (x y : Lk) : Prop := x.a ≠ y.a ∨ x.b ≠ y.b
set_option maxRecDepth 100000 in
theorem ltL_flip {x y : Lk} (h : ltL x y = false) (hn : EndsNe x y) : ltL y x = true := by
  unfold ltL at *
  have h := of_decide_eq_false h
  unfold EndsNe at hn
  exact decide_eq_true (by omega)
set_option maxRecDepth 100000 in
theorem insL_pair (y : Lk) : ∀ O : List Lk, O.Pairwise (fun x z => ltL x z = true) → (∀ x ∈ O, EndsNe x y) → (insL O y).Pairwise (fun x z => ltL x z = true)
  | [], _, _ => by simp [insL]
  | a :: t, hp, hn => by
    rw [insL_cons]
    obtain ⟨h1, h2⟩ := List.pairwise_cons.1 hp
    split
    · next hlt =>
      refine List.pairwise_cons.2 ⟨fun z hz => ?_, insL_pair y t h2 (fun x hx => hn x (List.mem_cons_of_mem _ hx))⟩
      rcases (mem_insL y z t).1 hz with rfl | hz
      · exact hlt
      · exact h1 z hz
    · next hlt =>
      have hya := ltL_flip (by simpa using hlt) (hn a (by simp))
      refine List.pairwise_cons.2 ⟨fun z hz => ?_, hp⟩
      rcases List.mem_cons.1 hz with rfl | hz
      · exact hya
      · exact ltL_trans hya (h1 z hz)
set_option maxRecDepth 100000 in
theorem foldl_insL_pair : ∀ (L O : List Lk), O.Pairwise (fun x z => ltL x z = true) → L.Pairwise EndsNe → (∀ x ∈ O, ∀ y ∈ L, EndsNe x y) → (L.foldl insL O).Pairwise (fun x z => ltL x z = true)
  | [], O, h, _, _ => h
  | a :: t, O, h, hL, hx => by
    obtain ⟨h1, h2⟩ := List.pairwise_cons.1 hL
    rw [List.foldl_cons]
    refine foldl_insL_pair t _ (insL_pair a O h (fun x hx1 => hx x hx1 a (by simp))) h2 (fun x hx1 y hy => ?_)
    rcases (mem_insL a x O).1 hx1 with rfl | h3
    · exact h1 y hy
    · exact hx x h3 y (List.mem_cons_of_mem _ hy)
set_option maxRecDepth 100000 in
theorem foldl_insL_mem (z : Lk) : ∀ (L O : List Lk), z ∈ L.foldl insL O ↔ z ∈ O ∨ z ∈ L
  | [], O => by simp
  | a :: t, O => by
    rw [List.foldl_cons, foldl_insL_mem z t, mem_insL, List.mem_cons]
    constructor
    · rintro ((h | h) | h)
      · exact .inr (.inl h)
      · exact .inl h
      · exact .inr (.inr h)
    · rintro (h | h | h)
      · exact .inl (.inr h)
      · exact .inl (.inl h)
      · exact .inr h
set_option maxRecDepth 100000 in
theorem ordL_mem (L : List Lk) (z : Lk) : z ∈ ordL L ↔ z ∈ L := by
  unfold ordL
  rw [foldl_insL_mem]
  simp
set_option maxRecDepth 100000 in
theorem ordL_pair (L : List Lk) (h : L.Pairwise EndsNe) : (ordL L).Pairwise (fun x z => ltL x z = true) :=
  foldl_insL_pair L [] List.Pairwise.nil h (fun x hx => by simp at hx)
set_option maxRecDepth 100000 in
theorem asc_of_pair {α : Type} (f : α → α → Bool) : ∀ l : List α, l.Pairwise (fun x z => f x z = true) → ascB f l = true
  | [], _ => rfl
  | [a], _ => rfl
  | a :: b :: t, h => by
    obtain ⟨h1, h2⟩ := List.pairwise_cons.1 h
    rw [ascB, h1 b (by simp), asc_of_pair f (b :: t) h2]
    rfl
/-- The routers 1 to k. -/
def rts (k : Nat) : List Rt := (List.range k).map fun (i : Nat) => (⟨(i : Int) + 1, true⟩ : Rt)
set_option maxRecDepth 100000 in
theorem rts_succ (k : Nat) : rts (k + 1) = rts k ++ [⟨(k : Int) + 1, true⟩] := by
  unfold rts
  rw [List.range_succ, List.map_append]
  rfl
set_option maxRecDepth 100000 in
theorem rts_len (k : Nat) : (rts k).length = k := by unfold rts; simp
set_option maxRecDepth 100000 in
theorem rts_mem (k : Nat) (r : Rt) : r ∈ rts k ↔ ∃ i : Nat, i < k ∧ r = ⟨(i : Int) + 1, true⟩ := by
  unfold rts
  rw [List.mem_map]
  constructor
  · rintro ⟨i, hi, rfl⟩; exact ⟨i, List.mem_range.1 hi, rfl⟩
  · rintro ⟨i, hi, rfl⟩; exact ⟨i, List.mem_range.2 hi, rfl⟩
/-- Links of the routers 1 to k, each before (b, a) in the order that the tape makes them, no two with the same ends. -/
structure GoodL (k b a : Int) (L : List Lk) : Prop where
  ok : ∀ l ∈ L, (1 ≤ l.a ∧ l.a < l.b ∧ l.b ≤ k) ∧ wrNum l = false
  lt : ∀ l ∈ L, l.b < b ∨ (l.b = b ∧ l.a < a)
  ne : L.Pairwise EndsNe
set_option maxRecDepth 100000 in
theorem GoodL.nil (k b a : Int) : GoodL k b a [] := ⟨by simp, by simp, List.Pairwise.nil⟩
set_option maxRecDepth 100000 in
theorem GoodL.next {k b a : Int} {L : List Lk} (h : GoodL k b a L) : GoodL k b (a + 1) L := ⟨h.ok, fun l hl => by rcases h.lt l hl with h1 | h1 <;> omega, h.ne⟩
set_option maxRecDepth 100000 in
theorem GoodL.row {k b a : Int} {L : List Lk} (h : GoodL k b a L) : GoodL k (b + 1) 1 L := ⟨h.ok, fun l hl => by rcases h.lt l hl with h1 | h1 <;> omega, h.ne⟩
set_option maxRecDepth 100000 in
theorem GoodL.add {k b a : Int} {L : List Lk} (h : GoodL k b a L) (y : Lk) (ha : y.a = a) (hb : y.b = b) (h1 : 1 ≤ a) (h2 : a < b) (h3 : b ≤ k) (hw : wrNum y = false) : GoodL k b (a + 1) (L ++ [y]) := by
  refine ⟨fun l hl => ?_, fun l hl => ?_, ?_⟩
  · rcases List.mem_append.1 hl with hl | hl
    · exact h.ok l hl
    · obtain rfl : l = y := by simpa using hl
      exact ⟨by omega, hw⟩
  · rcases List.mem_append.1 hl with hl | hl
    · rcases h.lt l hl with h4 | h4 <;> omega
    · obtain rfl : l = y := by simpa using hl
      omega
  · refine List.pairwise_append.2 ⟨h.ne, by simp, fun x hx z hz => ?_⟩
    obtain rfl : z = y := by simpa using hz
    unfold EndsNe
    rcases h.lt x hx with h4 | h4 <;> omega
set_option maxRecDepth 100000 in
theorem chk_good {k : Nat} {b a : Int} {L : List Lk} (h : GoodL k b a L) (hk : k ≤ 24) (hl : L.length ≤ 60) : chk (rts k) (ordL L) = 0 := by
  unfold chk
  rw [if_neg (by rw [rts_len, ordL_len]; omega), if_neg, if_neg, if_neg, if_neg, if_neg, if_neg]
  · rw [asc_of_pair ltL _ (ordL_pair L h.ne)]
    simp
  · rw [List.any_eq_true]
    rintro ⟨l, hl1, hw⟩
    have := (h.ok l ((ordL_mem L l).1 hl1)).1
    unfold wrEnd at hw
    have := of_decide_eq_true hw
    omega
  · rw [List.any_eq_true]
    rintro ⟨l, hl1, hw⟩
    have := (h.ok l ((ordL_mem L l).1 hl1)).1
    have hh : ∀ x : Int, 1 ≤ x → x ≤ k → hasR (rts k) x = true := fun x h1 h2 => by
      unfold hasR
      refine List.any_eq_true.2 ⟨⟨x, true⟩, (rts_mem k _).2 ⟨(x - 1).toNat, by omega, ?_⟩, by simp⟩
      congr 1
      omega
    unfold unk at hw
    rw [hh _ this.1 (by omega), hh _ (by omega) this.2.2] at hw
    simp at hw
  · rw [List.any_eq_true]
    rintro ⟨l, hl1, hw⟩
    rw [(h.ok l ((ordL_mem L l).1 hl1)).2] at hw
    cases hw
  · rw [asc_of_pair ltR (rts k)]
    · simp
    · unfold rts
      rw [List.pairwise_map]
      exact List.pairwise_lt_range.imp (fun {a b} hab => decide_eq_true (by show (a : Int) + 1 < (b : Int) + 1; omega))
  · rw [List.any_eq_true]
    rintro ⟨r, hr, hw⟩
    obtain ⟨i, hi, rfl⟩ := (rts_mem k r).1 hr
    have : wrId ⟨(i : Int) + 1, true⟩ = false := by
      unfold wrId
      rw [decide_eq_true (by constructor <;> (dsimp; omega))]
      rfl
    rw [this] at hw
    cases hw
/-- What the tape says of a topology of at most 'most' routers. -/
def TopOf (most : Nat) (n : Int) (R : List Rt) (L : List Lk) : Prop :=
  1 ≤ R.length ∧ (R.length ≤ most + 1 ∨ 25 ≤ R.length) ∧ R.length ≤ most + 25 ∧ L.length ≤ 60 ∧ (n ≤ 0 → chk R L = 0 ∧ R.length ≤ most)
end Go.Proofs.Ytlgmankojgjfjaa

/- While the tape makes a topology. -/
namespace Go.Proofs.Ytlgmankojgjfjaa
open Go.RowKit Bs
/-- While a topology is made: its block holds uR, uL; the routers and the links lie in rows of the call's own, vR and vL. -/
structure TK (a : Nat) (W : World) (uR uL vR vL : Value) (R : List Rt) (L : List Lk) (w : World) : Prop where
  gb : w.heap[W.heap.size + 1]? = some (.cells #[uR, uL] 35 (0, 0))
  rb : w.heap[W.heap.size]? = some (.cells #[.slice none 0 0, .slice none 0 0] 35 (0, 0))
  oR : w.ownsRow (W.heap.size + 2) 54 2 vR R.length (R.flatMap rtC)
  oL : w.ownsRow (W.heap.size + 2) 58 5 vL L.length (L.flatMap lkC)
  ap : ∀ g, vR.ownBlock = some g → vL.ownBlock ≠ some g
  st : St a W w
  sz : W.heap.size + 2 ≤ w.heap.size
set_option maxRecDepth 100000 in
theorem own_other {w w' : World} {base size n b : Nat} {e : TypeId} {v : Value} {xs : List Value} (h : w.ownsRow base e size v n xs) (g : w.grownBy w' (some b)) (hb : b < base) : w'.ownsRow base e size v n xs :=
  h.kept g (by
    cases hv : v.ownBlock with
    | none => exact .inl rfl
    | some k => exact .inr (fun e => by have e2 := Option.some.inj e; have := (h.lt k hv).1; omega))
set_option maxRecDepth 100000 in
theorem St.storeT {a b : Nat} {W w w1 : World} (h : St a W w) (g : w.grownBy w1 (some b)) (hb : W.heap.size ≤ b) (ha : a < W.heap.size) : St a W w1 := by
  refine ⟨⟨g.os.trans h.1.os, g.tape.trans h.1.tape, g.output.trans h.1.output, Nat.le_trans h.1.size g.size, fun i hi hia => (g.block i (Nat.lt_of_lt_of_le hi h.1.size) (fun e => by have := Option.some.inj e; omega)).trans (h.1.block i hi hia)⟩, ?_⟩
  obtain ⟨v, n, i, T⟩ := h.2
  have hlt : a < w.heap.size := Nat.lt_of_lt_of_le ha h.1.size
  have hk : w1.heap[a]? = w.heap[a]? := g.block a hlt (fun e => by have := Option.some.inj e; omega)
  refine ⟨v, n, i, (World.cell?_of_block (a := ⟨a, 0, none⟩) hk).trans T.l, (World.cell?_of_block (a := ⟨a, 1, none⟩) hk).trans T.p, (World.frozen?_of_block (a := ⟨a, 1, none⟩) hk).trans T.fr, ?_, T.le, T.len⟩
  obtain ⟨p, c, hv, hc⟩ := T.ints
  refine ⟨p, c, hv, fun hn => ?_⟩
  obtain ⟨b1, off, hp, hb1, hx⟩ := hc hn
  refine ⟨b1, off, hp, hb1, fun i hi => ?_⟩
  obtain ⟨x, hx1, hcell⟩ := hx i hi
  exact ⟨x, hx1, g.cell hcell (fun e => by have : b1 = b := Option.some.inj e; omega)⟩
section
variable {a : Nat} {W w w1 : World} {uR uL vR vL v' : Value} {R : List Rt} {L : List Lk}
set_option maxRecDepth 100000 in
theorem TK.keep (h : TK a W uR uL vR vL R L w) (g : w.grownBy w1 none) : TK a W uR uL vR vL R L w1 :=
  ⟨kept_row h.gb g (by simp), kept_row h.rb g (by simp), h.oR.kept g (by cases hv : vR.ownBlock <;> simp), h.oL.kept g (by cases hv : vL.ownBlock <;> simp), h.ap, h.st.trans ⟨grown_none g _, h.st.2.keep g⟩, Nat.le_trans h.sz g.size⟩
set_option maxRecDepth 100000 in
theorem TK.tape (h : TK a W uR uL vR vL R L w) (ha : a < W.heap.size) (k : St a w w1) : TK a W uR uL vR vL R L w1 :=
  ⟨kept_row h.gb k.1 (fun e => by have := Option.some.inj e; omega), kept_row h.rb k.1 (fun e => by have := Option.some.inj e; omega), own_other h.oR k.1 (by omega), own_other h.oL k.1 (by omega), h.ap, h.st.trans k, Nat.le_trans h.sz k.1.size⟩
set_option maxRecDepth 100000 in
theorem TK.start (hT : Tp w a) : TK a w (.slice none 0 0) (.slice none 0 0) (.slice none 0 0) (.slice none 0 0) [] [] ((w.alloc (.cells #[.slice none 0 0, .slice none 0 0] 35)).alloc (.cells #[.slice none 0 0, .slice none 0 0] 35)) := by
  obtain ⟨k1, k2, k3, _⟩ := two_boxes w #[.slice none 0 0, .slice none 0 0] #[.slice none 0 0, .slice none 0 0] 35 35
  exact ⟨k2, k1, World.ownsRow_nil _ _ _ _, World.ownsRow_nil _ _ _ _, fun g hg => (by cases hg), ⟨grown_none k3 _, hT.keep k3⟩, by simp⟩
set_option maxRecDepth 100000 in
theorem St.rowT {a base size n : Nat} {W w w1 : World} {e : TypeId} {v : Value} {xs : List Value} (h : St a W w) (ho : w.ownsRow base e size v n xs) (hb : W.heap.size ≤ base) (ha : a < W.heap.size) (k : w.grownBy w1 v.ownBlock) : St a W w1 := by
  cases hv : v.ownBlock with
  | none => rw [hv] at k; exact ⟨grown_trans h.1 (grown_none k _), h.2.keep k⟩
  | some g => rw [hv] at k; exact h.storeT k (Nat.le_trans hb (ho.lt g hv).1) ha
set_option maxRecDepth 100000 in
theorem TK.addR {g n cap : Nat} {y : Rt} (h : TK a W uR uL vR vL R L w) (ha : a < W.heap.size) (hown : w1.ownsRow (W.heap.size + 2) 54 2 (.slice (some ⟨g, 0, none⟩) n cap) (R.length + 1) (R.flatMap rtC ++ [.int .i64 y.id, .bool y.cap])) (hg : w.grownBy w1 vR.ownBlock) (hat : vR.ownBlock = some g ∨ g = w.heap.size) :
    TK a W uR uL (.slice (some ⟨g, 0, none⟩) n cap) vL (R ++ [y]) L w1 := by
  have hne : ∀ k, k < W.heap.size + 2 → some k ≠ vR.ownBlock := fun k hk e => by
    have := (h.oR.lt k e.symm).1
    omega
  refine ⟨kept_row h.gb hg (hne _ (by omega)), kept_row h.rb hg (hne _ (by omega)), ?_, h.oL.kept hg ?_, ?_, h.st.rowT h.oR (by omega) ha hg, Nat.le_trans h.sz hg.size⟩
  · rw [List.length_append, List.flatMap_append]; exact hown
  · cases hv : vL.ownBlock with
    | none => exact .inl rfl
    | some k => exact .inr (fun e => h.ap k e.symm hv)
  · intro g2 hg2 e
    obtain rfl : g = g2 := by simpa [Value.ownBlock] using hg2
    rcases hat with hat | hat
    · exact h.ap g hat e
    · have := (h.oL.lt g e).2
      omega
set_option maxRecDepth 100000 in
theorem TK.addL {g n cap : Nat} {y : Lk} (h : TK a W uR uL vR vL R L w) (ha : a < W.heap.size) (hown : w1.ownsRow (W.heap.size + 2) 58 5 (.slice (some ⟨g, 0, none⟩) n cap) (L.length + 1) (L.flatMap lkC ++ [.int .i64 y.a, .int .i64 y.b, .int .i64 y.ca, .int .i64 y.cb, .int .i64 y.cp])) (hg : w.grownBy w1 vL.ownBlock) (hat : vL.ownBlock = some g ∨ g = w.heap.size) :
    TK a W uR uL vR (.slice (some ⟨g, 0, none⟩) n cap) R (L ++ [y]) w1 := by
  have hne : ∀ k, k < W.heap.size + 2 → some k ≠ vL.ownBlock := fun k hk e => by
    have := (h.oL.lt k e.symm).1
    omega
  refine ⟨kept_row h.gb hg (hne _ (by omega)), kept_row h.rb hg (hne _ (by omega)), h.oR.kept hg ?_, ?_, ?_, h.st.rowT h.oL (by omega) ha hg, Nat.le_trans h.sz hg.size⟩
  · cases hv : vR.ownBlock with
    | none => exact .inl rfl
    | some k => exact .inr (fun e => h.ap k hv e.symm)
  · rw [List.length_append, List.flatMap_append]; exact hown
  · intro g2 hg2 e
    obtain rfl : g = g2 := by simpa [Value.ownBlock] using e
    rcases hat with hat | hat
    · exact h.ap g hg2 hat
    · have := (h.oR.lt g hg2).2
      omega
set_option maxRecDepth 100000 in
theorem TK.put0 (h : TK a W uR uL vR vL R L w) (ha : a < W.heap.size) : TK a W vR uL vR vL R L (w.setCell ⟨W.heap.size + 1, 0, none⟩ vR) := by
  have k : w.grownBy (w.setCell ⟨W.heap.size + 1, 0, none⟩ vR) (some (W.heap.size + 1)) := grown_setCell w ⟨W.heap.size + 1, 0, none⟩ vR
  exact ⟨heap_setCell_same w _ 0 _ _ vR h.gb, kept_row h.rb k (fun e => by have : W.heap.size = W.heap.size + 1 := Option.some.inj e; omega), own_other h.oR k (by omega), own_other h.oL k (by omega), h.ap, h.st.storeT k (by omega) ha, Nat.le_trans h.sz k.size⟩
set_option maxRecDepth 100000 in
theorem TK.put1 (h : TK a W uR uL vR vL R L w) (ha : a < W.heap.size) : TK a W uR vL vR vL R L (w.setCell ⟨W.heap.size + 1, 1, none⟩ vL) := by
  have k : w.grownBy (w.setCell ⟨W.heap.size + 1, 1, none⟩ vL) (some (W.heap.size + 1)) := grown_setCell w ⟨W.heap.size + 1, 1, none⟩ vL
  exact ⟨heap_setCell_same w _ 1 _ _ vL h.gb, kept_row h.rb k (fun e => by have : W.heap.size = W.heap.size + 1 := Option.some.inj e; omega), own_other h.oR k (by omega), own_other h.oL k (by omega), h.ap, h.st.storeT k (by omega) ha, Nat.le_trans h.sz k.size⟩
set_option maxRecDepth 100000 in
theorem TK.newL {O : List Lk} (h : TK a W uR uL vR vL R L w) (hown : w1.ownsRow w.heap.size 58 5 v' O.length (O.flatMap lkC)) (g : w.grownBy w1 none) : TK a W uR uL vR v' R O w1 := by
  have h1 := h.keep g
  refine ⟨h1.gb, h1.rb, h1.oR, hown.mono h.sz, fun k hk e => ?_, h1.st, h1.sz⟩
  have := (hown.lt k e).1
  have := (h.oR.lt k hk).2
  omega
set_option maxRecDepth 100000 in
theorem flat_set : ∀ (L : List Lk) (k j : Nat) (x : Int), k < L.length → j < 5 → ∃ L' : List Lk, L'.length = L.length ∧ L'.flatMap lkC = (L.flatMap lkC).set (k * 5 + j) (.int .i64 x)
  | [], k, _, _, hk, _ => absurd hk (Nat.not_lt_zero k)
  | m :: t, 0, j, x, _, hj => by
    rcases (show j = 0 ∨ j = 1 ∨ j = 2 ∨ j = 3 ∨ j = 4 by omega) with rfl | rfl | rfl | rfl | rfl
    · exact ⟨⟨x, m.b, m.ca, m.cb, m.cp⟩ :: t, rfl, rfl⟩
    · exact ⟨⟨m.a, x, m.ca, m.cb, m.cp⟩ :: t, rfl, rfl⟩
    · exact ⟨⟨m.a, m.b, x, m.cb, m.cp⟩ :: t, rfl, rfl⟩
    · exact ⟨⟨m.a, m.b, m.ca, x, m.cp⟩ :: t, rfl, rfl⟩
    · exact ⟨⟨m.a, m.b, m.ca, m.cb, x⟩ :: t, rfl, rfl⟩
  | m :: t, k + 1, j, x, hk, hj => by
    obtain ⟨L', h1, h2⟩ := flat_set t k j x (by simpa using hk) hj
    refine ⟨m :: L', by simp [h1], ?_⟩
    rw [List.flatMap_cons, h2, List.flatMap_cons]
    have e : (k + 1) * 5 + j = (lkC m).length + (k * 5 + j) := by
      show (k + 1) * 5 + j = 5 + (k * 5 + j)
      omega
    rw [e, List.set_append_right _ _ (Nat.le_add_right _ _), Nat.add_sub_cancel_left]
set_option maxRecDepth 100000 in
theorem TK.setL {g n cap k j : Nat} {x : Int} (h : TK a W uR uL vR (.slice (some ⟨g, 0, none⟩) n cap) R L w) (ha : a < W.heap.size) (hk : k < L.length) (hj : j < 5) :
    ∃ L', L'.length = L.length ∧ TK a W uR uL vR (.slice (some ⟨g, 0, none⟩) n cap) R L' (w.setCell ⟨g, k * 5 + j, none⟩ (.int .i64 x)) := by
  obtain ⟨L', hl, hf⟩ := flat_set L k j x hk hj
  obtain ⟨-, -, -⟩ : True ∧ True ∧ True := ⟨trivial, trivial, trivial⟩
  have hg0 := (h.oL.lt g rfl).1
  have hn : n = L.length := by
    obtain ⟨p, c, e, _⟩ := own_shape h.oL
    injection e
  subst hn
  obtain ⟨s1, s2⟩ := h.oL.stored (k * 5 + j) (.int .i64 x)
  refine ⟨L', hl, kept_row h.gb s2 (fun e => by have : W.heap.size + 1 = g := Option.some.inj e; omega), kept_row h.rb s2 (fun e => by have : W.heap.size = g := Option.some.inj e; omega), h.oR.kept s2 ?_, ?_, h.ap, h.st.storeT s2 (by omega) ha, Nat.le_trans h.sz s2.size⟩
  · cases hv : vR.ownBlock with
    | none => exact .inl rfl
    | some k => exact .inr (fun e => h.ap k hv (by rw [e]; rfl))
  · rw [hl, hf]; exact s1
end
/-- What returns a topology of the tape's. -/
def TopoPost (a : Nat) (most : Nat) (n : Int) (w : World) (e : Ending) (w' : World) : Prop :=
  ∃ (R : List Rt) (L : List Lk) (vR vL : Value), e = .returned (.agg #[vR, vL]) ∧ w'.ownsRow w.heap.size 54 2 vR R.length (R.flatMap rtC) ∧ w'.ownsRow w.heap.size 58 5 vL L.length (L.flatMap lkC) ∧ (∀ g, vR.ownBlock = some g → vL.ownBlock ≠ some g) ∧ TopOf most n R L ∧ St a w w'
end Go.Proofs.Ytlgmankojgjfjaa

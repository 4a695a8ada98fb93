/- Parts of the proof, packed: IdEdg, IdRes, ToOrdM, ToTopK, IdTap, IdPln, IdRsW, IdPlc. -/
import Derived.Test.YtndfhgklhjfhkaaPn3
import Derived.Test.YtndfhgklhjfhkaaPn2
import Derived.Lib.SliceRun
import Derived.Test.YtndfhgklhjfhkaaPn1
import Derived.Deep.AppendLies
import Derived.Deep.Onto
import Derived.Laws.OwnMore
/- identify: the edges of a subdomain. -/
namespace Go.Proofs.Ytndfhgklhjfhkaa
open Go.RowKit Bs
set_option maxRecDepth 100000 in
theorem info_ed : (Try.prog.info? 54).map (fun i => (i.zero, i.size, i.bytes)) = some (some (.agg #[.int .i64 0, .int .i64 0]), 2, 16) := by kernel_rfl
set_option maxRecDepth 100000 in
theorem ed_row (w : World) (x : Ed) (t : TypeId) (j : Nat) (u : Value) (hu : ([x].flatMap edC)[j]? = some u) : (w.alloc (.cells #[.int .i64 x.r, .int .i64 x.i] t)).cell? ((⟨w.heap.size, 0, none⟩ : Addr).add j) = some u := by
  rw [add_plain]
  have hb := heap_alloc_new w (.cells #[.int .i64 x.r, .int .i64 x.i] t)
  rcases j with _ | _ | j
  · cases hu; exact cell_of_row _ _ _ _ _ _ hb
  · cases hu; exact cell_of_row _ _ _ _ _ _ hb
  · simp [edC] at hu
set_option maxRecDepth 100000 in
theorem own_low {w : World} {b1 b2 size n : Nat} {e : TypeId} {v : Value} {xs : List Value} (h : w.ownsRow b1 e size v n xs) (hb : b2 ≤ b1) : w.ownsRow b2 e size v n xs := by
  refine ⟨h.1, ?_⟩
  rcases h.2 with h1 | ⟨g, cap, cur, h1, h2, h3⟩
  · exact .inl h1
  · exact .inr ⟨g, cap, cur, h1, Nat.le_trans hb h2, h3⟩
/-- While edges are collected: the counts lie in the block B. -/
structure EG (W : World) (q : Nat → Prop) (l : List Od) (p : Option Addr) (c : Nat) (sub : Int) (B : Nat) (v : Value) (M : List Ed) (w : World) : Prop where
  cb : w.heap[B]? = some (.cells (arrV 257 (ivN fun k => cnt l sub k)) 92 (0, 0))
  rd : RdF w (· < W.heap.size) (.slice p l.length c) l.length (l.flatMap odC)
  own : w.ownsRow (B + 1) 54 2 v M.length (M.flatMap edC)
  gr : W.grownBy w none
  lo : W.heap.size ≤ B ∧ B < w.heap.size
section
variable {W w w1 : World} {q : Nat → Prop} {l : List Od} {p : Option Addr} {c B : Nat} {sub : Int} {v v' : Value} {M N : List Ed}
set_option maxRecDepth 100000 in
theorem EG.keep (h : EG W q l p c sub B v M w) (g : w.grownBy w1 none) : EG W q l p c sub B v M w1 :=
  ⟨kept_row h.cb g (by simp), h.rd.keep g, h.own.kept g (by cases v.ownBlock <;> simp), grown_trans h.gr g, h.lo.1, Nat.lt_of_lt_of_le h.lo.2 g.size⟩
set_option maxRecDepth 100000 in
theorem EG.app {o : Obj} (h : EG W q l p c sub B v M w) (hown : w1.ownsRow (B + 1) 54 2 v' N.length (N.flatMap edC)) (hg : (w.alloc o).grownBy w1 v.ownBlock) : EG W q l p c sub B v' N w1 := by
  have h1 := h.keep (World.grownBy_alloc w o none)
  have hne : ∀ b, b ≤ B → some b ≠ v.ownBlock := fun b hb e => by have := (h.own.lt b e.symm).1; omega
  exact ⟨kept_row h1.cb hg (hne B (Nat.le_refl _)), h1.rd.grown hg (fun b hb => hne b (by have := h.lo.1; omega)), hown, grown_any h1.gr hg (fun b hb => hne b (by have := h.lo.1; omega)), h.lo.1, Nat.lt_of_lt_of_le h1.lo.2 hg.size⟩
end
set_option maxRecDepth 100000 in
theorem e1_len (l m : List Od) (sub : Int) : (e1K l m sub).length ≤ m.length := by
  unfold e1K
  rw [List.length_map]
  exact List.length_filter_le _ _
/-- What edges returns: the edges by ID. -/
def EdgPost (l : List Od) (sub : Int) (w : World) (e : Ending) (w' : World) : Prop :=
  ∃ p c, e = .returned (.slice p (e2K l sub 257).length c) ∧ w'.ownsRow w.heap.size 54 2 (.slice p (e2K l sub 257).length c) (e2K l sub 257).length ((e2K l sub 257).flatMap edC) ∧ w.grownBy w' none
set_option maxRecDepth 100000 in
set_option maxHeartbeats 6400000 in
theorem iedges_any (l : List Od) (p : Option Addr) (c : Nat) (sub : Int) (q : Nat → Prop) (w : World) (hR : RdF w q (.slice p l.length c) l.length (l.flatMap odC)) (h0 : ckO l = 0) :
    Calls Try.prog 63 #[.slice p l.length c, .int .i64 sub] w fun e w' => EdgPost l sub w e w' := by
  have HZ := (zero_of_info info_cs).1
  obtain ⟨ie, hie, he0, he1, he2⟩ := info_parts info_ed
  have HR := Lib.hid hR.old
  have H0 := Lib.hid h0
  have hl := (ck_any h0).1
  clear hR h0
  go_enter Try.func63, Try.ntmps63
  go_wp2_with fail
  refine (icount_any l p c sub _ w HR.out (by omega) (fun x hx => ck_id H0.out hx)).mono ?_
  rintro e w1 ⟨rfl, hg⟩
  have G1 := Lib.hid hg
  clear hg
  obtain ⟨F, hF⟩ : ∃ F, arrV 257 (ivN fun k => cnt l sub k) = F := ⟨_, rfl⟩
  have hFs : F.size = 257 := by rw [← hF, arr_size]
  have hst := run_storeCells_new (P := Try.prog) w1 92 (arrV 257 (ivN fun _ => 0)) F (by rw [hFs]; exact (zero_of_info info_cs).2) (by rw [hFs, arr_size]) (by rw [← hF]; exact arr_one fun _ => rfl)
  have HST := Lib.hid hst
  have HFF := Lib.hid hF
  rw [hF]
  clear hst hF
  go_wp2_with fail
  rw [HST.out, Result.andThen_ok, Oper.upon_skip]
  have E0 : Hid (EG w q l p c sub w1.heap.size (.slice none 0 0) (e1K l (l.take 0) sub) (w1.alloc (.cells F 92))) := Lib.hid ⟨by rw [HFF.out]; exact heap_alloc_new _ _, (HR.out.keep G1.out).keep (World.grownBy_alloc w1 _ _), World.ownsRow_nil _ _ _ _, grown_trans G1.out (World.grownBy_alloc w1 _ _), G1.out.size, by simp⟩
  go_upto_region 2 with fail
  generalize w1.alloc _ = w2 at *
  generalize w1.heap.size = B at *
  clear G1 HST HFF hFs HZ
  go_wp2_with fail
  go_loopw [6, 14] (fun v a wr => ∃ k : Nat, k ≤ l.length ∧ a = .int .i64 (k : Int) ∧ (∃ pv nv cv, v = .slice pv nv cv) ∧ Hid (EG w q l p c sub B v (e1K l (l.take k) sub) wr)) (fun _ a _ => l.length - (RowKit.intOf a).toNat)
  case atStart => exact ⟨0, by omega, rfl, ⟨_, _, _, rfl⟩, E0⟩
  case round =>
    obtain ⟨w3, rfl⟩ : ∃ w3, w3 = wr := ⟨_, rfl⟩
    obtain ⟨k, hk, rfl, ⟨pv, nv, cv, rfl⟩, N⟩ := hrel
    clear E0
    by_cases hlt : k < l.length
    · obtain ⟨-, b, off, rfl, -, hc⟩ := od_cells N.out.rd (by omega)
      obtain ⟨x, hx⟩ : ∃ x, l[k]? = some x := ⟨_, List.getElem?_eq_getElem hlt⟩
      obtain ⟨a0, a1, a2, a3⟩ := hc k x hx
      obtain ⟨m, hm1⟩ : ∃ m : Nat, x.i = (m : Int) := ⟨x.i.toNat, by have := ck_id H0.out (List.mem_of_getElem? hx); omega⟩
      have hm2 : m < 257 := by have := ck_id H0.out (List.mem_of_getElem? hx); omega
      have HY : Hid (x.s = sub ∧ cnt l sub x.i = 1 → e1K l (l.take (k + 1)) sub = e1K l (l.take k) sub ++ [edOf x]) := Lib.hid (e1K_yes hx)
      have HN : Hid (¬ (x.s = sub ∧ cnt l sub x.i = 1) → e1K l (l.take (k + 1)) sub = e1K l (l.take k) sub) := Lib.hid (e1K_no hx)
      have hlen := e1_len l (l.take k) sub
      have hlen2 := List.length_take_le k l
      obtain ⟨M, hM⟩ : ∃ M, e1K l (l.take k) sub = M := ⟨_, rfl⟩
      rw [hM] at N HY HN hlen
      clear hM
      have HB := Lib.hid (heap_alloc_new w3 (.cells #[.int .i64 x.r, .int .i64 x.s, .int .i64 x.i, .int .i64 x.l] 62))
      have HG := Lib.hid (World.grownBy_alloc w3 (.cells #[.int .i64 x.r, .int .i64 x.s, .int .i64 x.i, .int .i64 x.l] 62) none)
      have HM1 := Lib.hid hm1
      clear hc hx hm1
      go_upto_region 6 with fail
      clear a0 a1 a2 a3
      generalize w3.alloc _ = w4 at *
      have N1 := Lib.hid (N.out.keep HG.out)
      rw [HM1.out] at HB HY HN
      obtain ⟨d0, d1, d2, d3⟩ := row4i HB.out
      obtain ⟨n, hn⟩ : ∃ n : Nat, cnt l sub m = n := ⟨_, rfl⟩
      have e1 : w4.cell? ⟨B, m, none⟩ = some (.int .i64 (n : Int)) := by rw [← hn]; exact arr_row N1.out.cb hm2
      rw [hn] at HY HN
      obtain rfl : nv = M.length := by
        obtain ⟨p', c', e, _⟩ := own_shape N.out.own
        injection e
      have HO := Lib.hid N1.out.own
      have hbs : B < w4.heap.size := N1.out.lo.2
      clear hn N HG
      by_cases h1 : x.s = sub
      · have h1' : (x.s == sub) = true := by simpa using h1
        by_cases h2 : n = 1
        · have h2' : ((n : Int) == 1) = true := by subst h2; rfl
          have HE : Hid (e1K l (l.take (k + 1)) sub = M ++ [edOf x]) := Lib.hid (HY.out ⟨h1, h2⟩)
          have hed : edOf x = ⟨x.r, (m : Int)⟩ := by unfold edOf; rw [HM1.out]
          rw [hed] at HE
          clear HY HN h1 h2 hed
          go_wp2_with (at_builtin; refine wpList_append_f edC 2 16 (by decide) (fun _ => rfl) ed_one 54 24 ie _ Try.underlying24 hie he0 he1 he2 rfl (by decide) rfl _ _ rfl (B + 1) _ M _ ?c0 rfl (HO.out.alloc _) (some ⟨w4.heap.size, 0, none⟩) 1 1 [⟨x.r, (m : Int)⟩] rfl rfl (by simp) (fun _ => True) (rdf_one _ trivial (fun j u hu => ed_row _ _ _ _ _ hu) 1) (by decide) (by simp; omega) (by simp; omega) ?_)
          try (case c0 => rfl)
          intro v' w5 hown' hg
          have N2 : Hid (EG w q l (some ⟨b, off, none⟩) c sub B v' (e1K l (l.take (k + 1)) sub) w5) := Lib.hid (by rw [HE.out]; exact N1.out.app (by simpa using hown') hg)
          obtain ⟨p1, c1, rfl, -, -⟩ := own_shape hown'
          clear hown' hg HO HE d0 d1 d2 d3 e1
          go_wp2_with fail
          exact ⟨⟨k + 1, by omega, congrArg _ (by omega), ⟨_, _, _, rfl⟩, N2⟩, by simp only [RowKit.intOf]; omega⟩
        · have h2' : ((n : Int) == 1) = false := by
            have : (n : Int) ≠ 1 := by omega
            simpa using this
          have N2 : Hid (EG w q l (some ⟨b, off, none⟩) c sub B _ (e1K l (l.take (k + 1)) sub) w4) := Lib.hid (by rw [HN.out (fun h => h2 h.2)]; exact N1.out)
          clear HY HN h1 h2
          go_wp2_with fail
          exact ⟨⟨k + 1, by omega, congrArg _ (by omega), ⟨_, _, _, rfl⟩, N2⟩, by simp only [RowKit.intOf]; omega⟩
      · have h1' : (x.s == sub) = false := by simpa using h1
        have N2 : Hid (EG w q l (some ⟨b, off, none⟩) c sub B _ (e1K l (l.take (k + 1)) sub) w4) := Lib.hid (by rw [HN.out (fun h => h1 h.1)]; exact N1.out)
        clear HY HN h1
        go_wp2_with fail
        exact ⟨⟨k + 1, by omega, congrArg _ (by omega), ⟨_, _, _, rfl⟩, N2⟩, by simp only [RowKit.intOf]; omega⟩
    · obtain rfl : k = l.length := by omega
      rw [List.take_length] at N
      have hlen := e1_len l l sub
      obtain rfl : nv = (e1K l l sub).length := by
        obtain ⟨p', c', e, _⟩ := own_shape N.out.own
        injection e
      go_wp2_with fail
      refine (isort_any (B + 1) (e1K l l sub) pv cv w3 N.out.own (by omega)).mono ?_
      rintro e w4 ⟨F, rfl, hp, hs, ho, hg⟩
      have hF := edges_eq H0.out sub hp hs
      have hFl : (e1K l l sub).length = F.length := hp.length_eq.symm
      subst hF
      have HF : Hid (EdgPost l sub w (.returned (.slice pv (e2K l sub 257).length cv)) w4) := Lib.hid ⟨_, _, rfl, own_low ho (by have := N.out.lo.1; omega), grown_any N.out.gr hg (fun b hb e => by have := (N.out.own.lt b e.symm).1; have := N.out.lo.1; omega)⟩
      rw [hFl]
      clear hp hs ho hg N hFl
      go_wp2_with fail
      go_ret
      exact HF.out
end Go.Proofs.Ytndfhgklhjfhkaa

/- identify: Resolve. -/
namespace Go.Proofs.Ytndfhgklhjfhkaa
open Go.RowKit Bs
set_option maxRecDepth 100000 in
theorem info_od : (Try.prog.info? 62).map (fun i => (i.zero, i.size, i.bytes)) = some (some (.agg #[.int .i64 0, .int .i64 0, .int .i64 0, .int .i64 0]), 4, 32) := by kernel_rfl
set_option maxRecDepth 100000 in
theorem info_bs : (Try.prog.info? 98).map (fun i => (i.zero, i.size)) = some (some (.agg (arrV 257 (bvN fun _ => false))), 257) := by kernel_rfl
set_option maxRecDepth 100000 in
set_option maxHeartbeats 1600000 in
theorem icln_any (C : List Od) (p : Option Addr) (c : Nat) (q : Nat → Prop) (w : World) (hR : RdF w q (.slice p C.length c) C.length (C.flatMap odC)) (hn : p = none → c = 0) (hc : C.length ≤ c ∧ c ≤ 9223372036854775807) (hm : C.length ≤ 1000) :
    Calls Try.prog 64 #[.slice p C.length c] w fun e w' => ∃ v, e = .returned v ∧ w'.ownsRow w.heap.size 62 4 v C.length (C.flatMap odC) ∧ w.grownBy w' none := by
  obtain ⟨ii, hii, hi0, hi1, hi2⟩ := info_parts info_od
  cases p with
  | none =>
    obtain rfl := hn rfl
    have h0 : C.length = 0 := by omega
    obtain rfl := List.eq_nil_of_length_eq_zero h0
    clear hR
    have heq : ∀ w : World, (binOp .eql 23 (.slice none 0 0) (.slice none 0 0)).run Try.prog w = .ok (.bool true) w := fun w => Lib.run_eql_slice_nil w _ _ none 0 0 0 0 Try.underlying23
    go_enter Try.func64, Try.ntmps64
    go_wp2_with fail
    go_ret
    exact ⟨_, rfl, World.ownsRow_nil _ _ _ _, grown_refl _ _⟩
  | some ad =>
    have k0 := World.grownBy_alloc w (.cells #[] 62) none
    have hlit : (w.alloc (.cells #[] 62)).ownsRow w.heap.size 62 4 (.slice (some ⟨w.heap.size, 0, none⟩) 0 0) 0 (([] : List Od).flatMap odC) := World.ownsRow_lit w #[] 0 (Nat.le_refl _) (by decide) rfl
    have HL := Lib.hid (And.intro hlit (And.intro k0 (hR.grown k0 (fun _ _ => by simp))))
    clear hlit k0 hR
    have heq : ∀ w : World, (binOp .eql 23 (.slice (some ad) C.length c) (.slice none 0 0)).run Try.prog w = .ok (.bool false) w := fun w => Lib.run_eql_slice_nil w _ _ (some ad) C.length c 0 0 Try.underlying23
    go_enter Try.func64, Try.ntmps64
    go_wp2_with (at_builtin; refine hold_on ?_)
    refine Lib.hid ?_
    refine wpList_append_f odC 4 32 (by decide) (fun _ => rfl) od_one 62 23 ii _ Try.underlying23 hii hi0 hi1 hi2 rfl (by decide) rfl _ _ rfl w.heap.size _ [] 0 rfl rfl HL.out.1 _ _ _ C rfl rfl (fun h => by cases h) q HL.out.2.2 hc.1 (by omega) (by simp) ?_
    intro v' w1 hown hg
    rw [List.nil_append] at hown
    have HO := Lib.hid (And.intro hown (old_grow HL.out.2.1 HL.out.1 (Nat.le_refl _) hg))
    clear hown hg
    go_wp2_with fail
    go_ret
    exact ⟨v', rfl, HO.out.1, HO.out.2⟩
set_option maxRecDepth 100000 in
/-- One cell of a row of the call's own is written. -/
theorem own_odset {w : World} {base g n cap k : Nat} {M : List Od} {x : Od} (h : w.ownsRow base 62 4 (.slice (some ⟨g, 0, none⟩) n cap) M.length (M.flatMap odC)) (hx : M[k]? = some x) (v : Int) :
    (w.setCell ⟨g, k * 4 + 2, none⟩ (.int .i64 v)).ownsRow base 62 4 (.slice (some ⟨g, 0, none⟩) n cap) (M.set k { x with i := v }).length ((M.set k { x with i := v }).flatMap odC) := by
  have hk := (List.getElem?_eq_some_iff.1 hx).1
  rcases h.2 with ⟨e, _⟩ | ⟨g', cap', cur, e, hb, hg, r1, r2, r3, r4⟩
  · cases e
  · injection e with e1 e2 e3
    injection e1 with e1
    injection e1 with e1
    subst e1
    subst e2
    subst e3
    rw [List.length_set]
    refine ⟨by rw [flat_len odC 4 (fun _ => rfl), List.length_set], .inr ⟨g, cap, _, rfl, hb, heap_setCell_same w g _ _ _ _ hg, r1, r2, by simp [r3], ?_⟩⟩
    rw [← od_set M k v x hx, ← r4]
    simp only [Array.toList_setIfInBounds]
    rw [List.take_set]
/-- While conflicts are settled: the list, the counts in B1, what is kept in B2. -/
structure RV (W : World) (l : List Od) (p : Option Addr) (c : Nat) (B1 B2 : Nat) (v : Value) (M : List Od) (f : Nat → Nat) (kf : Nat → Bool) (w : World) : Prop where
  own : w.ownsRow W.heap.size 62 4 v M.length (M.flatMap odC)
  ob : ∀ g, v.ownBlock = some g → g < B1
  cb : w.heap[B1]? = some (.cells (arrV 257 (ivN f)) 92 (0, 0))
  kb : w.heap[B2]? = some (.cells (arrV 257 (bvN kf)) 98 (0, 0))
  rd : RdF w (· < W.heap.size) (.slice p l.length c) l.length (l.flatMap odC)
  gr : W.grownBy w none
  lo : W.heap.size ≤ B1 ∧ B1 < B2
section
variable {W w w1 : World} {l : List Od} {p : Option Addr} {c B1 B2 : Nat} {v : Value} {M : List Od} {f : Nat → Nat} {kf : Nat → Bool}
set_option maxRecDepth 100000 in
theorem RV.keep (h : RV W l p c B1 B2 v M f kf w) (g : w.grownBy w1 none) : RV W l p c B1 B2 v M f kf w1 :=
  ⟨h.own.kept g (by cases v.ownBlock <;> simp), h.ob, kept_row h.cb g (by simp), kept_row h.kb g (by simp), h.rd.keep g, grown_trans h.gr g, h.lo⟩
set_option maxRecDepth 100000 in
theorem RV.putK (h : RV W l p c B1 B2 v M f kf w) {m : Nat} (hm : m < 257) : RV W l p c B1 B2 v M f (fun j => if j = m then true else kf j) (w.setCell ⟨B2, m, none⟩ (.bool true)) := by
  obtain ⟨h1, h2⟩ := arr_put (.bool true) h.kb hm
  have hlo := h.lo
  refine ⟨h.own.kept h2 ?_, h.ob, kept_row h.cb h2 (fun e => by have := Option.some.inj e; omega), ?_, h.rd.grown h2 (fun b hb e => by have := Option.some.inj e; omega), grown_new h.gr h2 (by omega), hlo⟩
  · cases hv : v.ownBlock with
    | none => exact .inl rfl
    | some x => exact .inr fun e => by have := h.ob x hv; have := Option.some.inj e; omega
  · rw [h1]
    congr 2
    refine arr_congr fun j _ => ?_
    unfold bvN
    show (if j = m then _ else _) = Value.bool (if j = m then true else kf j)
    split <;> rfl
set_option maxRecDepth 100000 in
theorem RV.putC (h : RV W l p c B1 B2 v M f kf w) {m : Nat} (hm : m < 257) (n : Nat) : RV W l p c B1 B2 v M (fun j => if j = m then n else f j) kf (w.setCell ⟨B1, m, none⟩ (.int .i64 (n : Int))) := by
  obtain ⟨h1, h2⟩ := arr_put (.int .i64 (n : Int)) h.cb hm
  have hlo := h.lo
  refine ⟨h.own.kept h2 ?_, h.ob, ?_, kept_row h.kb h2 (fun e => by have := Option.some.inj e; omega), h.rd.grown h2 (fun b hb e => by have := Option.some.inj e; omega), grown_new h.gr h2 (by omega), hlo⟩
  · cases hv : v.ownBlock with
    | none => exact .inl rfl
    | some x => exact .inr fun e => by have := h.ob x hv; have := Option.some.inj e; omega
  · rw [h1]
    congr 2
    refine arr_congr fun j _ => ?_
    unfold ivN
    show (if j = m then _ else _) = Value.int .i64 (((if j = m then n else f j : Nat)) : Int)
    split <;> rfl
set_option maxRecDepth 100000 in
theorem RV.putL {g n cap k : Nat} {x : Od} (h : RV W l p c B1 B2 (.slice (some ⟨g, 0, none⟩) n cap) M f kf w) (hx : M[k]? = some x) (i : Int) : RV W l p c B1 B2 (.slice (some ⟨g, 0, none⟩) n cap) (M.set k { x with i := i }) f kf (w.setCell ⟨g, k * 4 + 2, none⟩ (.int .i64 i)) := by
  have h2 := grown_setCell w ⟨g, k * 4 + 2, none⟩ (.int .i64 i)
  have hg := h.ob g rfl
  have hlo := h.lo
  have hge := (h.own.lt g rfl).1
  exact ⟨own_odset h.own hx i, h.ob, kept_row h.cb h2 (fun e => by have : B1 = g := Option.some.inj e; omega), kept_row h.kb h2 (fun e => by have : B2 = g := Option.some.inj e; omega), h.rd.grown h2 (fun b hb e => by have : b = g := Option.some.inj e; omega), grown_new h.gr h2 hge, hlo⟩
end
/-- What Resolve returns. -/
def ResPost (l : List Od) (sub : Int) (w : World) (e : Ending) (w' : World) : Prop :=
  ∃ p c, e = .returned (.tuple #[.slice p (rsO l sub).length c, .int .i64 (rsX l sub)]) ∧ w'.ownsRow w.heap.size 62 4 (.slice p (rsO l sub).length c) (rsO l sub).length ((rsO l sub).flatMap odC) ∧ w.grownBy w' none
set_option maxRecDepth 100000 in
theorem res_no {l : List Od} {sub x : Int} (h : rsX l sub = x) (h2 : rsO l sub = []) {w w' : World} (g : w.grownBy w' none) : ResPost l sub w (.returned (.tuple #[.slice none 0 0, .int .i64 x])) w' := by
  refine ⟨none, 0, by rw [h, h2]; rfl, ?_, g⟩
  rw [h2]
  exact World.ownsRow_nil _ _ _ _
end Go.Proofs.Ytndfhgklhjfhkaa

/- Links in order, and the tape's topologies: the mathematics. -/
namespace Go.Proofs.Ytndfhgklhjfhkaa
open Go.RowKit Bs
end Go.Proofs.Ytndfhgklhjfhkaa

/- While the tape makes a topology. -/
namespace Go.Proofs.Ytndfhgklhjfhkaa
open Go.RowKit Bs
set_option maxRecDepth 100000 in
theorem own_other {w w' : World} {base size n b : Nat} {e : TypeId} {v : Value} {xs : List Value} (h : w.ownsRow base e size v n xs) (g : w.grownBy w' (some b)) (hb : b < base) : w'.ownsRow base e size v n xs :=
  h.kept g (by
    cases hv : v.ownBlock with
    | none => exact .inl rfl
    | some k => exact .inr (fun e => by have e2 := Option.some.inj e; have := (h.lt k hv).1; omega))
set_option maxRecDepth 100000 in
theorem St.storeT {a b : Nat} {W w w1 : World} (h : St a W w) (g : w.grownBy w1 (some b)) (hb : W.heap.size ≤ b) (ha : a < W.heap.size) : St a W w1 := by
  refine ⟨⟨g.os.trans h.1.os, g.tape.trans h.1.tape, g.output.trans h.1.output, Nat.le_trans h.1.size g.size, fun i hi hia => (g.block i (Nat.lt_of_lt_of_le hi h.1.size) (fun e => by have := Option.some.inj e; omega)).trans (h.1.block i hi hia)⟩, ?_⟩
  obtain ⟨v, n, i, T⟩ := h.2
  have hlt : a < w.heap.size := Nat.lt_of_lt_of_le ha h.1.size
  have hk : w1.heap[a]? = w.heap[a]? := g.block a hlt (fun e => by have := Option.some.inj e; omega)
  refine ⟨v, n, i, (World.cell?_of_block (a := ⟨a, 0, none⟩) hk).trans T.l, (World.cell?_of_block (a := ⟨a, 1, none⟩) hk).trans T.p, (World.frozen?_of_block (a := ⟨a, 1, none⟩) hk).trans T.fr, ?_, T.le, T.len⟩
  obtain ⟨p, c, hv, hc⟩ := T.ints
  refine ⟨p, c, hv, fun hn => ?_⟩
  obtain ⟨b1, off, hp, hb1, hx⟩ := hc hn
  refine ⟨b1, off, hp, hb1, fun i hi => ?_⟩
  obtain ⟨x, hx1, hcell⟩ := hx i hi
  exact ⟨x, hx1, g.cell hcell (fun e => by have : b1 = b := Option.some.inj e; omega)⟩
section
variable {a : Nat} {W w w1 : World} {uR uL vR vL v' : Value} {R : List Rt} {L : List Lk}
set_option maxRecDepth 100000 in
theorem St.rowT {a base size n : Nat} {W w w1 : World} {e : TypeId} {v : Value} {xs : List Value} (h : St a W w) (ho : w.ownsRow base e size v n xs) (hb : W.heap.size ≤ base) (ha : a < W.heap.size) (k : w.grownBy w1 v.ownBlock) : St a W w1 := by
  cases hv : v.ownBlock with
  | none => rw [hv] at k; exact ⟨grown_trans h.1 (grown_none k _), h.2.keep k⟩
  | some g => rw [hv] at k; exact h.storeT k (Nat.le_trans hb (ho.lt g hv).1) ha
end
end Go.Proofs.Ytndfhgklhjfhkaa

/- The tape's Claims. -/
namespace Go.Proofs.Ytndfhgklhjfhkaa
open Go.RowKit Bs
set_option maxRecDepth 100000 in
theorem pair_asc {α : Type} {f : α → α → Bool} : ∀ l : List α, l.Pairwise (fun x y => f x y = true) → ascB f l = true
  | [], _ => rfl
  | [a], _ => rfl
  | a :: b :: t, h => by
    have h1 := List.pairwise_cons.1 h
    rw [ascB, pair_asc (b :: t) h1.2, h1.1 b (List.mem_cons_self ..)]; rfl
/-- All claims are right, ascend, and are less than that of the router k for the subdomain j. -/
def GLo (k j : Int) (M : List Od) : Prop := (∀ x ∈ M, wrO x = false ∧ (x.r < k ∨ (x.r = k ∧ x.s < j))) ∧ M.Pairwise (fun x y => ltO x y = true)
set_option maxRecDepth 100000 in
theorem GLo.nil (k j : Int) : GLo k j [] := ⟨fun x h => (by cases h), List.Pairwise.nil⟩
set_option maxRecDepth 100000 in
theorem GLo.up {k j k2 j2 : Int} {M : List Od} (h : GLo k j M) (h2 : k < k2 ∨ (k = k2 ∧ j ≤ j2)) : GLo k2 j2 M := ⟨fun x hx => ⟨(h.1 x hx).1, by have := (h.1 x hx).2; omega⟩, h.2⟩
set_option maxRecDepth 100000 in
theorem GLo.add {k j : Int} {M : List Od} (h : GLo k j M) {x : Od} (hx : wrO x = false) (h1 : x.r = k) (h2 : x.s = j) : GLo k (j + 1) (M ++ [x]) := by
  refine ⟨fun y hy => ?_, ?_⟩
  · rcases List.mem_append.1 hy with h3 | h3
    · have := h.1 y h3
      exact ⟨this.1, by have := this.2; omega⟩
    · obtain rfl : y = x := by simpa using h3
      exact ⟨hx, by omega⟩
  · refine List.pairwise_append.2 ⟨h.2, List.pairwise_singleton _ _, fun y hy z hz => ?_⟩
    obtain rfl : z = x := by simpa using hz
    have := (h.1 y hy).2
    unfold ltO
    exact decide_eq_true (by omega)
set_option maxRecDepth 100000 in
theorem GLo.ck {k j : Int} {M : List Od} (h : GLo k j M) (hl : M.length ≤ 192) : ckO M = 0 := by
  unfold ckO
  rw [if_neg (by omega), if_neg (by
    intro h2
    obtain ⟨x, hx, h3⟩ := List.any_eq_true.1 h2
    rw [(h.1 x hx).1] at h3; cases h3), pair_asc _ h.2]
  rfl
/-- While the tape makes claims. -/
structure CT (a : Nat) (W : World) (v : Value) (M : List Od) (w : World) : Prop where
  st : St a W w
  own : w.ownsRow W.heap.size 62 4 v M.length (M.flatMap odC)
section
variable {a : Nat} {W w w1 : World} {v v' : Value} {M N : List Od}
set_option maxRecDepth 100000 in
theorem CT.tape (h : CT a W v M w) (ha : a < W.heap.size) (k : St a w w1) : CT a W v M w1 := ⟨h.st.trans k, own_other h.own k.1 ha⟩
set_option maxRecDepth 100000 in
theorem CT.keep (h : CT a W v M w) (g : w.grownBy w1 none) : CT a W v M w1 := ⟨h.st.none_ g, h.own.kept g (by cases v.ownBlock <;> simp)⟩
set_option maxRecDepth 100000 in
theorem CT.app {o : Obj} (h : CT a W v M w) (ha : a < W.heap.size) (hown : w1.ownsRow W.heap.size 62 4 v' N.length (N.flatMap odC)) (hg : (w.alloc o).grownBy w1 v.ownBlock) : CT a W v' N w1 :=
  have h1 := h.keep (World.grownBy_alloc w o none)
  ⟨h1.st.rowT h1.own (Nat.le_refl _) ha hg, hown⟩
end
/-- What Claims returns. -/
def ClmTP (a k : Nat) (n : Int) (w : World) (e : Ending) (w' : World) : Prop :=
  ∃ (l : List Od) (p : Option Addr) (c : Nat), e = .returned (.slice p l.length c) ∧ l.length ≤ 3 * k + 1 ∧ (n = 0 → ckO l = 0) ∧ w'.ownsRow w.heap.size 62 4 (.slice p l.length c) l.length (l.flatMap odC) ∧ St a w w'
set_option maxRecDepth 100000 in
theorem od_row (w : World) (x : Od) (t : TypeId) (j : Nat) (u : Value) (hu : ([x].flatMap odC)[j]? = some u) : (w.alloc (.cells #[.int .i64 x.r, .int .i64 x.s, .int .i64 x.i, .int .i64 x.l] t)).cell? ((⟨w.heap.size, 0, none⟩ : Addr).add j) = some u := by
  rw [add_plain]
  have hb := heap_alloc_new w (.cells #[.int .i64 x.r, .int .i64 x.s, .int .i64 x.i, .int .i64 x.l] t)
  rcases j with _ | _ | _ | _ | j
  · cases hu; exact cell_of_row _ _ _ _ _ _ hb
  · cases hu; exact cell_of_row _ _ _ _ _ _ hb
  · cases hu; exact cell_of_row _ _ _ _ _ _ hb
  · cases hu; exact cell_of_row _ _ _ _ _ _ hb
  · simp [odC] at hu
set_option maxRecDepth 100000 in
set_option maxHeartbeats 12800000 in
theorem tclaims_any (a k : Nat) (n : Int) (hk : k ≤ 8) (hn : I64 n) (w : World) (hT : Tp w a) :
    Calls Try.prog 11 #[.pointer (some ⟨a, 0, none⟩), .int .i64 (k : Int), .int .i64 n] w fun e w' => ClmTP a k n w e w' := by
  obtain ⟨io, hio, hi0, hi1, hi2⟩ := info_parts info_od
  have ha := hT.lt
  have C0 : Hid (CT a w (.slice none 0 0) [] w) := Lib.hid ⟨⟨grown_refl _ _, hT⟩, World.ownsRow_nil _ _ _ _⟩
  have HA := Lib.hid ha
  clear ha hT
  go_enter Try.func11, Try.ntmps11
  go_wp2_with fail
  go_loopw [7, 8] (fun v x wr => ∃ (r : Nat) (M : List Od) (p : Option Addr) (c : Nat), 1 ≤ r ∧ r ≤ k + 1 ∧ x = .int .i64 (r : Int) ∧ v = .slice p M.length c ∧ M.length ≤ 3 * (r - 1) ∧ Hid (GLo (r : Int) 0 M) ∧ Hid (CT a w (.slice p M.length c) M wr)) (fun _ x _ => k + 1 - (RowKit.intOf x).toNat)
  case atStart => exact ⟨1, [], none, 0, Nat.le_refl _, by omega, rfl, rfl, Nat.zero_le _, Lib.hid (GLo.nil _ _), C0⟩
  case round =>
  obtain ⟨r, M, p, c, hr1, hr2, rfl, rfl, hml, HG, C1⟩ := hrel
  clear C0
  by_cases hrk : r ≤ k
  · have hrk' : (r : Int) ≤ (k : Int) := by omega
    go_wp2_with fail
    go_loopw [7, 9] (fun v x wz => ∃ (j : Nat) (M : List Od) (p : Option Addr) (c : Nat), j ≤ 3 ∧ x = .int .i64 (j : Int) ∧ v = .slice p M.length c ∧ M.length ≤ 3 * (r - 1) + j ∧ Hid (GLo (r : Int) (j : Int) M) ∧ Hid (CT a w (.slice p M.length c) M wz)) (fun _ x _ => 3 - (RowKit.intOf x).toNat)
    case atStart => exact ⟨0, M, p, c, by omega, rfl, rfl, by omega, HG, C1⟩
    case round =>
    clear HG C1 hml
    obtain ⟨j, M, p, c, hj, rfl, rfl, hml, HG, C1⟩ := hrel
    obtain ⟨w2, hw2⟩ : ∃ w2, w2 = wr := ⟨_, rfl⟩
    rw [← hw2] at C1 ⊢
    clear hw2
    by_cases hj3 : j < 3
    · have hj3' : (j : Int) < 3 := by omega
      go_wp2_with fail
      refine (next_any a 3 (by unfold I64; omega) _ C1.out.st.2).mono ?_
      rintro e w3 ⟨x, rfl, hx, hs⟩
      have C2 := Lib.hid (C1.out.tape HA.out hs)
      clear hx hs C1
      by_cases hx0 : 0 < x
      · go_wp2_with fail
        refine (pick_any (fun z => 1 ≤ z ∧ z ≤ 256) a _ 0 8 8 (by omega) (by omega) _ (C2.out.st.2.alloc _) (among_list _ w3 a [1, 2, 3, 4, 5, 8, 9, 256] _ _ C2.out.st.2.lt rfl (by decide))).mono ?_
        rintro e w4 ⟨id, rfl, hid, hs⟩
        have C3 := Lib.hid (C2.out.tape HA.out hs.alloc_left)
        clear hs C2
        go_wp2_with fail
        refine (length_any a _ C3.out.st.2).mono ?_
        rintro e w5 ⟨ln, rfl, hln, hs⟩
        have C4 := Lib.hid (C3.out.tape HA.out hs)
        clear hs C3
        have HO := Lib.hid C4.out.own
        have hbs : w.heap.size ≤ w5.heap.size := C4.out.st.1.size
        have HG2 : Hid (GLo (r : Int) ((j : Int) + 1) (M ++ [⟨(r : Int), (j : Int), id, ln⟩])) := Lib.hid (HG.out.add (by
          unfold wrO inV
          rw [hln, decide_eq_true (show 1 ≤ (r : Int) ∧ (r : Int) ≤ 99 by omega), decide_eq_true (show 0 ≤ (j : Int) ∧ (j : Int) ≤ 7 by omega), decide_eq_true hid]; rfl) rfl rfl)
        clear hid hln HG
        go_wp2_with (at_builtin; refine wpList_append_f odC 4 32 (by decide) (fun _ => rfl) od_one 62 23 io _ Try.underlying23 hio hi0 hi1 hi2 rfl (by decide) rfl _ _ rfl w.heap.size _ M _ ?c0 rfl (HO.out.alloc _) (some ⟨w5.heap.size, 0, none⟩) 1 1 [⟨(r : Int), (j : Int), id, ln⟩] rfl rfl (by simp) (fun _ => True) (rdf_one _ trivial (fun i u hu => od_row _ _ _ _ _ hu) 1) (by decide) (by simp; omega) (by simp; omega) ?_)
        try (case c0 => rfl)
        intro v' w6 hown' hg
        have C5 := Lib.hid (C4.out.app (N := M ++ [⟨(r : Int), (j : Int), id, ln⟩]) HA.out (by simpa using hown') hg)
        obtain ⟨p1, c1, rfl, -, -⟩ := own_shape C5.out.own
        clear hown' hg HO C4
        have hml2 : (M ++ [(⟨(r : Int), (j : Int), id, ln⟩ : Od)]).length ≤ 3 * (r - 1) + (j + 1) := by rw [List.length_append]; simp; omega
        obtain ⟨N, hN⟩ : ∃ N, M ++ [(⟨(r : Int), (j : Int), id, ln⟩ : Od)] = N := ⟨_, rfl⟩
        rw [hN] at C5 hml2 HG2 ⊢
        clear hN
        go_wp2_with fail
        exact ⟨⟨j + 1, N, p1, c1, by omega, congrArg _ (by omega), rfl, hml2, HG2, C5⟩, by simp only [RowKit.intOf]; omega⟩
      · have HG2 : Hid (GLo (r : Int) ((j : Int) + 1) M) := Lib.hid (HG.out.up (by omega))
        have hml2 : M.length ≤ 3 * (r - 1) + (j + 1) := by omega
        clear HG
        go_wp2_with fail
        exact ⟨⟨j + 1, M, p, c, by omega, congrArg _ (by omega), rfl, hml2, HG2, C2⟩, by simp only [RowKit.intOf]; omega⟩
    · obtain rfl : j = 3 := by omega
      have HG2 : Hid (GLo ((r + 1 : Nat) : Int) 0 M) := Lib.hid (HG.out.up (by omega))
      go_wp2_with fail
      exact ⟨⟨r + 1, M, p, c, by omega, by omega, congrArg _ (by omega), rfl, by omega, HG2, C1⟩, by simp only [RowKit.intOf]; omega⟩
  · obtain rfl : r = k + 1 := by omega
    have hrk' : ¬ ((k + 1 : Nat) : Int) ≤ (k : Int) := by omega
    have HCK : Hid (ckO M = 0) := Lib.hid (HG.out.ck (by omega))
    clear HG
    by_cases hn0 : 0 < n
    · go_wp2_with fail
      refine (one_any a n hn _ C1.out.st.2).mono ?_
      rintro e w3 ⟨b, rfl, hs⟩
      have C2 := Lib.hid (C1.out.tape HA.out hs)
      clear hs C1
      cases b with
      | false =>
        have HP : Hid (ClmTP a k n w (.returned (.slice p M.length c)) w3) := Lib.hid ⟨M, p, c, rfl, by omega, fun h => by omega, C2.out.own, C2.out.st⟩
        go_wp2_with fail
        go_ret
        exact HP.out
      | true =>
        go_wp2_with fail
        refine (pick_any (fun z => True) a _ 0 5 5 (by omega) (by omega) _ (C2.out.st.2.alloc _) (among_list _ w3 a [0, 1, 9, 99, 100] _ _ C2.out.st.2.lt rfl (fun _ _ => trivial))).mono ?_
        rintro e w4 ⟨x1, rfl, -, hs⟩
        have C3 := Lib.hid (C2.out.tape HA.out hs.alloc_left)
        clear hs C2
        go_wp2_with fail
        refine (pick_any (fun z => True) a _ 0 4 4 (by omega) (by omega) _ (C3.out.st.2.alloc _) (among_list _ w4 a [0, 7, 8, -1] _ _ C3.out.st.2.lt rfl (fun _ _ => trivial))).mono ?_
        rintro e w5 ⟨x2, rfl, -, hs⟩
        have C4 := Lib.hid (C3.out.tape HA.out hs.alloc_left)
        clear hs C3
        go_wp2_with fail
        refine (pick_any (fun z => True) a _ 0 4 4 (by omega) (by omega) _ (C4.out.st.2.alloc _) (among_list _ w5 a [0, 1, 256, 257] _ _ C4.out.st.2.lt rfl (fun _ _ => trivial))).mono ?_
        rintro e w6 ⟨x3, rfl, -, hs⟩
        have C5 := Lib.hid (C4.out.tape HA.out hs.alloc_left)
        clear hs C4
        go_wp2_with fail
        refine (pick_any (fun z => True) a _ 0 4 4 (by omega) (by omega) _ (C5.out.st.2.alloc _) (among_list _ w6 a [0, 8, 12, 64] _ _ C5.out.st.2.lt rfl (fun _ _ => trivial))).mono ?_
        rintro e w7 ⟨x4, rfl, -, hs⟩
        have C6 := Lib.hid (C5.out.tape HA.out hs.alloc_left)
        clear hs C5
        have HO := Lib.hid C6.out.own
        have hbs : w.heap.size ≤ w7.heap.size := C6.out.st.1.size
        go_wp2_with (at_builtin; refine wpList_append_f odC 4 32 (by decide) (fun _ => rfl) od_one 62 23 io _ Try.underlying23 hio hi0 hi1 hi2 rfl (by decide) rfl _ _ rfl w.heap.size _ M _ ?c0 rfl (HO.out.alloc _) (some ⟨w7.heap.size, 0, none⟩) 1 1 [⟨x1, x2, x3, x4⟩] rfl rfl (by simp) (fun _ => True) (rdf_one _ trivial (fun i u hu => od_row _ _ _ _ _ hu) 1) (by decide) (by simp; omega) (by simp; omega) ?_)
        try (case c0 => rfl)
        intro v' w8 hown' hg
        have C7 := Lib.hid (C6.out.app (N := M ++ [⟨x1, x2, x3, x4⟩]) HA.out (by simpa using hown') hg)
        obtain ⟨p1, c1, rfl, -, -⟩ := own_shape C7.out.own
        clear hown' hg HO C6
        have HP : Hid (ClmTP a k n w (.returned (.slice p1 (M ++ [(⟨x1, x2, x3, x4⟩ : Od)]).length c1)) w8) := Lib.hid ⟨_, p1, c1, rfl, by simp; omega, fun h => by omega, C7.out.own, C7.out.st⟩
        clear C7
        go_wp2_with fail
        go_ret
        exact HP.out
    · have HP : Hid (ClmTP a k n w (.returned (.slice p M.length c)) wr) := Lib.hid ⟨M, p, c, rfl, by omega, fun _ => HCK.out, C1.out.own, C1.out.st⟩
      go_wp2_with fail
      go_ret
      exact HP.out
end Go.Proofs.Ytndfhgklhjfhkaa

/- identify: Plan. -/
namespace Go.Proofs.Ytndfhgklhjfhkaa
open Go.RowKit Bs
set_option maxRecDepth 100000 in
theorem res_pl_e {fn : Func} {p u : Tmp} (h : fn.results = #[.cell p 26, .tmp u]) (tmps : Array Value) (w : World) (g : Nat) (x y z : Value) (hp : tmps.getD p undef = .pointer (some ⟨g, 0, none⟩)) (hg : w.heap[g]? = some (.cells #[x, y, z] 26 (0, 0))) :
    (results fn tmps).run Try.prog w = .ok (.tuple #[.agg #[x, y, z], tmps.getD u undef]) w := by
  have hp' : tmps[p]?.getD undef = .pointer (some ⟨g, 0, none⟩) := by simpa using hp
  simp [results, h, hp', asAddr, run_loadVar_row w g 26 26 #[x, y, z] (0, 0) _ hg Try.underlying26 rfl (by kernel_rfl)]
set_option maxRecDepth 100000 in
theorem store3p {w : World} {b : Nat} {t : TypeId} {x y z : Value} (u0 u1 u2 : Value) (h : w.heap[b]? = some (.cells #[x, y, z] t (0, 0))) :
    (((w.setCell ⟨b, 0, none⟩ u0).setCell ⟨b, 1, none⟩ u1).setCell ⟨b, 2, none⟩ u2).heap[b]? = some (.cells #[u0, u1, u2] t (0, 0)) ∧ w.grownBy (((w.setCell ⟨b, 0, none⟩ u0).setCell ⟨b, 1, none⟩ u1).setCell ⟨b, 2, none⟩ u2) (some b) := by
  have h1 := heap_setCell_same w b 0 _ _ u0 h
  have h2 := heap_setCell_same _ b 1 _ _ u1 h1
  have h3 := heap_setCell_same _ b 2 _ _ u2 h2
  refine ⟨h3, ?_⟩
  exact grown_trans (grown_trans (grown_setCell w ⟨b, 0, none⟩ u0) (grown_setCell _ ⟨b, 1, none⟩ u1)) (grown_setCell _ ⟨b, 2, none⟩ u2)
set_option maxRecDepth 100000 in
theorem row3i {w : World} {b : Nat} {t : TypeId} {x y z : Value} (h : w.heap[b]? = some (.cells #[x, y, z] t (0, 0))) : (w.cell? ⟨b, 0, none⟩ = some x ∧ w.cell? ⟨b, 1, none⟩ = some y ∧ w.cell? ⟨b, 2, none⟩ = some z) ∧ ∀ o, w.frozen? ⟨b, o, none⟩ = false :=
  ⟨⟨cell_of_row _ _ _ _ _ _ h, cell_of_row _ _ _ _ _ _ h, cell_of_row _ _ _ _ _ _ h⟩, fun o => frozen_of_row _ _ o _ _ h⟩
/-- The error of Plan; its plan. -/
def plnX (l : List Od) (sub : Int) : Int := if ckO l ≠ 0 then ckO l else if inV sub 0 7 = false then 2 else if 24 < (e2K l sub 257).length then 3 else 0
def plnS (l : List Od) (sub : Int) : Int := if plnX l sub = 0 then sub else 0
def plnL (l : List Od) (sub : Int) : Int := if plnX l sub = 0 then lnK l sub else 0
def plnE (l : List Od) (sub : Int) : List Ed := if plnX l sub = 0 then e2K l sub 257 else []
/-- A plan in memory of the call's own. -/
def PlnPost (l : List Od) (sub : Int) (w : World) (e : Ending) (w' : World) : Prop :=
  ∃ p c, e = .returned (.tuple #[.agg #[.int .i64 (plnS l sub), .int .i64 (plnL l sub), .slice p (plnE l sub).length c], .int .i64 (plnX l sub)]) ∧ w'.ownsRow (w.heap.size + 1) 54 2 (.slice p (plnE l sub).length c) (plnE l sub).length ((plnE l sub).flatMap edC) ∧ w.grownBy w' none
set_option maxRecDepth 100000 in
theorem pln_no {l : List Od} {sub : Int} {x : Int} (h : plnX l sub = x) (hx : x ≠ 0) {w w' : World} (g : w.grownBy w' none) : PlnPost l sub w (.returned (.tuple #[.agg #[.int .i64 0, .int .i64 0, .slice none 0 0], .int .i64 x])) w' := by
  have h1 : plnX l sub ≠ 0 := by rw [h]; exact hx
  refine ⟨none, 0, ?_, ?_, g⟩
  · unfold plnS plnL plnE
    rw [if_neg h1, if_neg h1, if_neg h1, h]; rfl
  · unfold plnE
    rw [if_neg h1]
    exact World.ownsRow_nil _ _ _ _
set_option maxRecDepth 100000 in
set_option maxHeartbeats 6400000 in
theorem iplan_any (l : List Od) (p : Option Addr) (c : Nat) (sub : Int) (q : Nat → Prop) (w : World) (hR : RdF w q (.slice p l.length c) l.length (l.flatMap odC)) (hm : l.length ≤ 9223372036854775807) :
    Calls Try.prog 27 #[.slice p l.length c, .int .i64 sub] w fun e w' => PlnPost l sub w e w' := by
  obtain ⟨k1, k2⟩ := tone_box w #[.int .i64 0, .int .i64 0, .slice none 0 0] 26
  have H0 := Lib.hid (And.intro k1 (And.intro k2 (hR.old.keep k2)))
  have hsz : w.heap.size + 1 = (w.alloc (.cells #[.int .i64 0, .int .i64 0, .slice none 0 0] 26)).heap.size := by simp
  have HSZ := Lib.hid (Nat.le_of_eq hsz)
  clear k1 k2 hR hsz
  go_enter Try.func27, Try.ntmps27
  go_upto_region 1 with fail
  generalize w.alloc _ = wa at *
  go_wp2_with fail
  refine (icheck_any l p c _ wa H0.out.2.2 hm).mono ?_
  rintro e w1 ⟨rfl, hg⟩
  have H1 := Lib.hid (And.intro (kept_row H0.out.1 hg (by simp)) (And.intro (grown_trans H0.out.2.1 hg) (And.intro (H0.out.2.2.keep hg) (Nat.le_trans HSZ.out hg.size))))
  clear hg H0 HSZ
  by_cases h0 : ckO l = 0
  case neg =>
    have h0' : (ckO l != 0) = true := by simpa using h0
    have HX : Hid (plnX l sub = ckO l) := Lib.hid (by unfold plnX; rw [if_pos h0])
    have HN := Lib.hid h0
    clear h0
    obtain ⟨⟨c0, c1, c2⟩, f⟩ := row3i H1.out.1
    have f0 := f 0
    have f1 := f 1
    have f2 := f 2
    obtain ⟨t1, t2⟩ := store3p (.int .i64 0) (.int .i64 0) (.slice none 0 0) H1.out.1
    have HT := Lib.hid (And.intro t1 (grown_new H1.out.2.1 t2 (Nat.le_refl _)))
    clear t1 t2 f
    go_wp2_with fail
    refine bodyPost_ret (res_pl_e rfl _ _ w.heap.size _ _ _ rfl HT.out.1) rfl ?_
    exact pln_no HX.out HN.out HT.out.2
  have H0 := Lib.hid h0
  have hl := (ck_any h0).1
  rw [h0]
  clear h0
  obtain ⟨b, hb⟩ : ∃ b, inV sub 0 7 = b := ⟨_, rfl⟩
  have HB := Lib.hid hb
  clear hb
  go_wp2_with fail
  refine (ivs_lit sub _ HB.out w1).mono ?_
  rintro e w' ⟨rfl, rfl⟩
  cases b
  case false =>
    have HX : Hid (plnX l sub = 2) := Lib.hid (by unfold plnX; rw [if_neg (fun h => h H0.out), if_pos HB.out])
    obtain ⟨⟨c0, c1, c2⟩, f⟩ := row3i H1.out.1
    have f0 := f 0
    have f1 := f 1
    have f2 := f 2
    obtain ⟨t1, t2⟩ := store3p (.int .i64 0) (.int .i64 0) (.slice none 0 0) H1.out.1
    have HT := Lib.hid (And.intro t1 (grown_new H1.out.2.1 t2 (Nat.le_refl _)))
    clear t1 t2 f
    go_wp2_with fail
    refine bodyPost_ret (res_pl_e rfl _ _ w.heap.size _ _ _ rfl HT.out.1) rfl ?_
    exact pln_no HX.out (by decide) HT.out.2
  go_wp2_with fail
  refine (ilen_any l p c sub _ w1 H1.out.2.2.1 hm).mono ?_
  rintro e w2 ⟨rfl, hg⟩
  have H2 := Lib.hid (And.intro (kept_row H1.out.1 hg (by simp)) (And.intro (grown_trans H1.out.2.1 hg) (And.intro (H1.out.2.2.1.keep hg) (Nat.le_trans H1.out.2.2.2 hg.size))))
  have HL : Hid (lnO l sub = lnK l sub) := Lib.hid (if_pos H0.out)
  rw [HL.out]
  clear hg H1 HL
  go_wp2_with fail
  refine (iedges_any l p c sub _ w2 H2.out.2.2.1 H0.out).mono ?_
  rintro e w3 ⟨p3, c3, rfl, ho, hg⟩
  have H3 := Lib.hid (And.intro (kept_row H2.out.1 hg (by simp)) (And.intro (grown_trans H2.out.2.1 hg) (own_low ho H2.out.2.2.2)))
  clear hg ho H2
  obtain ⟨E, hE⟩ : ∃ E, e2K l sub 257 = E := ⟨_, rfl⟩
  have HE := Lib.hid hE
  rw [hE] at H3 ⊢
  clear hE
  obtain ⟨n1, n2⟩ := tone_box w3 #[.int .i64 sub, .int .i64 (lnK l sub), .slice p3 E.length c3] 26
  have H4 : Hid (_ ∧ _ ∧ _ ∧ _) := Lib.hid (And.intro (kept_row H3.out.1 n2 (by simp)) (And.intro (grown_trans H3.out.2.1 n2) (And.intro (H3.out.2.2.kept n2 (by cases (Value.slice p3 E.length c3).ownBlock <;> simp)) n1)))
  clear n1 n2 H3
  go_upto_region 7 with fail
  generalize w3.alloc _ = w4 at *
  obtain ⟨⟨d0, d1, d2⟩, -⟩ := row3i H4.out.2.2.2
  obtain ⟨⟨c0, c1, c2⟩, f⟩ := row3i H4.out.1
  have f0 := f 0
  have f1 := f 1
  have f2 := f 2
  clear f
  by_cases h24 : 24 < E.length
  · have h24' : (24 : Int) < (E.length : Int) := by omega
    have HX : Hid (plnX l sub = 3) := Lib.hid (by unfold plnX; rw [if_neg (fun h => h H0.out), if_neg (by rw [HB.out]; decide), HE.out, if_pos h24])
    obtain ⟨t1, t2⟩ := store3p (.int .i64 0) (.int .i64 0) (.slice none 0 0) H4.out.1
    have HT := Lib.hid (And.intro t1 (grown_new H4.out.2.1 t2 (Nat.le_refl _)))
    clear t1 t2 h24
    go_wp2_with fail
    refine bodyPost_ret (res_pl_e rfl _ _ w.heap.size _ _ _ rfl HT.out.1) rfl ?_
    exact pln_no HX.out (by decide) HT.out.2
  · have h24' : ¬ (24 : Int) < (E.length : Int) := by omega
    have HX : Hid (plnX l sub = 0) := Lib.hid (by unfold plnX; rw [if_neg (fun h => h H0.out), if_neg (by rw [HB.out]; decide), HE.out, if_neg h24])
    obtain ⟨t1, t2⟩ := store3p (.int .i64 sub) (.int .i64 (lnK l sub)) (.slice p3 E.length c3) H4.out.1
    have HT := Lib.hid t1
    have HP : Hid (PlnPost l sub w (.returned (.tuple #[.agg #[.int .i64 sub, .int .i64 (lnK l sub), .slice p3 E.length c3], .int .i64 0])) _) := Lib.hid ⟨p3, c3, by unfold plnS plnL plnE; rw [if_pos HX.out, if_pos HX.out, if_pos HX.out, HX.out, HE.out], by
      unfold plnE
      rw [if_pos HX.out, HE.out]
      refine H4.out.2.2.1.kept t2 ?_
      cases hv : (Value.slice p3 E.length c3).ownBlock with
      | none => exact .inl rfl
      | some g =>
        refine .inr fun e => ?_
        have := (H4.out.2.2.1.lt g hv).1
        have := Option.some.inj e
        omega, grown_new H4.out.2.1 t2 (Nat.le_refl _)⟩
    clear t1 t2 h24
    go_wp2_with fail
    refine bodyPost_ret (res_pl_e rfl _ _ w.heap.size _ _ _ rfl HT.out) rfl ?_
    exact HP.out
end Go.Proofs.Ytndfhgklhjfhkaa

/- identify: Resolve, its walk. -/
namespace Go.Proofs.Ytndfhgklhjfhkaa
open Go.RowKit Bs
set_option maxRecDepth 100000 in
theorem mid_at {l out : List Od} {k : Nat} {x : Od} (hl : out.length = k) (hx : l[k]? = some x) : (out ++ l.drop k)[k]? = some x := by
  rw [List.getElem?_append_right (by omega), List.getElem?_drop, hl]
  simpa using hx
set_option maxRecDepth 100000 in
theorem mid_keep {l out : List Od} {k : Nat} {x : Od} (hx : l[k]? = some x) : out ++ l.drop k = (out ++ [x]) ++ l.drop (k + 1) := by
  have hk := (List.getElem?_eq_some_iff.1 hx).1
  have h2 := (List.getElem?_eq_some_iff.1 hx).2
  rw [List.drop_eq_getElem_cons hk, h2, List.append_assoc]; rfl
set_option maxRecDepth 100000 in
theorem mid_set {l out : List Od} {k : Nat} {x y : Od} (hl : out.length = k) (hx : l[k]? = some x) : (out ++ l.drop k).set k y = (out ++ [y]) ++ l.drop (k + 1) := by
  have hk := (List.getElem?_eq_some_iff.1 hx).1
  rw [List.set_append_right _ _ (by omega), hl, Nat.sub_self, List.drop_eq_getElem_cons hk, List.set_cons_zero, List.append_assoc]; rfl
set_option maxRecDepth 100000 in
set_option maxHeartbeats 12800000 in
theorem ires_any (l : List Od) (p : Option Addr) (c : Nat) (sub : Int) (q : Nat → Prop) (w : World) (hR : RdF w q (.slice p l.length c) l.length (l.flatMap odC)) (hnil : p = none → c = 0) (hc : l.length ≤ c ∧ c ≤ 9223372036854775807) :
    Calls Try.prog 31 #[.slice p l.length c, .int .i64 sub] w fun e w' => ResPost l sub w e w' := by
  have HZ := (zero_of_info info_cs).1
  have HZ2 := (zero_of_info info_bs).1
  have HR := Lib.hid hR.old
  clear hR
  go_enter Try.func31, Try.ntmps31
  go_wp2_with fail
  refine (icheck_any l p c _ w HR.out (by omega)).mono ?_
  rintro e w1 ⟨rfl, hg⟩
  have G1 := Lib.hid hg
  clear hg
  by_cases h0 : ckO l = 0
  case neg =>
    have h0' : (ckO l != 0) = true := by simpa using h0
    have HX : Hid (rsX l sub = ckO l ∧ rsO l sub = []) := Lib.hid ⟨by unfold rsX; rw [if_pos h0], by unfold rsO; rw [if_pos h0]⟩
    clear h0
    go_wp2_with fail
    go_ret2
    exact res_no HX.out.1 HX.out.2 G1.out
  have H0 := Lib.hid h0
  have hl := (ck_any h0).1
  rw [h0]
  clear h0
  go_wp2_with fail
  refine (icln_any l p c _ w1 (HR.out.keep G1.out) hnil hc (by omega)).mono ?_
  rintro e w2 ⟨v, rfl, ho, hg⟩
  obtain ⟨pl, cl, rfl, -, -⟩ := own_shape ho
  have H2 := Lib.hid (And.intro (own_low ho G1.out.size) (And.intro (grown_trans G1.out hg) (fun g (hgb : (Value.slice pl l.length cl).ownBlock = some g) => (ho.lt g hgb).2)))
  clear ho hg G1
  go_wp2_with fail
  refine (icount_any l p c sub _ w2 (HR.out.keep H2.out.2.1) (by omega) (fun x hx => ck_id H0.out hx)).mono ?_
  rintro e w3 ⟨rfl, hg⟩
  have H3 := Lib.hid (And.intro (H2.out.1.kept hg (by cases (Value.slice pl l.length cl).ownBlock <;> simp)) (And.intro (grown_trans H2.out.2.1 hg) (fun g (hgb : (Value.slice pl l.length cl).ownBlock = some g) => Nat.lt_of_lt_of_le (H2.out.2.2 g hgb) hg.size)))
  clear hg H2
  obtain ⟨F, hF⟩ : ∃ F, arrV 257 (ivN fun k => cnt l sub k) = F := ⟨_, rfl⟩
  have hFs : F.size = 257 := by rw [← hF, arr_size]
  have hst := run_storeCells_new (P := Try.prog) w3 92 (arrV 257 (ivN fun _ => 0)) F (by rw [hFs]; exact (zero_of_info info_cs).2) (by rw [hFs, arr_size]) (by rw [← hF]; exact arr_one fun _ => rfl)
  have HST := Lib.hid hst
  have HFF := Lib.hid hF
  rw [hF]
  clear hst hF
  go_wp2_with fail
  rw [HST.out, Result.andThen_ok, Oper.upon_skip]
  obtain ⟨n1, n2⟩ := tone_box w3 F 92
  obtain ⟨m1, m2⟩ := tone_box (w3.alloc (.cells F 92)) (arrV 257 (bvN fun _ => false)) 98
  have hsz : (w3.alloc (.cells F 92)).heap.size = w3.heap.size + 1 := by simp
  have E0 : Hid (RV w l p c w3.heap.size (w3.alloc (.cells F 92)).heap.size (.slice pl l.length cl) ([] ++ l.drop 0) (cgv l sub []) (fun j => decide (0 < cnt (l.take 0) sub (j : Int))) _) := Lib.hid ⟨by
      rw [List.nil_append, List.drop_zero]
      exact (H3.out.1.kept n2 (by cases (Value.slice pl l.length cl).ownBlock <;> simp)).kept m2 (by cases (Value.slice pl l.length cl).ownBlock <;> simp), H3.out.2.2, kept_row (by rw [n1]; congr 2; rw [← HFF.out]; exact arr_congr fun j _ => by unfold ivN cgv; simp) m2 (by simp), by rw [m1]; congr 2, ((HR.out.keep H3.out.2.1).keep n2).keep m2, grown_trans (grown_trans H3.out.2.1 n2) m2, ⟨H3.out.2.1.size, by omega⟩⟩
  rw [hsz] at E0
  clear n1 n2 m1 m2 hsz HST HFF hFs H3 HZ
  go_upto_region 6 with fail
  generalize (w3.alloc _).alloc _ = w4 at *
  generalize w3.heap.size = B1 at *
  generalize hB2 : B1 + 1 = B2 at *
  clear HZ2 hB2
  have R0 : Hid (rsv l sub 0 = some ([], [])) := Lib.hid rfl
  go_wp2_with fail
  go_loopw [26] (fun a wr => ∃ (k : Nat) (out : List Od) (giv : List Nat), k ≤ l.length ∧ a = .int .i64 (k : Int) ∧ Hid (rsv l sub k = some (out, giv)) ∧ Hid (RV w l p c B1 B2 (.slice pl l.length cl) (out ++ l.drop k) (cgv l sub giv) (fun j => decide (0 < cnt (l.take k) sub (j : Int))) wr)) (fun a _ => l.length - (RowKit.intOf a).toNat)
  case atStart => exact ⟨0, [], [], by omega, rfl, R0, E0⟩
  case round =>
    obtain ⟨w5, rfl⟩ : ∃ w5, w5 = wr := ⟨_, rfl⟩
    obtain ⟨k, out, giv, hk, rfl, HRS, N⟩ := hrel
    clear E0 R0
    by_cases hlt : k < l.length
    · obtain ⟨-, b, off, rfl, -, hcc⟩ := od_cells N.out.rd (by omega)
      obtain ⟨x, hx⟩ : ∃ x, l[k]? = some x := ⟨_, List.getElem?_eq_getElem hlt⟩
      obtain ⟨a0, a1, a2, a3⟩ := hcc k x hx
      obtain ⟨m, hm1⟩ : ∃ m : Nat, x.i = (m : Int) := ⟨x.i.toNat, by have := ck_id H0.out (List.mem_of_getElem? hx); omega⟩
      have hm2 : m < 257 := by have := ck_id H0.out (List.mem_of_getElem? hx); omega
      have hol := (rsv_len hk HRS.out).1
      have hgl := (rsv_len hk HRS.out).2
      have HX := Lib.hid (And.intro hx (And.intro hol hgl))
      have HB := Lib.hid (heap_alloc_new w5 (.cells #[.int .i64 x.r, .int .i64 x.s, .int .i64 x.i, .int .i64 x.l] 62))
      have HG := Lib.hid (World.grownBy_alloc w5 (.cells #[.int .i64 x.r, .int .i64 x.s, .int .i64 x.i, .int .i64 x.l] 62) none)
      have HM1 := Lib.hid hm1
      clear hcc hx hm1 hol hgl
      go_upto_region 9 with fail
      clear a0 a1 a2 a3
      generalize w5.alloc _ = w6 at *
      have N1 := Lib.hid (N.out.keep HG.out)
      rw [HM1.out] at HB
      obtain ⟨d0, d1, d2, d3⟩ := row4i HB.out
      obtain ⟨kb, hkb⟩ : ∃ b : Bool, decide (0 < cnt (l.take k) sub (m : Int)) = b := ⟨_, rfl⟩
      have e1 : w6.cell? ⟨B2, m, none⟩ = some (.bool kb) := by rw [← hkb]; exact arr_row N1.out.kb hm2
      have f1 := frozen_of_row _ _ m _ _ N1.out.kb
      have HKB := Lib.hid hkb
      clear hkb N HG
      by_cases h1 : x.s = sub
      · have h1' : (x.s != sub) = false := by simpa using h1
        have H1 := Lib.hid h1
        clear h1
        cases kb with
        | false =>
          have N2 := N1.out.putK hm2
          have NK : Hid (rsv l sub (k + 1) = some (out ++ [x], giv)) := Lib.hid (rsv_keep HRS.out HX.out.1 (by
            unfold erl
            rw [decide_eq_false_iff_not]
            rintro ⟨-, h⟩
            rw [HM1.out] at h
            exact of_decide_eq_false HKB.out h))
          have HKF : (fun j : Nat => if j = m then true else decide (0 < cnt (l.take k) sub (j : Int))) = fun j : Nat => decide (0 < cnt (l.take (k + 1)) sub (j : Int)) := by
            funext j
            rw [cnt_take HX.out.1]
            by_cases hj : j = m
            · subst hj
              rw [if_pos rfl, if_pos ⟨H1.out, HM1.out⟩]
              exact (decide_eq_true (by omega)).symm
            · rw [if_neg hj, if_neg (fun e => hj (by have := e.2; have := HM1.out; omega))]; rfl
          rw [HKF, mid_keep HX.out.1] at N2
          have N3 := Lib.hid N2
          clear N2 HKF N1
          go_wp2_with fail
          exact ⟨⟨k + 1, _, _, by omega, congrArg _ (by omega), NK, N3⟩, by simp only [RowKit.intOf]; omega⟩
        | true =>
          have HEL : Hid (erl l sub k x = true) := Lib.hid (decide_eq_true ⟨H1.out, by rw [HM1.out]; exact of_decide_eq_true HKB.out⟩)
          have hsz1 : (Try.prog.info? 92).map (·.size) = some 257 := (zero_of_info info_cs).2
          have hus := Try.underlying92
          have HSZ := Lib.hid hsz1
          have HU := Lib.hid hus
          clear hsz1 hus
          go_wp2_with fail
          refine wp_load_row 92 (.tmp 8) rfl B1 rfl _ (arrV 257 (ivN (cgv l sub giv))) _ _ N1.out.cb HU.out rfl (by rw [arr_size]; exact HSZ.out) ?_
          go_wp2_with fail
          refine (ifree_any (cgv l sub giv) w6).mono ?_
          rintro e w7 ⟨n, ok, rfl, hf, hg⟩
          have N2 := Lib.hid (N1.out.keep hg)
          rcases frL_is hf with ⟨rfl, i, rfl, hi1, hi2, hi0, hfr⟩ | ⟨rfl, hfr⟩
          · have NK : Hid (rsv l sub (k + 1) = some (out ++ [{ x with i := (i : Int) }], giv ++ [i])) := Lib.hid (rsv_new HRS.out HX.out.1 HEL.out hfr)
            have HCT : Hid (cnt (l.take (k + 1)) sub = fun j => cnt (l.take k) sub j + if x.s = sub ∧ x.i = j then 1 else 0) := Lib.hid (by funext j; exact cnt_take HX.out.1 sub j)
            have HKF : Hid ((fun j : Nat => decide (0 < cnt (l.take k) sub (j : Int))) = fun j : Nat => decide (0 < cnt (l.take (k + 1)) sub (j : Int))) := Lib.hid (by
              funext j
              rw [congrFun HCT.out (j : Int)]
              by_cases hj : x.s = sub ∧ x.i = (j : Int)
              · have hjm : (j : Int) = (m : Int) := hj.2.symm.trans HM1.out
                rw [if_pos hj, hjm]
                have := of_decide_eq_true HKB.out
                rw [decide_eq_true this]
                exact (decide_eq_true (by omega)).symm
              · rw [if_neg hj]; rfl)
            have hat := mid_at (l := l) HX.out.2.1 HX.out.1
            have hgb : ∃ g, pl = some ⟨g, 0, none⟩ := by
              rcases N2.out.own.2 with ⟨e, _⟩ | ⟨g, cap, cur, e, _⟩
              · have h5 := congrArg Value.ownBlock e
                injection e with e1 e2 e3
                omega
              · injection e with e1 e2 e3
                exact ⟨g, e1⟩
            obtain ⟨g, rfl⟩ := hgb
            have N3 := N2.out.putL hat (i : Int)
            rw [mid_set HX.out.2.1 HX.out.1] at N3
            have hrow : ∃ cur : Array Value, w7.heap[g]? = some (.cells cur 62 (0, 0)) ∧ k * 4 + 2 < cur.size := by
              rcases N2.out.own.2 with ⟨e, _⟩ | ⟨g', cap, cur, e, _, h1, h2, _, h3, _⟩
              · cases e
              · injection e with e1 e2 e3
                injection e1 with e1
                injection e1 with e1
                subst e1
                refine ⟨cur, h1, ?_⟩
                have : (out ++ l.drop k).length = l.length := by rw [List.length_append, List.length_drop, HX.out.2.1]; omega
                omega
            obtain ⟨cur, hc1, hc2⟩ := hrow
            have g2 := frozen_of_row _ _ (k * 4 + 2) _ _ hc1
            have g1 : w7.cell? ⟨g, k * 4 + 2, none⟩ = some (cur[k * 4 + 2]) := by rw [cell_of_row _ _ _ _ _ _ hc1]; exact Array.getElem?_eq_getElem hc2
            obtain ⟨u9, hu9⟩ : ∃ u9, cur[k * 4 + 2] = u9 := ⟨_, rfl⟩
            rw [hu9] at g1
            have hi3 : i < 257 := by omega
            have b1 : (w7.setCell ⟨g, k * 4 + 2, none⟩ (.int .i64 (i : Int))).cell? ⟨B1, i, none⟩ = some (.int .i64 ((cgv l sub giv i : Nat) : Int)) := arr_row N3.cb hi3
            have b2 := frozen_of_row _ _ i _ _ N3.cb
            rw [hi0] at b1
            have N4 := N3.putC hi3 (cgv l sub giv i + 1)
            rw [← cgv_snoc, HKF.out, hi0] at N4
            have N5 := Lib.hid N4
            have hkl : (k : Int) < (l.length : Int) := by omega
            clear N4 N3 N2 N1 hat hc1 hc2 hu9 hf hg hfr HKF HCT hi0 HEL
            go_wp2_with fail
            exact ⟨⟨k + 1, _, _, by omega, congrArg _ (by omega), NK, N5⟩, by simp only [RowKit.intOf]; omega⟩
          · have HX2 : Hid (rsX l sub = 9 ∧ rsO l sub = []) := Lib.hid (by
              have h9 := rsv_none_le (rsv_none HRS.out HX.out.1 HEL.out hfr) (show k + 1 ≤ l.length by omega)
              unfold rsX rsO
              rw [if_neg (show ¬ ckO l ≠ 0 from fun h => h H0.out), if_neg (show ¬ ckO l ≠ 0 from fun h => h H0.out), h9]
              exact ⟨rfl, rfl⟩)
            clear hf hg hfr N1
            go_wp2_with fail
            go_ret2
            exact res_no HX2.out.1 HX2.out.2 N2.out.gr
      · have h1' : (x.s != sub) = true := by simpa using h1
        have NK : Hid (rsv l sub (k + 1) = some (out ++ [x], giv)) := Lib.hid (rsv_keep HRS.out HX.out.1 (decide_eq_false (fun h => h1 h.1)))
        have N2 := N1.out
        have HKF : (fun j : Nat => decide (0 < cnt (l.take k) sub (j : Int))) = fun j : Nat => decide (0 < cnt (l.take (k + 1)) sub (j : Int)) := by
          funext j
          rw [cnt_take HX.out.1, if_neg (fun e => h1 e.1)]; rfl
        rw [HKF, mid_keep HX.out.1] at N2
        have N3 := Lib.hid N2
        clear N2 HKF N1 h1
        go_wp2_with fail
        exact ⟨⟨k + 1, _, _, by omega, congrArg _ (by omega), NK, N3⟩, by simp only [RowKit.intOf]; omega⟩
    · obtain rfl : k = l.length := by omega
      have hol := (rsv_len hk HRS.out).1
      have hP : ResPost l sub w (.returned (.tuple #[.slice pl l.length cl, .int .i64 0])) w5 := by
        have h1 : rsX l sub = 0 := by unfold rsX; rw [if_neg (fun h => h H0.out), HRS.out]; rfl
        have h2 : rsO l sub = out := by unfold rsO; rw [if_neg (fun h => h H0.out), HRS.out]; rfl
        have h3 := N.out.own
        rw [List.drop_length, List.append_nil] at h3
        refine ⟨pl, cl, by rw [h1, h2, hol], ?_, N.out.gr⟩
        rw [h2]
        rw [hol] at h3 ⊢
        exact h3
      have HP := Lib.hid hP
      clear hP N
      go_wp2_with fail
      go_ret2
      exact HP.out
end Go.Proofs.Ytndfhgklhjfhkaa

/- identify: Place and At, of the program and of the reference. -/
namespace Go.Proofs.Ytndfhgklhjfhkaa
open Go.RowKit Bs
/-- The set and the bit of an ID. -/
def plOk (id len : Int) : Bool := vl len && inV id 1 256
def plS (id len : Int) : Int := if plOk id len = true then (id - 1).tdiv len else 0
def plB (id len : Int) : Int := if plOk id len = true then (id - 1) % len else 0
set_option maxRecDepth 100000 in
theorem pl_fields {id len : Int} (h : plOk id len = true) : (len = 8 ∨ len = 16 ∨ len = 32 ∨ len = 64) ∧ 1 ≤ id ∧ id ≤ 256 := by
  unfold plOk inV at h
  rw [Bool.and_eq_true, decide_eq_true_eq] at h
  exact ⟨vl_cases h.1, h.2⟩
set_option maxRecDepth 100000 in
set_option maxHeartbeats 3200000 in
theorem iplc_any (id len : Int) (w : World) :
    Calls Try.prog 37 #[.int .i64 id, .int .i64 len] w fun e w' => e = .returned (.tuple #[.int .i64 (plS id len), .int .i64 (plB id len), .bool (plOk id len)]) ∧ w.grownBy w' none := by
  obtain ⟨b1, h1⟩ : ∃ b, vl len = b := ⟨_, rfl⟩
  obtain ⟨b2, h2⟩ : ∃ b, inV id 1 256 = b := ⟨_, rfl⟩
  have HO : Hid (plOk id len = (b1 && b2)) := Lib.hid (by unfold plOk; rw [h1, h2])
  have HL := Lib.hid h1
  have HI := Lib.hid h2
  clear h1 h2
  go_enter Try.func37, Try.ntmps37
  cases b1
  case false =>
    go_wp2_with (go_at_call 53; refine (vlp_lit _ _ HL.out _).mono ?_; rintro e w' ⟨rfl, rfl⟩)
    go_ret3
    have h0 : plOk id len = false := HO.out
    exact ⟨by unfold plS plB; rw [h0]; rfl, grown_refl _ _⟩
  cases b2
  case false =>
    go_wp2_with (first | (go_at_call 53; refine (vlp_lit _ _ HL.out _).mono ?_; rintro e w' ⟨rfl, rfl⟩) | (go_at_call 67; refine (ivi_lit _ _ HI.out _).mono ?_; rintro e w' ⟨rfl, rfl⟩))
    go_ret3
    have h0 : plOk id len = false := HO.out
    exact ⟨by unfold plS plB; rw [h0]; rfl, grown_refl _ _⟩
  have h0 : plOk id len = true := HO.out
  obtain ⟨hl, hi1, hi2⟩ := pl_fields h0
  have hS : plS id len = (id - 1).tdiv len := by unfold plS; rw [if_pos h0]
  have hB : plB id len = (id - 1) % len := by unfold plB; rw [if_pos h0]
  rw [h0, hS, hB]
  clear hS hB h0
  obtain ⟨m, rfl⟩ : ∃ m : Int, id = m + 1 := ⟨id - 1, by omega⟩
  rw [show m + 1 - 1 = m by omega]
  have e1 : m + 1 - 1 = m := by omega
  have e2 : IntKind.i64.wrap (m + 1 - 1) = m := by rw [e1, IntWalk.i64_in _ (by omega)]
  have e3 : IntKind.i64.wrap m = m := IntWalk.i64_in _ (by omega)
  have hm0 : 0 ≤ m := by omega
  have hm1 : m ≤ 255 := by omega
  have d0 : IntKind.i64.wrap (m.tdiv len) = m.tdiv len := IntWalk.i64_in _ (by
    rw [Int.tdiv_eq_ediv_of_nonneg hm0]
    rcases hl with rfl | rfl | rfl | rfl <;> omega)
  have d1 : IntKind.i64.wrap (m % len) = m % len := IntWalk.i64_in _ (by
    rcases hl with rfl | rfl | rfl | rfl <;> omega)
  have hn0 : (len == 0) = false := by rcases hl with rfl | rfl | rfl | rfl <;> rfl
  have hn1 : ¬ len = 0 := by rcases hl with rfl | rfl | rfl | rfl <;> decide
  clear hi1 hi2 hl
  go_wp2_with (first | (go_at_call 53; refine (vlp_lit _ _ HL.out _).mono ?_; rintro e w' ⟨rfl, rfl⟩) | (go_at_call 67; refine (ivi_lit _ _ HI.out _).mono ?_; rintro e w' ⟨rfl, rfl⟩))
  go_region
  all_goals
    go_wp2_with fail
    go_ret3
    exact ⟨rfl, grown_drew (grown_refl _ _)⟩
end Go.Proofs.Ytndfhgklhjfhkaa

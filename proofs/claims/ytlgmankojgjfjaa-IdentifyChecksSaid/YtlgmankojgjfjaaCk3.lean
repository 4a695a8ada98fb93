/- Parts of the proof, packed: IdCnt, IdSeek, IdChk, IdFre, IdCon, IdLen, IdLay, IdSrt. -/
import Derived.Test.YtlgmankojgjfjaaCk2
import Derived.Shelf.SlSortCmp.WholeK
import Derived.Shelf.SlSortCmp.NoneTotal
/- identify: count. -/
namespace Go.Proofs.Ytlgmankojgjfjaa
open Go.RowKit Bs
/-- While claims are counted: the result's box, the counts. -/
structure CN (W : World) (q : Nat → Prop) (l : List Od) (p : Option Addr) (c : Nat) (f : Nat → Nat) (w : World) : Prop where
  rb : w.heap[W.heap.size]? = some (.cells (arrV 257 (ivN fun _ => 0)) 86 (0, 0))
  cb : w.heap[W.heap.size + 1]? = some (.cells (arrV 257 (ivN f)) 86 (0, 0))
  rd : RdF w (· < W.heap.size) (.slice p l.length c) l.length (l.flatMap odC)
  gr : W.grownBy w none
section
variable {W w w1 : World} {q : Nat → Prop} {l : List Od} {p : Option Addr} {c : Nat} {f : Nat → Nat}
set_option maxRecDepth 100000 in
theorem CN.keep (h : CN W q l p c f w) (g : w.grownBy w1 none) : CN W q l p c f w1 := ⟨kept_row h.rb g (by simp), kept_row h.cb g (by simp), h.rd.keep g, grown_trans h.gr g⟩
set_option maxRecDepth 100000 in
theorem CN.start (hR : RdF W q (.slice p l.length c) l.length (l.flatMap odC)) : CN W q l p c (fun _ => 0) ((W.alloc (.cells (arrV 257 (ivN fun _ => 0)) 86)).alloc (.cells (arrV 257 (ivN fun _ => 0)) 86)) := by
  obtain ⟨k1, k2, k3, k4⟩ := two_boxes W (arrV 257 (ivN fun _ => 0)) (arrV 257 (ivN fun _ => 0)) 86 86
  exact ⟨k1, k2, hR.old.keep k3, k3⟩
set_option maxRecDepth 100000 in
theorem CN.put (h : CN W q l p c f w) {k : Nat} (hk : k < 257) (m : Nat) : CN W q l p c (fun j => if j = k then m else f j) (w.setCell ⟨W.heap.size + 1, k, none⟩ (.int .i64 (m : Int))) := by
  obtain ⟨h1, h2⟩ := arr_put (.int .i64 (m : Int)) h.cb hk
  refine ⟨kept_row h.rb h2 (fun e => by have := Option.some.inj e; omega), ?_, h.rd.grown h2 (fun b hb e => by have := Option.some.inj e; omega), grown_new h.gr h2 (by omega)⟩
  rw [h1]
  congr 2
  refine arr_congr fun j _ => ?_
  unfold ivN
  show (if j = k then _ else _) = Value.int .i64 (((if j = k then m else f j : Nat)) : Int)
  split <;> rfl
end
set_option maxRecDepth 100000 in
set_option maxHeartbeats 3200000 in
theorem icount_any (l : List Od) (p : Option Addr) (c : Nat) (sub : Int) (q : Nat → Prop) (w : World) (hR : RdF w q (.slice p l.length c) l.length (l.flatMap odC)) (hm : l.length ≤ 1000) (hv : ∀ x ∈ l, 1 ≤ x.i ∧ x.i ≤ 256) :
    Calls Try.prog 50 #[.slice p l.length c, .int .i64 sub] w fun e w' => e = .returned (.agg (arrV 257 (ivN fun k => cnt l sub k))) ∧ w.grownBy w' none := by
  have HZ := (zero_of_info info_cs).1
  have H0 := Lib.hid (CN.start hR)
  have HV := Lib.hid hv
  clear hR hv
  go_enter Try.func50, Try.ntmps50
  go_upto_region 2 with fail
  generalize (w.alloc _).alloc _ = wa at *
  have H1 : Hid (CN w q l p c (fun j => cnt (l.take 0) sub j) wa) := H0
  clear HZ H0
  go_wp2_with fail
  go_loopw [10] (fun a wr => ∃ k : Nat, k ≤ l.length ∧ a = .int .i64 (k : Int) ∧ Hid (CN w q l p c (fun j => cnt (l.take k) sub j) wr)) (fun a _ => l.length - (RowKit.intOf a).toNat)
  case atStart => exact ⟨0, Nat.zero_le _, rfl, H1⟩
  case round =>
    obtain ⟨w2, rfl⟩ : ∃ w2, w2 = wr := ⟨_, rfl⟩
    obtain ⟨k, hk, rfl, H⟩ := hrel
    clear H1
    by_cases hlt : k < l.length
    · obtain ⟨-, b, off, rfl, -, hc⟩ := od_cells H.out.rd (by omega)
      obtain ⟨x, hx⟩ : ∃ x, l[k]? = some x := ⟨_, List.getElem?_eq_getElem hlt⟩
      obtain ⟨a0, a1, a2, a3⟩ := hc k x hx
      obtain ⟨m, hm1⟩ : ∃ m : Nat, x.i = (m : Int) := ⟨x.i.toNat, by have := HV.out x (List.mem_of_getElem? hx); omega⟩
      have hm2 : m < 257 := by have := HV.out x (List.mem_of_getElem? hx); omega
      have HX := Lib.hid hx
      have HB := Lib.hid (heap_alloc_new w2 (.cells #[.int .i64 x.r, .int .i64 x.s, .int .i64 x.i, .int .i64 x.l] 50))
      have HG := Lib.hid (World.grownBy_alloc w2 (.cells #[.int .i64 x.r, .int .i64 x.s, .int .i64 x.i, .int .i64 x.l] 50) none)
      have HM1 := Lib.hid hm1
      clear hc hx hm1
      go_upto_region 5 with fail
      clear a0 a1 a2 a3
      generalize w2.alloc _ = w3 at *
      have H2 := Lib.hid (H.out.keep HG.out)
      rw [HM1.out] at HB
      obtain ⟨d0, d1, d2, d3⟩ := row4i HB.out
      obtain ⟨n, hn⟩ : ∃ n : Nat, cnt (l.take k) sub m = n := ⟨_, rfl⟩
      have hnl : n ≤ 1000 := by have := cnt_le (l.take k) sub m; have := List.length_take_le k l; omega
      have e1 : w3.cell? ⟨w.heap.size + 1, m, none⟩ = some (.int .i64 (n : Int)) := by
        rw [← hn]; exact arr_row H2.out.cb hm2
      have f1 := frozen_of_row _ _ m _ _ H2.out.cb
      have HT : Hid (x.s = sub → (fun j : Nat => cnt (l.take (k + 1)) sub j) = fun j => if j = m then n + 1 else cnt (l.take k) sub j) := Lib.hid (fun hs => by
        funext j
        rw [cnt_take HX.out, ← hn]
        by_cases hj : j = m
        · subst hj
          rw [if_pos ⟨hs, HM1.out⟩, if_pos rfl]
        · rw [if_neg (fun e => hj (by have := e.2; have := HM1.out; omega)), if_neg hj]; rfl)
      have HF : Hid (x.s ≠ sub → (fun j : Nat => cnt (l.take (k + 1)) sub j) = fun j : Nat => cnt (l.take k) sub j) := Lib.hid (fun hs => by
        funext j
        rw [cnt_take HX.out, if_neg (fun e => hs e.1)]; rfl)
      have HP := Lib.hid (H2.out.put hm2 (n + 1))
      clear hn H HG
      by_cases h1 : x.s = sub
      · have h1' : (x.s == sub) = true := by simpa using h1
        have HN : Hid (CN w q l _ c (fun j => cnt (l.take (k + 1)) sub j) _) := Lib.hid (by rw [HT.out h1]; exact HP.out)
        clear HT HF HP h1
        go_wp2_with fail
        exact ⟨⟨k + 1, by omega, congrArg _ (by omega), HN⟩, by simp only [RowKit.intOf]; omega⟩
      · have h1' : (x.s == sub) = false := by simpa using h1
        have HN : Hid (CN w q l _ c (fun j => cnt (l.take (k + 1)) sub j) w3) := Lib.hid (by rw [HF.out h1]; exact H2.out)
        clear HT HF HP h1
        go_wp2_with fail
        exact ⟨⟨k + 1, by omega, congrArg _ (by omega), HN⟩, by simp only [RowKit.intOf]; omega⟩
    · obtain rfl : k = l.length := by omega
      have HE : Hid (CN w q l p c (fun j => cnt l sub j) w2) := by rw [List.take_length] at H; exact H
      clear H
      have hsz : (Try.prog.info? 86).map (·.size) = some 257 := (zero_of_info info_cs).2
      have hus := Try.underlying86
      have HSZ := Lib.hid hsz
      have HU := Lib.hid hus
      clear hsz hus
      go_wp2_with fail
      refine wp_load_row 86 (.tmp 5) rfl (w.heap.size + 1) rfl _ (arrV 257 (ivN fun j : Nat => cnt l sub j)) _ _ HE.out.cb HU.out rfl (by rw [arr_size]; exact HSZ.out) ?_
      obtain ⟨F, hF⟩ : ∃ F, (arrV 257 (ivN fun j : Nat => cnt l sub j)) = F := ⟨_, rfl⟩
      have hFs : F.size = 257 := by rw [← hF, arr_size]
      rw [hF]
      have hst := run_storeCells_from (P := Try.prog) w.heap.size 86 F.toList 0 _ w2 HE.out.rb (by rw [arr_size, Array.length_toList, hFs]) (fun v hv => by rw [← hF] at hv; exact (Array.all_eq_true_iff_forall_mem.1 (arr_one (n := 257) (f := ivN fun j : Nat => cnt l sub j) fun _ => rfl)) v (by simpa using hv))
      have HST := Lib.hid hst
      have HFF := Lib.hid hF
      clear hst hF
      go_wp2_with fail
      rw [HST.out, Result.andThen_ok, Oper.upon_skip]
      go_wp2_with fail
      have e0 : (List.take 0 (arrV 257 (ivN fun _ => 0)).toList ++ F.toList).toArray = F := by simp
      rw [e0]
      have hrow := setRow_heap w2 w.heap.size _ F _ _ HE.out.rb
      refine bodyPost_ret (v := .agg F) (results_cell_row (p := 4) (fr := (0, 0)) (by kernel_rfl) _ _ w.heap.size _ F _ rfl hrow HU.out rfl (by rw [hFs]; exact HSZ.out)) rfl ⟨by rw [HFF.out], grown_new HE.out.gr grown_setRow (Nat.le_refl _)⟩
end Go.Proofs.Ytlgmankojgjfjaa

/- identify: IndexFunc, ContainsFunc and ascending at claims and at edges. -/
namespace Go.Proofs.Ytlgmankojgjfjaa
open Go.RowKit Bs
set_option maxRecDepth 100000 in
theorem icmpe2_any (r s : Ed) (w : World) :
    Calls Try.prog 32 #[.agg #[.int .i64 r.r, .int .i64 r.i], .agg #[.int .i64 s.r, .int .i64 s.i]] w fun e w' => e = .returned (.int .i64 (cmpV r.i s.i)) ∧ w.grownBy w' none := by
  refine (icmpe_any r s w).mono ?_
  rintro e w' ⟨rfl, rfl⟩
  exact ⟨rfl, grown_trans (World.grownBy_alloc w _ _) (World.grownBy_alloc _ _ _)⟩
set_option maxRecDepth 100000 in
set_option maxHeartbeats 1600000 in
theorem iidxO_any (g : Nat) (lb : Array Value) (P : Od → Bool) (eg : EnterF g) (R : List Od) (p : Option Addr) (c : Nat) (q : Nat → Prop) (w : World) (hR : RdF w q (.slice p R.length c) R.length (R.flatMap odC)) (hm : R.length ≤ 9223372036854775807)
    (hP : ∀ (r : Od) (w' : World), w.grownBy w' none → Calls Try.prog g (#[.agg #[.int .i64 r.r, .int .i64 r.s, .int .i64 r.i, .int .i64 r.l]] ++ lb) w' fun e w2 => e = .returned (.bool (P r)) ∧ w'.grownBy w2 none) :
    Calls Try.prog 41 #[.slice p R.length c, .func (.func g) #[] lb] w fun e w' => ∃ i : Int, e = .returned (.int .i64 i) ∧ decide (0 ≤ i) = R.any P ∧ w.grownBy w' none := by
  have HR := Lib.hid hR
  have HP := Lib.hid hP
  clear hR hP
  go_enter Try.func41, Try.ntmps41
  go_wp2_with fail
  go_loopw [8] (fun a wr => ∃ k : Nat, k ≤ R.length ∧ a = .int .i64 (k : Int) ∧ Hid (w.grownBy wr none) ∧ Hid ((R.take k).any P = false)) (fun a _ => R.length - (RowKit.intOf a).toNat)
  case atStart => exact ⟨0, Nat.zero_le _, rfl, Lib.hid (grown_refl _ _), Lib.hid rfl⟩
  case round =>
    obtain ⟨k, hk, rfl, G, HN⟩ := hrel
    by_cases hlt : k < R.length
    · obtain ⟨-, b, off, rfl, hq, hc⟩ := od_cells (HR.out.keep G.out) (by omega)
      obtain ⟨x, hx⟩ : ∃ x, R[k]? = some x := ⟨_, List.getElem?_eq_getElem hlt⟩
      obtain ⟨a0, a1, a2, a3⟩ := hc k x hx
      have HX := Lib.hid hx
      clear hc hx
      have hcall := HP.out x wr G.out
      cases hp : P x
      · rw [hp] at hcall
        have HY := Lib.hid hp
        clear hp
        go_wp2_with (go_at_fn g; refine hcall.mono ?_; rintro e w' ⟨rfl, hg⟩; have HG := Lib.hid (grown_trans G.out hg); clear hg)
        exact ⟨⟨k + 1, by omega, congrArg _ (by omega), HG, Lib.hid (any_take HN.out HX.out HY.out)⟩, by simp only [RowKit.intOf]; omega⟩
      · rw [hp] at hcall
        have HY := Lib.hid hp
        clear hp
        go_wp2_with (go_at_fn g; refine hcall.mono ?_; rintro e w' ⟨rfl, hg⟩; have HG := Lib.hid (grown_trans G.out hg); clear hg)
        go_ret
        refine ⟨_, rfl, ?_, HG.out⟩
        rw [any_at HX.out HY.out, decide_eq_true_eq]; omega
    · obtain rfl : k = R.length := by omega
      go_wp2_with fail
      go_ret
      refine ⟨_, rfl, ?_, G.out⟩
      rw [any_end HN.out (Nat.le_refl _)]; decide
set_option maxRecDepth 100000 in
set_option maxHeartbeats 1600000 in
theorem icontO_any (g : Nat) (lb : Array Value) (P : Od → Bool) (eg : EnterF g) (R : List Od) (p : Option Addr) (c : Nat) (q : Nat → Prop) (w : World) (hR : RdF w q (.slice p R.length c) R.length (R.flatMap odC)) (hm : R.length ≤ 9223372036854775807)
    (hP : ∀ (r : Od) (w' : World), w.grownBy w' none → Calls Try.prog g (#[.agg #[.int .i64 r.r, .int .i64 r.s, .int .i64 r.i, .int .i64 r.l]] ++ lb) w' fun e w2 => e = .returned (.bool (P r)) ∧ w'.grownBy w2 none) :
    Calls Try.prog 21 #[.slice p R.length c, .func (.func g) #[] lb] w fun e w' => e = .returned (.bool (R.any P)) ∧ w.grownBy w' none := by
  have HR := Lib.hid hR
  have HP := Lib.hid hP
  clear hR hP
  go_enter Try.func21, Try.ntmps21
  go_wp2_with (go_at_call 41; refine (iidxO_any g lb P eg R p c q w HR.out hm HP.out).mono ?_; rintro e w' ⟨i, rfl, hi, hg⟩; have HI := Lib.hid (And.intro hi hg); clear hi hg)
  go_ret
  rw [← HI.out.1]
  exact ⟨rfl, HI.out.2⟩
set_option maxRecDepth 100000 in
theorem ascO_end {R : List Od} (h : ∀ i x y, i + 1 < R.length → R[i]? = some x → R[i + 1]? = some y → ltO x y = true) : ascB ltO R = true :=
  (ascB_iff _ _).2 fun i x y hx hy => h i x y ((List.getElem?_eq_some_iff.1 hy).1) hx hy
set_option maxRecDepth 100000 in
theorem ascO_hit {R : List Od} {i : Nat} {x y : Od} (hx : R[i]? = some x) (hy : R[i + 1]? = some y) (h : ltO x y = false) : ascB ltO R = false := by
  rw [Bool.eq_false_iff]
  intro h2
  have := (ascB_iff _ _).1 h2 i x y hx hy
  rw [h] at this; cases this
set_option maxRecDepth 100000 in
theorem ltO_of_ge {x y : Od} (h : 0 ≤ cmpO x y) : ltO x y = false := by
  exact cmpO_ge.1 h
set_option maxRecDepth 100000 in
theorem ltO_of_lt {x y : Od} (h : ¬ 0 ≤ cmpO x y) : ltO x y = true := by
  exact (by have : ¬ ltO x y = false := fun e => h (cmpO_ge.2 e); simpa using this)
set_option maxRecDepth 100000 in
theorem keepAO {wr w' : World} {b i j : Nat} {x y : Od} (h : wr.cell? ⟨b, i, none⟩ = some (.int .i64 x.r) ∧ wr.cell? ⟨b, i + 1, none⟩ = some (.int .i64 x.s) ∧ wr.cell? ⟨b, i + 2, none⟩ = some (.int .i64 x.i) ∧ wr.cell? ⟨b, i + 3, none⟩ = some (.int .i64 x.l) ∧ wr.cell? ⟨b, j, none⟩ = some (.int .i64 y.r) ∧ wr.cell? ⟨b, j + 1, none⟩ = some (.int .i64 y.s) ∧ wr.cell? ⟨b, j + 2, none⟩ = some (.int .i64 y.i) ∧ wr.cell? ⟨b, j + 3, none⟩ = some (.int .i64 y.l)) (hg : Hid (wr.grownBy w' none)) : w'.cell? ⟨b, i, none⟩ = some (.int .i64 x.r) ∧ w'.cell? ⟨b, i + 1, none⟩ = some (.int .i64 x.s) ∧ w'.cell? ⟨b, i + 2, none⟩ = some (.int .i64 x.i) ∧ w'.cell? ⟨b, i + 3, none⟩ = some (.int .i64 x.l) ∧ w'.cell? ⟨b, j, none⟩ = some (.int .i64 y.r) ∧ w'.cell? ⟨b, j + 1, none⟩ = some (.int .i64 y.s) ∧ w'.cell? ⟨b, j + 2, none⟩ = some (.int .i64 y.i) ∧ w'.cell? ⟨b, j + 3, none⟩ = some (.int .i64 y.l) ∧ Hid (wr.grownBy w' none) := by
  obtain ⟨h0, h1, h2, h3, h4, h5, h6, h7⟩ := h
  exact ⟨hg.out.cell h0 (by simp), hg.out.cell h1 (by simp), hg.out.cell h2 (by simp), hg.out.cell h3 (by simp), hg.out.cell h4 (by simp), hg.out.cell h5 (by simp), hg.out.cell h6 (by simp), hg.out.cell h7 (by simp), hg⟩
set_option maxRecDepth 100000 in
set_option maxHeartbeats 3200000 in
theorem iascO_any (R : List Od) (p : Option Addr) (c : Nat) (q : Nat → Prop) (w : World) (hR : RdF w q (.slice p R.length c) R.length (R.flatMap odC)) (hm : R.length ≤ 9223372036854775807) :
    Calls Try.prog 23 #[.slice p R.length c, .func (.func 24) #[] #[]] w fun e w' => e = .returned (.bool (ascB ltO R)) ∧ w.grownBy w' none := by
  have eg : EnterF 24 := enters_of Try.func24 (by kernel_rfl) rfl
  have HR := Lib.hid hR
  clear hR
  go_enter Try.func23, Try.ntmps23
  go_wp2_with fail
  go_loopw [5] (fun a wr => ∃ k : Nat, 1 ≤ k ∧ (k ≤ R.length ∨ k = 1) ∧ a = .int .i64 (k : Int) ∧ Hid (w.grownBy wr none) ∧ Hid (∀ i x y, i + 1 < k → R[i]? = some x → R[i + 1]? = some y → ltO x y = true)) (fun a _ => R.length - (RowKit.intOf a).toNat)
  case atStart => exact ⟨1, by omega, Or.inr rfl, rfl, Lib.hid (grown_refl _ _), Lib.hid (fun i x y h => by omega)⟩
  case round =>
    obtain ⟨k, hk1, hk, rfl, G, HN⟩ := hrel
    by_cases hlt : k < R.length
    · obtain ⟨j, rfl⟩ : ∃ j, k = j + 1 := ⟨k - 1, by omega⟩
      obtain ⟨-, b, off, rfl, hq, hc⟩ := od_cells (HR.out.keep G.out) (by omega)
      obtain ⟨x, hx⟩ : ∃ x, R[j]? = some x := ⟨_, List.getElem?_eq_getElem (by omega)⟩
      obtain ⟨y, hy⟩ : ∃ y, R[j + 1]? = some y := ⟨_, List.getElem?_eq_getElem hlt⟩
      obtain ⟨a0, a1, a2, a3⟩ := hc j x hx
      obtain ⟨b0, b1, b2, b3⟩ := hc (j + 1) y hy
      have HXY := Lib.hid (And.intro hx hy)
      have ew1 : ((j : Int) + 1 - 1) = (j : Int) := by omega
      have ew2 : IntKind.i64.wrap ((j : Int) + 1 - 1) = (j : Int) := by rw [ew1, IntWalk.i64_in _ (by omega)]
      have ew3 : IntKind.i64.wrap (j : Int) = (j : Int) := IntWalk.i64_in _ (by omega)
      have j0 : (0 : Int) ≤ (j : Int) := by omega
      have j1 : (0 : Int) ≤ (j : Int) + 1 := by omega
      have j2 : (j : Int) < (R.length : Int) := by omega
      have j3 : (j : Int) + 1 < (R.length : Int) := by omega
      have j4 : ((j : Int) + 1).toNat = j + 1 := by omega
      clear hc hx hy
      have hcast : ((j + 1 : Nat) : Int) = (j : Int) + 1 := by omega
      rw [hcast]
      have HF := Lib.hid (show wr.cell? ⟨b, off + j * 4, none⟩ = some (.int .i64 x.r) ∧ wr.cell? ⟨b, off + j * 4 + 1, none⟩ = some (.int .i64 x.s) ∧ wr.cell? ⟨b, off + j * 4 + 2, none⟩ = some (.int .i64 x.i) ∧ wr.cell? ⟨b, off + j * 4 + 3, none⟩ = some (.int .i64 x.l) ∧ wr.cell? ⟨b, off + (j + 1) * 4, none⟩ = some (.int .i64 y.r) ∧ wr.cell? ⟨b, off + (j + 1) * 4 + 1, none⟩ = some (.int .i64 y.s) ∧ wr.cell? ⟨b, off + (j + 1) * 4 + 2, none⟩ = some (.int .i64 y.i) ∧ wr.cell? ⟨b, off + (j + 1) * 4 + 3, none⟩ = some (.int .i64 y.l) from ⟨a0, a1, a2, a3, b0, b1, b2, b3⟩)
      have GZ : Hid (wr.grownBy wr none) := Lib.hid (grown_refl _ _)
      go_upto_region 4 with fail
      cases hlt2 : ltO x y
      · have hge : 0 ≤ cmpO x y := by
          by_cases h : 0 ≤ cmpO x y
          · exact h
          · rw [ltO_of_lt h] at hlt2; cases hlt2
        have HL := Lib.hid hlt2
        clear hlt2
        go_region_held3 (fun w' => w'.cell? ⟨b, off + j * 4, none⟩ = some (.int .i64 x.r) ∧ w'.cell? ⟨b, off + j * 4 + 1, none⟩ = some (.int .i64 x.s) ∧ w'.cell? ⟨b, off + j * 4 + 2, none⟩ = some (.int .i64 x.i) ∧ w'.cell? ⟨b, off + j * 4 + 3, none⟩ = some (.int .i64 x.l) ∧ w'.cell? ⟨b, off + (j + 1) * 4, none⟩ = some (.int .i64 y.r) ∧ w'.cell? ⟨b, off + (j + 1) * 4 + 1, none⟩ = some (.int .i64 y.s) ∧ w'.cell? ⟨b, off + (j + 1) * 4 + 2, none⟩ = some (.int .i64 y.i) ∧ w'.cell? ⟨b, off + (j + 1) * 4 + 3, none⟩ = some (.int .i64 y.l) ∧ Hid (wr.grownBy w' none))
          (first | with_reducible exact keepAO HF.out (hid_drew GZ) | (with_reducible exact keepAO HF.out (hid_drew (hid_more GZ hg))) | (go_split_ands; with_reducible refine keepAO HF.out ?_; with_reducible assumption) | (go_split_ands; with_reducible refine keepAO HF.out (hid_more ?_ hg); with_reducible assumption))
          ((go_at_call 24; refine (icmpo_any x y _).mono ?_; rintro e w' ⟨rfl, hg⟩))
        all_goals
          go_split_ands
          go_wp2_with fail
          go_ret
          rw [ascO_hit HXY.out.1 HXY.out.2 HL.out]
          exact ⟨rfl, grown_trans G.out (Hid.out (by assumption))⟩
      · have hge : ¬ 0 ≤ cmpO x y := by
          intro h
          rw [ltO_of_ge h] at hlt2; cases hlt2
        have HL := Lib.hid hlt2
        clear hlt2
        go_region_held3 (fun w' => w'.cell? ⟨b, off + j * 4, none⟩ = some (.int .i64 x.r) ∧ w'.cell? ⟨b, off + j * 4 + 1, none⟩ = some (.int .i64 x.s) ∧ w'.cell? ⟨b, off + j * 4 + 2, none⟩ = some (.int .i64 x.i) ∧ w'.cell? ⟨b, off + j * 4 + 3, none⟩ = some (.int .i64 x.l) ∧ w'.cell? ⟨b, off + (j + 1) * 4, none⟩ = some (.int .i64 y.r) ∧ w'.cell? ⟨b, off + (j + 1) * 4 + 1, none⟩ = some (.int .i64 y.s) ∧ w'.cell? ⟨b, off + (j + 1) * 4 + 2, none⟩ = some (.int .i64 y.i) ∧ w'.cell? ⟨b, off + (j + 1) * 4 + 3, none⟩ = some (.int .i64 y.l) ∧ Hid (wr.grownBy w' none))
          (first | with_reducible exact keepAO HF.out (hid_drew GZ) | (with_reducible exact keepAO HF.out (hid_drew (hid_more GZ hg))) | (go_split_ands; with_reducible refine keepAO HF.out ?_; with_reducible assumption) | (go_split_ands; with_reducible refine keepAO HF.out (hid_more ?_ hg); with_reducible assumption))
          ((go_at_call 24; refine (icmpo_any x y _).mono ?_; rintro e w' ⟨rfl, hg⟩))
        all_goals
          go_split_ands
          have HGW := Lib.hid (grown_trans G.out (Hid.out (by assumption)))
          go_wp2_with fail
          refine ⟨⟨j + 1 + 1, by omega, Or.inl (by omega), congrArg _ (by omega), HGW, Lib.hid fun i x2 y2 hi hx2 hy2 => ?_⟩, by simp only [RowKit.intOf]; omega⟩
          by_cases hij : i = j
          · subst hij
            have e1 := HXY.out.1.symm.trans hx2
            have e2 := HXY.out.2.symm.trans hy2
            injection e1 with e1
            injection e2 with e2
            subst e1
            subst e2
            exact HL.out
          · exact HN.out i x2 y2 (by omega) hx2 hy2
    · have h1 : ¬ (k : Int) < (R.length : Int) := by omega
      go_wp2_with fail
      go_ret
      rw [ascO_end fun i x y hi hx hy => HN.out i x y (by omega) hx hy]
      exact ⟨rfl, G.out⟩
set_option maxRecDepth 100000 in
set_option maxHeartbeats 1600000 in
theorem iidxE_any (g : Nat) (lb : Array Value) (P : Ed → Bool) (eg : EnterF g) (R : List Ed) (p : Option Addr) (c : Nat) (q : Nat → Prop) (w : World) (hR : RdF w q (.slice p R.length c) R.length (R.flatMap edC)) (hm : R.length ≤ 9223372036854775807)
    (hP : ∀ (r : Ed) (w' : World), w.grownBy w' none → Calls Try.prog g (#[.agg #[.int .i64 r.r, .int .i64 r.i]] ++ lb) w' fun e w2 => e = .returned (.bool (P r)) ∧ w'.grownBy w2 none) :
    Calls Try.prog 46 #[.slice p R.length c, .func (.func g) #[] lb] w fun e w' => ∃ i : Int, e = .returned (.int .i64 i) ∧ decide (0 ≤ i) = R.any P ∧ w.grownBy w' none := by
  have HR := Lib.hid hR
  have HP := Lib.hid hP
  clear hR hP
  go_enter Try.func46, Try.ntmps46
  go_wp2_with fail
  go_loopw [8] (fun a wr => ∃ k : Nat, k ≤ R.length ∧ a = .int .i64 (k : Int) ∧ Hid (w.grownBy wr none) ∧ Hid ((R.take k).any P = false)) (fun a _ => R.length - (RowKit.intOf a).toNat)
  case atStart => exact ⟨0, Nat.zero_le _, rfl, Lib.hid (grown_refl _ _), Lib.hid rfl⟩
  case round =>
    obtain ⟨k, hk, rfl, G, HN⟩ := hrel
    by_cases hlt : k < R.length
    · obtain ⟨-, b, off, rfl, hq, hc⟩ := ed_cells (HR.out.keep G.out) (by omega)
      obtain ⟨x, hx⟩ : ∃ x, R[k]? = some x := ⟨_, List.getElem?_eq_getElem hlt⟩
      obtain ⟨a0, a1⟩ := hc k x hx
      have HX := Lib.hid hx
      clear hc hx
      have hcall := HP.out x wr G.out
      cases hp : P x
      · rw [hp] at hcall
        have HY := Lib.hid hp
        clear hp
        go_wp2_with (go_at_fn g; refine hcall.mono ?_; rintro e w' ⟨rfl, hg⟩; have HG := Lib.hid (grown_trans G.out hg); clear hg)
        exact ⟨⟨k + 1, by omega, congrArg _ (by omega), HG, Lib.hid (any_take HN.out HX.out HY.out)⟩, by simp only [RowKit.intOf]; omega⟩
      · rw [hp] at hcall
        have HY := Lib.hid hp
        clear hp
        go_wp2_with (go_at_fn g; refine hcall.mono ?_; rintro e w' ⟨rfl, hg⟩; have HG := Lib.hid (grown_trans G.out hg); clear hg)
        go_ret
        refine ⟨_, rfl, ?_, HG.out⟩
        rw [any_at HX.out HY.out, decide_eq_true_eq]; omega
    · obtain rfl : k = R.length := by omega
      go_wp2_with fail
      go_ret
      refine ⟨_, rfl, ?_, G.out⟩
      rw [any_end HN.out (Nat.le_refl _)]; decide
set_option maxRecDepth 100000 in
set_option maxHeartbeats 1600000 in
theorem icontE_any (g : Nat) (lb : Array Value) (P : Ed → Bool) (eg : EnterF g) (R : List Ed) (p : Option Addr) (c : Nat) (q : Nat → Prop) (w : World) (hR : RdF w q (.slice p R.length c) R.length (R.flatMap edC)) (hm : R.length ≤ 9223372036854775807)
    (hP : ∀ (r : Ed) (w' : World), w.grownBy w' none → Calls Try.prog g (#[.agg #[.int .i64 r.r, .int .i64 r.i]] ++ lb) w' fun e w2 => e = .returned (.bool (P r)) ∧ w'.grownBy w2 none) :
    Calls Try.prog 29 #[.slice p R.length c, .func (.func g) #[] lb] w fun e w' => e = .returned (.bool (R.any P)) ∧ w.grownBy w' none := by
  have HR := Lib.hid hR
  have HP := Lib.hid hP
  clear hR hP
  go_enter Try.func29, Try.ntmps29
  go_wp2_with (go_at_call 46; refine (iidxE_any g lb P eg R p c q w HR.out hm HP.out).mono ?_; rintro e w' ⟨i, rfl, hi, hg⟩; have HI := Lib.hid (And.intro hi hg); clear hi hg)
  go_ret
  rw [← HI.out.1]
  exact ⟨rfl, HI.out.2⟩
set_option maxRecDepth 100000 in
theorem ascE_end {R : List Ed} (h : ∀ i x y, i + 1 < R.length → R[i]? = some x → R[i + 1]? = some y → ltE x y = true) : ascB ltE R = true :=
  (ascB_iff _ _).2 fun i x y hx hy => h i x y ((List.getElem?_eq_some_iff.1 hy).1) hx hy
set_option maxRecDepth 100000 in
theorem ascE_hit {R : List Ed} {i : Nat} {x y : Ed} (hx : R[i]? = some x) (hy : R[i + 1]? = some y) (h : ltE x y = false) : ascB ltE R = false := by
  rw [Bool.eq_false_iff]
  intro h2
  have := (ascB_iff _ _).1 h2 i x y hx hy
  rw [h] at this; cases this
set_option maxRecDepth 100000 in
theorem ltE_of_ge {x y : Ed} (h : 0 ≤ cmpV x.i y.i) : ltE x y = false := by
  exact (by have := cmpV_ge.1 h; unfold ltE; rw [decide_eq_false_iff_not]; omega)
set_option maxRecDepth 100000 in
theorem ltE_of_lt {x y : Ed} (h : ¬ 0 ≤ cmpV x.i y.i) : ltE x y = true := by
  exact (by have : ¬ y.i ≤ x.i := fun e => h (cmpV_ge.2 e); unfold ltE; rw [decide_eq_true_eq]; omega)
set_option maxRecDepth 100000 in
theorem keepAE {wr w' : World} {b i j : Nat} {x y : Ed} (h : wr.cell? ⟨b, i, none⟩ = some (.int .i64 x.r) ∧ wr.cell? ⟨b, i + 1, none⟩ = some (.int .i64 x.i) ∧ wr.cell? ⟨b, j, none⟩ = some (.int .i64 y.r) ∧ wr.cell? ⟨b, j + 1, none⟩ = some (.int .i64 y.i)) (hg : Hid (wr.grownBy w' none)) : w'.cell? ⟨b, i, none⟩ = some (.int .i64 x.r) ∧ w'.cell? ⟨b, i + 1, none⟩ = some (.int .i64 x.i) ∧ w'.cell? ⟨b, j, none⟩ = some (.int .i64 y.r) ∧ w'.cell? ⟨b, j + 1, none⟩ = some (.int .i64 y.i) ∧ Hid (wr.grownBy w' none) := by
  obtain ⟨h0, h1, h2, h3⟩ := h
  exact ⟨hg.out.cell h0 (by simp), hg.out.cell h1 (by simp), hg.out.cell h2 (by simp), hg.out.cell h3 (by simp), hg⟩
set_option maxRecDepth 100000 in
set_option maxHeartbeats 3200000 in
theorem iascE_any (R : List Ed) (p : Option Addr) (c : Nat) (q : Nat → Prop) (w : World) (hR : RdF w q (.slice p R.length c) R.length (R.flatMap edC)) (hm : R.length ≤ 9223372036854775807) :
    Calls Try.prog 31 #[.slice p R.length c, .func (.func 32) #[] #[]] w fun e w' => e = .returned (.bool (ascB ltE R)) ∧ w.grownBy w' none := by
  have eg : EnterF 32 := enters_of Try.func32 (by kernel_rfl) rfl
  have HR := Lib.hid hR
  clear hR
  go_enter Try.func31, Try.ntmps31
  go_wp2_with fail
  go_loopw [5] (fun a wr => ∃ k : Nat, 1 ≤ k ∧ (k ≤ R.length ∨ k = 1) ∧ a = .int .i64 (k : Int) ∧ Hid (w.grownBy wr none) ∧ Hid (∀ i x y, i + 1 < k → R[i]? = some x → R[i + 1]? = some y → ltE x y = true)) (fun a _ => R.length - (RowKit.intOf a).toNat)
  case atStart => exact ⟨1, by omega, Or.inr rfl, rfl, Lib.hid (grown_refl _ _), Lib.hid (fun i x y h => by omega)⟩
  case round =>
    obtain ⟨k, hk1, hk, rfl, G, HN⟩ := hrel
    by_cases hlt : k < R.length
    · obtain ⟨j, rfl⟩ : ∃ j, k = j + 1 := ⟨k - 1, by omega⟩
      obtain ⟨-, b, off, rfl, hq, hc⟩ := ed_cells (HR.out.keep G.out) (by omega)
      obtain ⟨x, hx⟩ : ∃ x, R[j]? = some x := ⟨_, List.getElem?_eq_getElem (by omega)⟩
      obtain ⟨y, hy⟩ : ∃ y, R[j + 1]? = some y := ⟨_, List.getElem?_eq_getElem hlt⟩
      obtain ⟨a0, a1⟩ := hc j x hx
      obtain ⟨b0, b1⟩ := hc (j + 1) y hy
      have HXY := Lib.hid (And.intro hx hy)
      have ew1 : ((j : Int) + 1 - 1) = (j : Int) := by omega
      have ew2 : IntKind.i64.wrap ((j : Int) + 1 - 1) = (j : Int) := by rw [ew1, IntWalk.i64_in _ (by omega)]
      have ew3 : IntKind.i64.wrap (j : Int) = (j : Int) := IntWalk.i64_in _ (by omega)
      have j0 : (0 : Int) ≤ (j : Int) := by omega
      have j1 : (0 : Int) ≤ (j : Int) + 1 := by omega
      have j2 : (j : Int) < (R.length : Int) := by omega
      have j3 : (j : Int) + 1 < (R.length : Int) := by omega
      have j4 : ((j : Int) + 1).toNat = j + 1 := by omega
      clear hc hx hy
      have hcast : ((j + 1 : Nat) : Int) = (j : Int) + 1 := by omega
      rw [hcast]
      have HF := Lib.hid (show wr.cell? ⟨b, off + j * 2, none⟩ = some (.int .i64 x.r) ∧ wr.cell? ⟨b, off + j * 2 + 1, none⟩ = some (.int .i64 x.i) ∧ wr.cell? ⟨b, off + (j + 1) * 2, none⟩ = some (.int .i64 y.r) ∧ wr.cell? ⟨b, off + (j + 1) * 2 + 1, none⟩ = some (.int .i64 y.i) from ⟨a0, a1, b0, b1⟩)
      have GZ : Hid (wr.grownBy wr none) := Lib.hid (grown_refl _ _)
      go_upto_region 4 with fail
      cases hlt2 : ltE x y
      · have hge : 0 ≤ cmpV x.i y.i := by
          by_cases h : 0 ≤ cmpV x.i y.i
          · exact h
          · rw [ltE_of_lt h] at hlt2; cases hlt2
        have HL := Lib.hid hlt2
        clear hlt2
        go_region_held3 (fun w' => w'.cell? ⟨b, off + j * 2, none⟩ = some (.int .i64 x.r) ∧ w'.cell? ⟨b, off + j * 2 + 1, none⟩ = some (.int .i64 x.i) ∧ w'.cell? ⟨b, off + (j + 1) * 2, none⟩ = some (.int .i64 y.r) ∧ w'.cell? ⟨b, off + (j + 1) * 2 + 1, none⟩ = some (.int .i64 y.i) ∧ Hid (wr.grownBy w' none))
          (first | with_reducible exact keepAE HF.out (hid_drew GZ) | (with_reducible exact keepAE HF.out (hid_drew (hid_more GZ hg))) | (go_split_ands; with_reducible refine keepAE HF.out ?_; with_reducible assumption) | (go_split_ands; with_reducible refine keepAE HF.out (hid_more ?_ hg); with_reducible assumption))
          ((go_at_call 32; refine (icmpe2_any x y _).mono ?_; rintro e w' ⟨rfl, hg⟩))
        all_goals
          go_split_ands
          go_wp2_with fail
          go_ret
          rw [ascE_hit HXY.out.1 HXY.out.2 HL.out]
          exact ⟨rfl, grown_trans G.out (Hid.out (by assumption))⟩
      · have hge : ¬ 0 ≤ cmpV x.i y.i := by
          intro h
          rw [ltE_of_ge h] at hlt2; cases hlt2
        have HL := Lib.hid hlt2
        clear hlt2
        go_region_held3 (fun w' => w'.cell? ⟨b, off + j * 2, none⟩ = some (.int .i64 x.r) ∧ w'.cell? ⟨b, off + j * 2 + 1, none⟩ = some (.int .i64 x.i) ∧ w'.cell? ⟨b, off + (j + 1) * 2, none⟩ = some (.int .i64 y.r) ∧ w'.cell? ⟨b, off + (j + 1) * 2 + 1, none⟩ = some (.int .i64 y.i) ∧ Hid (wr.grownBy w' none))
          (first | with_reducible exact keepAE HF.out (hid_drew GZ) | (with_reducible exact keepAE HF.out (hid_drew (hid_more GZ hg))) | (go_split_ands; with_reducible refine keepAE HF.out ?_; with_reducible assumption) | (go_split_ands; with_reducible refine keepAE HF.out (hid_more ?_ hg); with_reducible assumption))
          ((go_at_call 32; refine (icmpe2_any x y _).mono ?_; rintro e w' ⟨rfl, hg⟩))
        all_goals
          go_split_ands
          have HGW := Lib.hid (grown_trans G.out (Hid.out (by assumption)))
          go_wp2_with fail
          refine ⟨⟨j + 1 + 1, by omega, Or.inl (by omega), congrArg _ (by omega), HGW, Lib.hid fun i x2 y2 hi hx2 hy2 => ?_⟩, by simp only [RowKit.intOf]; omega⟩
          by_cases hij : i = j
          · subst hij
            have e1 := HXY.out.1.symm.trans hx2
            have e2 := HXY.out.2.symm.trans hy2
            injection e1 with e1
            injection e2 with e2
            subst e1
            subst e2
            exact HL.out
          · exact HN.out i x2 y2 (by omega) hx2 hy2
    · have h1 : ¬ (k : Int) < (R.length : Int) := by omega
      go_wp2_with fail
      go_ret
      rw [ascE_end fun i x y hi hx hy => HN.out i x y (by omega) hx hy]
      exact ⟨rfl, G.out⟩
end Go.Proofs.Ytlgmankojgjfjaa

/- identify: Check. -/
namespace Go.Proofs.Ytlgmankojgjfjaa
open Go.RowKit Bs
set_option maxRecDepth 100000 in
set_option maxHeartbeats 3200000 in
theorem icheck_any (l : List Od) (p : Option Addr) (c : Nat) (q : Nat → Prop) (w : World) (hR : RdF w q (.slice p l.length c) l.length (l.flatMap odC)) (hm : l.length ≤ 9223372036854775807) :
    Calls Try.prog 9 #[.slice p l.length c] w fun e w' => e = .returned (.int .i64 (ckO l)) ∧ w.grownBy w' none := by
  have HR := Lib.hid hR
  have e1 : EnterF 22 := enters_of Try.func22 (by kernel_rfl) rfl
  have E1 := Lib.hid e1
  clear hR e1
  go_enter Try.func9, Try.ntmps9
  by_cases h1 : 192 < l.length
  · have h1' : (192 : Int) < (l.length : Int) := by omega
    go_wp2_with fail
    go_ret
    exact ⟨by unfold ckO; rw [if_pos h1]; rfl, grown_refl _ _⟩
  have h1' : ¬ (192 : Int) < (l.length : Int) := by omega
  go_wp2_with fail
  refine (icontO_any 22 #[] wrO E1.out l p c _ w HR.out hm (fun r w' _ => iwrc_any r w')).mono ?_
  rintro e w1 ⟨rfl, hg⟩
  have G1 := Lib.hid hg
  clear hg
  cases f1 : l.any wrO
  case true =>
    have F1 := Lib.hid f1
    clear f1
    go_wp2_with fail
    go_ret
    exact ⟨by unfold ckO; rw [if_neg h1, F1.out]; rfl, G1.out⟩
  have F1 := Lib.hid f1
  clear f1
  go_wp2_with fail
  refine (iascO_any l p c _ w1 (HR.out.keep G1.out) hm).mono ?_
  rintro e w2 ⟨rfl, hg⟩
  have G2 := Lib.hid (grown_trans G1.out hg)
  clear hg
  cases f2 : ascB ltO l
  case false =>
    have F2 := Lib.hid f2
    clear f2
    go_wp2_with fail
    go_ret
    exact ⟨by unfold ckO; rw [if_neg h1, F1.out, F2.out]; rfl, G2.out⟩
  have F2 := Lib.hid f2
  clear f2
  go_wp2_with fail
  go_ret
  exact ⟨by unfold ckO; rw [if_neg h1, F1.out, F2.out]; rfl, G2.out⟩
end Go.Proofs.Ytlgmankojgjfjaa

/- identify: free. -/
namespace Go.Proofs.Ytlgmankojgjfjaa
open Go.RowKit Bs
set_option maxRecDepth 100000 in
set_option maxHeartbeats 3200000 in
theorem ifree_any (f : Nat → Nat) (w : World) :
    Calls Try.prog 51 #[.agg (arrV 257 (ivN f))] w fun e w' => ∃ n ok, e = .returned (.tuple #[.int .i64 n, .bool ok]) ∧ FreeIs f n ok ∧ w.grownBy w' none := by
  obtain ⟨k1, k2⟩ := tone_box w (arrV 257 (ivN f)) 86
  have HB := Lib.hid k1
  have K := Lib.hid k2
  clear k1 k2
  go_enter Try.func51, Try.ntmps51
  go_upto_region 1 with fail
  generalize w.alloc _ = wa at *
  go_wp2_with fail
  go_loopw [4] (fun a wr => ∃ k : Nat, 1 ≤ k ∧ k ≤ 257 ∧ a = .int .i64 (k : Int) ∧ wr = wa ∧ Hid (∀ j : Nat, 1 ≤ j → j < k → f j ≠ 0)) (fun a _ => 257 - (RowKit.intOf a).toNat)
  case atStart => exact ⟨1, Nat.le_refl _, by omega, rfl, rfl, Lib.hid (fun j h1 h2 => by omega)⟩
  case round =>
    obtain ⟨k, hk1, hk, rfl, rfl, HN⟩ := hrel
    by_cases hlt : k ≤ 256
    · obtain ⟨n, hn⟩ : ∃ n, f k = n := ⟨_, rfl⟩
      have hc := arr_row HB.out (show k < 257 by omega)
      unfold ivN at hc
      rw [hn] at hc
      have h3 : (k : Int) ≤ 256 := by omega
      have HF := Lib.hid hn
      clear hn
      by_cases h0 : n = 0
      · subst h0
        go_wp2_with fail
        go_ret2
        refine ⟨_, _, rfl, Or.inl ⟨rfl, by omega, by omega, by rw [Int.toNat_natCast]; exact HF.out, fun j h1 h2 => HN.out j h1 (by omega)⟩, K.out⟩
      · have h4 : ((n : Int) == 0) = false := by simpa using h0
        have HN2 : Hid (∀ j : Nat, 1 ≤ j → j < k + 1 → f j ≠ 0) := Lib.hid (fun j h1 h2 => by
          by_cases hj : j = k
          · subst hj; rw [HF.out]; exact h0
          · exact HN.out j h1 (by omega))
        go_wp2_with fail
        exact ⟨⟨k + 1, by omega, by omega, congrArg _ (by omega), (by first | rfl | trivial), HN2⟩, by simp only [RowKit.intOf]; omega⟩
    · obtain rfl : k = 257 := by omega
      go_wp2_with fail
      go_ret2
      exact ⟨_, _, rfl, Or.inr ⟨rfl, rfl, fun j h1 h2 => HN.out j h1 (by omega)⟩, K.out⟩
end Go.Proofs.Ytlgmankojgjfjaa

/- identify: Conflicts, Length, Free. -/
namespace Go.Proofs.Ytlgmankojgjfjaa
open Go.RowKit Bs
def ivC (z : Int) : List Value := [.int .i64 z]
set_option maxRecDepth 100000 in
theorem ivC_one (z : Int) : ∀ u ∈ ivC z, u.oneCell' = true := by
  intro u hu
  simp [ivC] at hu
  subst hu
  rfl
set_option maxRecDepth 100000 in
theorem flat_iv : ∀ X : List Int, X.flatMap ivC = X.map (fun z => Value.int .i64 z)
  | [] => rfl
  | a :: t => by rw [List.flatMap_cons, flat_iv t]; rfl
set_option maxRecDepth 100000 in
theorem iv_row (w : World) (z : Int) (t : TypeId) (j : Nat) (u : Value) (hu : ([z].flatMap ivC)[j]? = some u) : (w.alloc (.cells #[.int .i64 z] t)).cell? ((⟨w.heap.size, 0, none⟩ : Addr).add j) = some u :=
  cell_one w (.int .i64 z) t j u (by simpa [ivC] using hu)
end Go.Proofs.Ytlgmankojgjfjaa

/- identify: Length, Free. -/
namespace Go.Proofs.Ytlgmankojgjfjaa
open Go.RowKit Bs
set_option maxRecDepth 100000 in
set_option maxHeartbeats 6400000 in
theorem ilen_any (l : List Od) (p : Option Addr) (c : Nat) (sub : Int) (q : Nat → Prop) (w : World) (hR : RdF w q (.slice p l.length c) l.length (l.flatMap odC)) (hm : l.length ≤ 9223372036854775807) :
    Calls Try.prog 47 #[.slice p l.length c, .int .i64 sub] w fun e w' => e = .returned (.int .i64 (lnO l sub)) ∧ w.grownBy w' none := by
  have HR := Lib.hid hR
  clear hR
  go_enter Try.func47, Try.ntmps47
  go_wp2_with fail
  refine (icheck_any l p c _ w HR.out hm).mono ?_
  rintro e w1 ⟨rfl, hg⟩
  have G1 := Lib.hid hg
  clear hg
  by_cases h0 : ckO l = 0
  case neg =>
    have h0' : (ckO l != 0) = true := by simpa using h0
    have HC : Hid (lnO l sub = 0) := Lib.hid (if_neg h0)
    clear h0
    go_wp2_with fail
    go_ret
    rw [HC.out]
    exact ⟨rfl, G1.out⟩
  have HC : Hid (lnO l sub = lnK l sub) := Lib.hid (if_pos h0)
  obtain ⟨hl, -, -⟩ := ck_any h0
  rw [h0]
  clear h0
  go_wp2_with fail
  go_loopw [5, 13] (fun v a wr => ∃ k : Nat, k ≤ l.length ∧ a = .int .i64 (k : Int) ∧ v = .int .i64 (lnK (l.take k) sub) ∧ Hid (w.grownBy wr none)) (fun _ a _ => l.length - (RowKit.intOf a).toNat)
  case atStart => exact ⟨0, by omega, rfl, rfl, G1⟩
  case round =>
    obtain ⟨w2, rfl⟩ : ∃ w2, w2 = wr := ⟨_, rfl⟩
    obtain ⟨k, hk, rfl, rfl, N⟩ := hrel
    clear G1
    by_cases hlt : k < l.length
    · obtain ⟨-, b, off, rfl, -, hc⟩ := od_cells (HR.out.keep N.out) (by omega)
      obtain ⟨x, hx⟩ : ∃ x, l[k]? = some x := ⟨_, List.getElem?_eq_getElem hlt⟩
      obtain ⟨a0, a1, a2, a3⟩ := hc k x hx
      have HS := Lib.hid (lnK_take hx sub)
      have HB := Lib.hid (heap_alloc_new w2 (.cells #[.int .i64 x.r, .int .i64 x.s, .int .i64 x.i, .int .i64 x.l] 50))
      have HG := Lib.hid (World.grownBy_alloc w2 (.cells #[.int .i64 x.r, .int .i64 x.s, .int .i64 x.i, .int .i64 x.l] 50) none)
      clear hc hx
      go_upto_region 7 with fail
      clear a0 a1 a2 a3
      generalize w2.alloc _ = w3 at *
      have N1 := Lib.hid (grown_trans N.out HG.out)
      obtain ⟨d0, d1, d2, d3⟩ := row4i HB.out
      obtain ⟨n, hn⟩ : ∃ n, lnK (l.take k) sub = n := ⟨_, rfl⟩
      rw [hn] at HS ⊢
      clear hn N HG
      by_cases h1 : x.s = sub
      · have h1' : (x.s == sub) = true := by simpa using h1
        by_cases h2 : n = 0
        · have h2' : (n == 0) = true := by simpa using h2
          have HE : Hid (lnK (l.take (k + 1)) sub = x.l) := Lib.hid (by rw [HS.out]; unfold lnS; rw [if_pos ⟨h1, Or.inl h2⟩])
          clear HS h1 h2
          go_wp2_with fail
          exact ⟨⟨k + 1, by omega, congrArg _ (by omega), by rw [HE.out], N1⟩, by simp only [RowKit.intOf]; omega⟩
        · have h2' : (n == 0) = false := by simpa using h2
          by_cases h3 : x.l < n
          · have HE : Hid (lnK (l.take (k + 1)) sub = x.l) := Lib.hid (by rw [HS.out]; unfold lnS; rw [if_pos ⟨h1, Or.inr h3⟩])
            clear HS h1 h2
            go_wp2_with fail
            exact ⟨⟨k + 1, by omega, congrArg _ (by omega), by rw [HE.out], N1⟩, by simp only [RowKit.intOf]; omega⟩
          · have HE : Hid (lnK (l.take (k + 1)) sub = n) := Lib.hid (by rw [HS.out]; unfold lnS; rw [if_neg (fun h => by have := h.2; omega)])
            clear HS h1 h2
            go_wp2_with fail
            exact ⟨⟨k + 1, by omega, congrArg _ (by omega), by rw [HE.out], N1⟩, by simp only [RowKit.intOf]; omega⟩
      · have h1' : (x.s == sub) = false := by simpa using h1
        have HE : Hid (lnK (l.take (k + 1)) sub = n) := Lib.hid (by rw [HS.out]; unfold lnS; rw [if_neg (fun h => h1 h.1)])
        clear HS h1
        go_wp2_with fail
        exact ⟨⟨k + 1, by omega, congrArg _ (by omega), by rw [HE.out], N1⟩, by simp only [RowKit.intOf]; omega⟩
    · obtain rfl : k = l.length := by omega
      have HE : Hid (lnK (l.take l.length) sub = lnK l sub) := Lib.hid (by rw [List.take_length])
      go_wp2_with fail
      go_ret
      rw [HC.out, HE.out]
      exact ⟨rfl, N.out⟩
end Go.Proofs.Ytlgmankojgjfjaa

/- The library's contract on slices.SortFunc, laid at this program. -/
namespace Go.Proofs.Ytlgmankojgjfjaa
open Go.Shelf
def sortE_ren : Go.Shelf.Ren := ⟨fun | 6 => 53 | 15 => 55 | 14 => 54 | 28 => 64 | 29 => 65 | 20 => 56 | 21 => 57 | 22 => 58 | 23 => 59 | 24 => 60 | 25 => 61 | 26 => 62 | 27 => 63 | 46 => 66 | 47 => 67 | 48 => 68 | 49 => 69 | 50 => 70 | 57 => 71 | n => n, fun | 22 => 24 | 24 => 56 | 25 => 68 | 3 => 3 | 39 => 94 | 0 => 0 | 53 => 103 | 55 => 105 | 4 => 4 | 46 => 97 | 45 => 96 | 50 => 89 | 5 => 5 | 9 => 9 | 66 => 106 | 70 => 110 | 76 => 112 | 77 => 113 | n => n, fun | n => n⟩
set_option maxRecDepth 100000 in
theorem sortE : Go.Proofs.SlLaysF0.n6 Try.prog sortE_ren where
  mixed := by kernel_rfl
  f6 := ⟨ "slices.SortFunc[[]bitcast/api.Edge,bitcast/api.Edge]", by decide, Try.func53.trans (congrArg some (by kernel_rfl))⟩
  f14 := ⟨ "slices.pdqsortCmpFunc[bitcast/api.Edge]", by decide, Try.func54.trans (congrArg some (by kernel_rfl))⟩
  f15 := Try.func55.trans (congrArg some (by kernel_rfl))
  f20 := ⟨ "slices.insertionSortCmpFunc[bitcast/api.Edge]", by decide, Try.func56.trans (congrArg some (by kernel_rfl))⟩
  f21 := ⟨ "slices.heapSortCmpFunc[bitcast/api.Edge]", by decide, Try.func57.trans (congrArg some (by kernel_rfl))⟩
  f22 := ⟨ "slices.breakPatternsCmpFunc[bitcast/api.Edge]", by decide, Try.func58.trans (congrArg some (by kernel_rfl))⟩
  f23 := ⟨ "slices.choosePivotCmpFunc[bitcast/api.Edge]", by decide, Try.func59.trans (congrArg some (by kernel_rfl))⟩
  f24 := ⟨ "slices.reverseRangeCmpFunc[bitcast/api.Edge]", by decide, Try.func60.trans (congrArg some (by kernel_rfl))⟩
  f25 := ⟨ "slices.partialInsertionSortCmpFunc[bitcast/api.Edge]", by decide, Try.func61.trans (congrArg some (by kernel_rfl))⟩
  f26 := ⟨ "slices.partitionEqualCmpFunc[bitcast/api.Edge]", by decide, Try.func62.trans (congrArg some (by kernel_rfl))⟩
  f27 := ⟨ "slices.partitionCmpFunc[bitcast/api.Edge]", by decide, Try.func63.trans (congrArg some (by kernel_rfl))⟩
  f28 := Try.func64.trans (congrArg some (by kernel_rfl))
  f29 := Try.func65.trans (congrArg some (by kernel_rfl))
  f46 := ⟨ "slices.siftDownCmpFunc[bitcast/api.Edge]", by decide, Try.func66.trans (congrArg some (by kernel_rfl))⟩
  f47 := Try.func67.trans (congrArg some (by kernel_rfl))
  f48 := Try.func68.trans (congrArg some (by kernel_rfl))
  f49 := ⟨ "slices.medianAdjacentCmpFunc[bitcast/api.Edge]", by decide, Try.func69.trans (congrArg some (by kernel_rfl))⟩
  f50 := ⟨ "slices.medianCmpFunc[bitcast/api.Edge]", by decide, Try.func70.trans (congrArg some (by kernel_rfl))⟩
  f57 := ⟨ "slices.order2CmpFunc[bitcast/api.Edge]", by decide, Try.func71.trans (congrArg some (by kernel_rfl))⟩
  t0 := Try.underlying0
  a0 := Try.isAgg0
  z0 := Try.sizeOf0
  v0 := Try.zeroValue0
  t3 := Try.underlying3
  a3 := Try.isAgg3
  z3 := Try.sizeOf3
  v3 := Try.zeroValue3
  t4 := Try.underlying4
  a4 := Try.isAgg4
  z4 := Try.sizeOf4
  v4 := Try.zeroValue4
  t5 := Try.underlying5
  a5 := Try.isAgg5
  z5 := Try.sizeOf5
  v5 := Try.zeroValue5
  t9 := Try.underlying9
  a9 := Try.isAgg9
  z9 := Try.sizeOf9
  v9 := Try.zeroValue9
  t22 := Try.underlying24
  a22 := Try.isAgg24
  z22 := Try.sizeOf24
  v22 := Try.zeroValue24
  t25 := Try.underlying68
  a25 := Try.isAgg68
  z25 := Try.sizeOf68
  v25 := Try.zeroValue68
  t39 := Try.underlying94
  a39 := Try.isAgg94
  z39 := Try.sizeOf94
  v39 := Try.zeroValue94
  t45 := Try.underlying96
  a45 := Try.isAgg96
  z45 := Try.sizeOf96
  v45 := Try.zeroValue96
  t46 := Try.underlying97
  a46 := Try.isAgg97
  z46 := Try.sizeOf97
  v46 := Try.zeroValue97
  t50 := Try.underlying89
  a50 := Try.isAgg89
  z50 := Try.sizeOf89
  v50 := Try.zeroValue89
  t53 := Try.underlying103
  a53 := Try.isAgg103
  z53 := Try.sizeOf103
  v53 := Try.zeroValue103
  t55 := Try.underlying105
  a55 := Try.isAgg105
  z55 := Try.sizeOf105
  v55 := Try.zeroValue105
  t66 := Try.underlying106
  a66 := Try.isAgg106
  z66 := Try.sizeOf106
  v66 := Try.zeroValue106
  t70 := Try.underlying110
  a70 := Try.isAgg110
  z70 := Try.sizeOf110
  v70 := Try.zeroValue110
  t76 := Try.underlying112
  a76 := Try.isAgg112
  z76 := Try.sizeOf112
  v76 := Try.zeroValue112
  t77 := Try.underlying113
  a77 := Try.isAgg113
  z77 := Try.sizeOf113
  v77 := Try.zeroValue113
end Go.Proofs.Ytlgmankojgjfjaa

/- slices.SortFunc at edges. -/
namespace Go.Proofs.Ytlgmankojgjfjaa
open Go.RowKit Go.Proofs Bs
open Go.Sort (flatK get_flatK size_flatK HoldsK putRowK size_putRowK)
instance : Inhabited Ed := ⟨⟨0, 0⟩⟩
def cfE (x y : Ed) : Int := cmpV x.i y.i
set_option maxRecDepth 100000 in
theorem lt_cfE (x y : Ed) : ltOf cfE x y = decide (x.i < y.i) := by
  unfold ltOf cfE
  exact decide_eq_decide.2 cmpV_lt
set_option maxRecDepth 100000 in
theorem swoE : Go.Sort.SWO (ltOf cfE) := by
  refine ⟨fun x => by rw [lt_cfE]; simp, fun x y z h1 h2 => ?_, fun x y z h1 h2 => ?_⟩
  · rw [lt_cfE] at h1 h2 ⊢
    have := of_decide_eq_true h1
    have := of_decide_eq_true h2
    exact decide_eq_true (by omega)
  · rw [lt_cfE] at h1 h2 ⊢
    have := of_decide_eq_false h1
    have := of_decide_eq_false h2
    exact decide_eq_false (by omega)
set_option maxRecDepth 100000 in
theorem flatK_at (d : Array Ed) (t : Nat) (h : t < d.size * 2) : (flatK edC 2 d)[t]! = (d.toList.flatMap edC)[t]?.getD default := by
  rw [get_flatK _ _ _ _ h]
  have h1 : t / 2 < d.size := by omega
  have h2 : t % 2 < 2 := Nat.mod_lt _ (by decide)
  have h3 := flat_at edC 2 (fun _ => rfl) d.toList (t / 2) (t % 2) d[t / 2] (by rw [Array.getElem?_toList, Array.getElem?_eq_getElem h1]) h2
  rw [show t / 2 * 2 + t % 2 = t by omega] at h3
  rw [h3, getElem!_pos d (t / 2) h1]
  rw [List.getElem!_eq_getElem?_getD]
set_option maxRecDepth 100000 in
theorem holdsE {w : World} {g : Nat} {cur : Array Value} {e : TypeId} {E : List Ed} (hb : w.heap[g]? = some (.cells cur e (0, 0))) (ht : cur.toList.take (E.length * 2) = E.flatMap edC) : HoldsK edC 2 w g 0 E.toArray := by
  intro j hj
  rw [size_flatK] at hj
  have hj' : j < E.length * 2 := by simpa using hj
  refine ⟨?_, by simp [World.frozen?, hb]⟩
  rw [flatK_at _ _ (by simpa using hj'), Nat.zero_add, cell_of_row _ _ _ _ _ _ hb]
  have h1 : (cur.toList.take (E.length * 2))[j]? = (E.flatMap edC)[j]? := by rw [ht]
  rw [List.getElem?_take_of_lt hj'] at h1
  show cur[j]? = some (id _)
  rw [← Array.getElem?_toList, h1]
  have h2 : j < (E.flatMap edC).length := by rw [flat_len edC 2 (fun _ => rfl)]; exact hj'
  rw [List.getElem?_eq_getElem h2]
  simp
set_option maxRecDepth 100000 in
theorem take_putE (cur : Array Value) (F : List Ed) (h : F.length * 2 ≤ cur.size) : (Go.Sort.putCells id 0 (flatK edC 2 F.toArray) cur).toList.take (F.length * 2) = F.flatMap edC := by
  apply List.ext_getElem?
  intro j
  have hl : (F.flatMap edC).length = F.length * 2 := flat_len edC 2 (fun _ => rfl) F
  by_cases hj : j < F.length * 2
  · rw [List.getElem?_take_of_lt hj, Array.getElem?_toList]
    have h1 := flatK_at F.toArray j (by simpa using hj)
    have hj2 : j < (F.flatMap edC).length := by omega
    have hcs : j < cur.size := by omega
    unfold Go.Sort.putCells
    rw [Array.getElem?_mapIdx, Array.getElem?_eq_getElem hcs]
    simp only [Option.map_some]
    rw [if_pos ⟨Nat.zero_le _, by rw [size_flatK]; simpa using hj⟩, Nat.sub_zero]
    show some ((flatK edC 2 F.toArray)[j]!) = _
    rw [h1, show F.toArray.toList = F from rfl, List.getElem?_eq_getElem hj2]
    rfl
  · rw [List.getElem?_take_eq_none (by omega), List.getElem?_eq_none (by omega)]
set_option maxRecDepth 100000 in
theorem heap_sortE {w : World} {g n : Nat} {os : Array Obj} {cur : Array Value} {e : TypeId} {fr : Nat × Nat} (d : Array Ed) (hb : w.heap[g]? = some (.cells cur e fr)) :
    (sortWorldK edC 2 w g 0 n d os).heap[g]? = some (.cells (Go.Sort.putCells id 0 (flatK edC 2 d) cur) e fr) := by
  have hg : g < w.heap.size := (Array.getElem?_eq_some_iff.1 hb).1
  unfold sortWorldK
  rw [Go.Sort.heap_grow_old _ _ (by rw [size_putRowK]; exact hg)]
  simp [putRowK, Go.Sort.putRow, Go.Sort.mapBlock, Go.Sort.ahead, Array.getElem?_modify, hb, Go.Sort.onCells]
set_option maxRecDepth 100000 in
theorem grown_sortE (w : World) (g n : Nat) (d : Array Ed) (os : Array Obj) : w.grownBy (sortWorldK edC 2 w g 0 n d os) (some g) := by
  refine ⟨rfl, rfl, rfl, by simp [sortWorldK, Go.Sort.grow, putRowK, Go.Sort.putRow, Go.Sort.mapBlock, Go.Sort.ahead], fun k hk hne => ?_⟩
  unfold sortWorldK
  rw [Go.Sort.heap_grow_old _ _ (by rw [size_putRowK]; exact hk)]
  have : g ≠ k := fun e => hne (by rw [e])
  simp [putRowK, Go.Sort.putRow, Go.Sort.mapBlock, Go.Sort.ahead, Array.getElem?_modify, this]
set_option maxRecDepth 100000 in
theorem cmpLaysE (blk off size : Nat) (w : World) : CmpLays Try.prog 32 #[] edC 2 cfE blk off size w := fun m os dk hs x y => by
  refine (icmpe_any x y _).mono ?_
  rintro e w' ⟨rfl, rfl⟩
  exact ⟨rfl, 0, _, by rw [Go.Sort.alloc_eq_grow, Go.Sort.alloc_eq_grow, Go.Sort.grow_grow]; rfl⟩
/-- What SortFunc leaves: the same edges, by ID; the row is the same. -/
def SrtPost (base : Nat) (E : List Ed) (p : Option Addr) (c : Nat) (w : World) (e : Ending) (w' : World) : Prop :=
  ∃ F : List Ed, e = .returned (.tuple #[]) ∧ F.Perm E ∧ F.Pairwise (fun x y => x.i ≤ y.i) ∧ w'.ownsRow base 56 2 (.slice p F.length c) F.length (F.flatMap edC) ∧ w.grownBy w' (Value.slice p E.length c).ownBlock
set_option maxRecDepth 100000 in
theorem isort_any (base : Nat) (E : List Ed) (p : Option Addr) (c : Nat) (w : World) (hO : w.ownsRow base 56 2 (.slice p E.length c) E.length (E.flatMap edC)) (hn : E.length ≤ 100000) :
    Calls Try.prog 53 #[.slice p E.length c, .func (.func 32) #[] #[]] w fun e w' => SrtPost base E p c w e w' := by
  have hO0 := hO
  rcases hO.2 with ⟨e1, h0⟩ | ⟨g, cap, cur, e1, hbase, hb, r1, r2, r3, r4⟩
  · injection e1 with a1 a2 a3
    subst a1
    subst a3
    rw [h0]
    have cS := AnyF.slices_SortFunc_none (P := Try.prog) (ρ := sortE_ren) { sortE with } none 0 (.func (.func 32) #[] #[]) w
    change Calls Try.prog 53 _ _ _ at cS
    refine cS.mono ?_
    rintro e w' ⟨rfl, rfl⟩
    obtain rfl : E = [] := List.eq_nil_of_length_eq_zero h0
    exact ⟨[], rfl, List.Perm.refl _, List.Pairwise.nil, hO0, grown_refl _ _⟩
  · injection e1 with a1 a2 a3
    subst a1
    subst a3
    have hg : g < w.heap.size := (Array.getElem?_eq_some_iff.1 hb).1
    have eg : EnterF 32 := enters_of Try.func32 (by kernel_rfl) rfl
    have cS := AnyQ.slices_SortFunc sortE 2 Try.isAgg56 Try.sizeOf56 edC (fun _ => rfl) ed_one cfE swoE 32 #[] g 0 c E.toArray w eg (cmpLaysE _ _ _ _) (holdsE hb r4) hg (by simp; omega)
    change Calls Try.prog 53 _ _ _ at cS
    rw [show E.toArray.size = E.length by simp] at cS
    refine cS.mono ?_
    rintro e w' ⟨rfl, d', n, os, hp, hs, rfl⟩
    obtain ⟨p1, -, p3⟩ := hp
    have hsz : d'.size = E.length := by simpa using p1
    have hpm : d'.toList.Perm E := by
      have e1 : d'.extract 0 E.length = d' := by rw [← hsz, Array.extract_size]
      have e2 : E.toArray.extract 0 E.length = E.toArray := by rw [show E.length = E.toArray.size by simp, Array.extract_size]
      rw [e1, e2] at p3
      exact p3
    have hlen : d'.toList.length = E.length := hpm.length_eq
    refine ⟨d'.toList, rfl, hpm, ?_, ?_, ?_⟩
    · rw [List.pairwise_iff_getElem]
      intro i j hi hj hij
      have h1 := hs i j (Nat.zero_le _) hij (by omega)
      rw [lt_cfE, getElem!_pos d' j (by omega), getElem!_pos d' i (by omega)] at h1
      have := of_decide_eq_false h1
      simp only [Array.getElem_toList]
      omega
    · refine ⟨by rw [flat_len edC 2 (fun _ => rfl)], .inr ⟨g, c, _, rfl, hbase, heap_sortE _ hb, by omega, r2, by simp [Go.Sort.putCells, r3], ?_⟩⟩
      have h5 := take_putE cur d'.toList (by rw [hlen, r3]; exact Nat.mul_le_mul_right _ r1)
      rw [Array.toArray_toList] at h5
      exact h5
    · exact grown_sortE w g n d' os
end Go.Proofs.Ytlgmankojgjfjaa

/- Parts of the proof, packed: StTFrame, StFList, StEncL, PkSize, StEncF. -/
import Derived.Test.YtpombmpkccnefaaDoorFrames10
import Derived.Test.YtpombmpkccnefaaDoorFrames11
import Derived.Test.YtpombmpkccnefaaDoorFrames9
import Derived.Test.YtpombmpkccnefaaDoorFrames6
import Derived.Test.YtpombmpkccnefaaDoorFrames7
import Derived.Test.YtpombmpkccnefaaDoorFrames8
/- The tape's frames. -/
namespace Go.Proofs.YtpombmpkccnefaaDoor
open Go.RowKit Bs
/-- While a frame is made: its block B, the result's block, the route in a row of the call's own. -/
structure FK (a : Nat) (W : World) (B base : Nat) (v : Value) (r : List Int) (P : Pk) (w : World) : Prop where
  fb : w.heap[B]? = some (.cells (frcells v P) 43 (0, 0))
  rb : Row w W.heap.size 43 zfr.toList
  own : w.ownsRow base 3 1 v r.length (r.map iv)
  st : St a W w
  wf : P.Wf
  sz : base ≤ w.heap.size
section
variable {a B base : Nat} {W w w1 : World} {v v' : Value} {r : List Int} {P P' : Pk}
theorem owni_other {xs : List Value} {n : Nat} (h : w.ownsRow base 3 1 v n xs) {b : Nat} (g : w.grownBy w1 (some b)) (hb : b < base) : w1.ownsRow base 3 1 v n xs :=
  h.kept g (by
    cases hv : v.ownBlock with
    | none => exact .inl rfl
    | some k => exact .inr (fun e => by have e2 := Option.some.inj e; have := (h.lt k hv).1; omega))
theorem FK.tape (h : FK a W B base v r P w) (ha : a < W.heap.size) (hB : W.heap.size < B) (hb : B < base) (k : St a w w1) : FK a W B base v r P w1 :=
  ⟨kept_row h.fb k.1 (fun e => by have := Option.some.inj e; omega), h.rb.kept k.1 (fun e => by have := Option.some.inj e; omega), owni_other h.own k.1 (by omega), h.st.trans k, h.wf, Nat.le_trans h.sz k.1.size⟩
theorem FK.mid (h : FK a W B base v r P w) (ha : a < W.heap.size) (hB : W.heap.size < B) (hb : B < base) {o : Obj} {x : Int} (hown : w1.ownsRow base 3 1 v' (r.length + 1) (r.map iv ++ [.int .i64 x])) (hg : (w.alloc o).grownBy w1 v.ownBlock) :
    w1.heap[B]? = some (.cells (frcells v P) 43 (0, 0)) ∧ Row w1 W.heap.size 43 zfr.toList ∧ w1.ownsRow base 3 1 v' (r ++ [x]).length ((r ++ [x]).map iv) ∧ St a W w1 ∧ base ≤ w1.heap.size := by
  have hne : ∀ k, k < base → some k ≠ v.ownBlock := fun k hk e => by
    have := (h.own.lt k e.symm).1
    omega
  have k0 := World.grownBy_alloc w o none
  refine ⟨kept_row (kept_row h.fb k0 (by simp)) hg (hne B hb), (h.rb.kept k0 (by simp)).kept hg (hne _ (by omega)), ?_, ?_, Nat.le_trans h.sz (Nat.le_trans k0.size hg.size)⟩
  · rw [List.length_append, List.map_append]; exact hown
  · have h1 : St a W (w.alloc o) := h.st.trans ⟨World.grownBy_alloc w o _, h.st.2.alloc o⟩
    cases hbk : v.ownBlock with
    | none => rw [hbk] at hg; exact ⟨grown_trans h1.1 (grown_none hg _), h1.2.keep hg⟩
    | some g =>
      rw [hbk] at hg
      have := (h.own.lt g hbk).1
      exact h1.store hg (by omega) ha
theorem FK.put (ha : a < W.heap.size) (hB : W.heap.size < B) (hb : B < base) {x : Int} (wf : P.Wf) (hm : w1.heap[B]? = some (.cells (frcells v P) 43 (0, 0)) ∧ Row w1 W.heap.size 43 zfr.toList ∧ w1.ownsRow base 3 1 v' (r ++ [x]).length ((r ++ [x]).map iv) ∧ St a W w1 ∧ base ≤ w1.heap.size) :
    FK a W B base v' (r ++ [x]) P (w1.setCell ⟨B, 0, none⟩ v') := by
  obtain ⟨h1, h2, h3, h4, h5⟩ := hm
  have k1 := grown_setCell w1 ⟨B, 0, none⟩ v'
  refine ⟨?_, h2.kept k1 (fun e => by have : W.heap.size = B := Option.some.inj e; omega), owni_other h3 k1 hb, h4.store (b := B) k1 (by omega) ha, wf, Nat.le_trans h5 k1.size⟩
  exact heap_setCell_same w1 B 0 _ _ v' h1
end
/-- A packet is stored into a frame. -/
def pput (w : World) (h : Nat) (v0 v1 v2 v3 v4 v5 v6 v7 v8 v9 : Value) : World :=
  ((((((((((w.setCell ⟨h, 1, none⟩ v0).setCell ⟨h, 2, none⟩ v1).setCell ⟨h, 3, none⟩ v2).setCell ⟨h, 4, none⟩ v3).setCell ⟨h, 5, none⟩ v4).setCell ⟨h, 6, none⟩ v5).setCell ⟨h, 7, none⟩ v6).setCell ⟨h, 8, none⟩ v7).setCell ⟨h, 9, none⟩ v8).setCell ⟨h, 10, none⟩ v9)
set_option maxRecDepth 100000 in
theorem FK.pkt {a B base : Nat} {W w : World} {v : Value} {r : List Int} {P P' : Pk} (h : FK a W B base v r P w) (ha : a < W.heap.size) (hB : W.heap.size < B) (hb : B < base) (wf : P'.Wf) :
    FK a W B base v r P' (pput w B (.int .i64 P'.mode) (.int .i64 P'.sub) (.int .i64 P'.set) (.int .i64 P'.len) (.int .i64 P'.ttl) (.int .i64 P'.ent) (.int .i64 P'.ing) (.int .i64 P'.pro) (.int .u64 (P'.bits : Int)) (.string P'.pay)) := by
  have S : ∀ (u : World) (j : Nat) (x : Value), u.grownBy (u.setCell ⟨B, j, none⟩ x) (some B) := fun u j x => grown_setCell u ⟨B, j, none⟩ x
  have k1 : w.grownBy (pput w B (.int .i64 P'.mode) (.int .i64 P'.sub) (.int .i64 P'.set) (.int .i64 P'.len) (.int .i64 P'.ttl) (.int .i64 P'.ent) (.int .i64 P'.ing) (.int .i64 P'.pro) (.int .u64 (P'.bits : Int)) (.string P'.pay)) (some B) := by
    unfold pput
    exact grown_trans (grown_trans (grown_trans (grown_trans (grown_trans (grown_trans (grown_trans (grown_trans (grown_trans (S _ _ _) (S _ _ _)) (S _ _ _)) (S _ _ _)) (S _ _ _)) (S _ _ _)) (S _ _ _)) (S _ _ _)) (S _ _ _)) (S _ _ _)
  have hr : Row w B 43 (frcells v P).toList := h.fb
  have hrow := ((((((((((hr.set 1 (.int .i64 P'.mode)).set 2 (.int .i64 P'.sub)).set 3 (.int .i64 P'.set)).set 4 (.int .i64 P'.len)).set 5 (.int .i64 P'.ttl)).set 6 (.int .i64 P'.ent)).set 7 (.int .i64 P'.ing)).set 8 (.int .i64 P'.pro)).set 9 (.int .u64 (P'.bits : Int))).set 10 (.string P'.pay))
  exact ⟨hrow, h.rb.kept k1 (fun e => by have : W.heap.size = B := Option.some.inj e; omega), owni_other h.own k1 hb, h.st.store (b := B) k1 (by omega) ha, wf, Nat.le_trans h.sz k1.size⟩
set_option maxRecDepth 100000 in
theorem owni_facts {w : World} {base : Nat} {v : Value} {n : Nat} {xs : List Value} (h : w.ownsRow base 3 1 v n xs) : ∃ (p : Option Addr) (c : Nat), v = .slice p n c ∧ n ≤ c ∧ c ≤ 9223372036854775807 ∧ (p = none → c = 0) := by
  rcases Joins.ownsRow_forms h with ⟨e, e0⟩ | ⟨g, cap, e⟩
  · subst e0
    exact ⟨none, 0, e, by omega, by omega, fun _ => rfl⟩
  · subst e
    have := own_cap h
    exact ⟨_, cap, rfl, this.1, this.2, fun e => by cases e⟩
set_option maxRecDepth 100000 in
theorem frame1_size : (Tryd.prog.info? 43).map (·.size) = some 11 := by kernel_rfl
set_option maxRecDepth 100000 in
theorem res_frame1 {fn : Func} {p : Tmp} (h : fn.results = #[.cell p 43]) (tmps : Array Value) (w : World) (g : Nat) (xs : Array Value) (hp : tmps.getD p undef = .pointer (some ⟨g, 0, none⟩)) (hn : xs.size = 11) (hg : w.heap[g]? = some (.cells xs 43 (0, 0))) :
    (results fn tmps).run Tryd.prog w = .ok (.agg xs) w := by
  exact results_cell_row h tmps w g _ _ _ _ hp hg Tryd.underlying43 rfl (by rw [hn]; exact frame1_size)
/-- What the tape's Frame returns. -/
def TFPost (a : Nat) (w : World) (e : Ending) (w' : World) : Prop :=
  ∃ (r : List Int) (P : Pk) (p : Option Addr) (c : Nat), e = .returned (fval (.slice p r.length c) P) ∧ P.Wf ∧ r.length ≤ 40 ∧ r.length ≤ c ∧ c ≤ 9223372036854775807 ∧ Rd w' (w.heap.size < ·) (.slice p r.length c) (r.map iv) ∧ (p = none → c = 0) ∧ St a w w'
set_option maxRecDepth 100000 in
set_option maxHeartbeats 6400000 in
theorem frame_any (a : Nat) (n : Int) (hn : I64 n) (w : World) (hT : Tp w a) :
    Calls Tryd.prog 19 #[.pointer (some ⟨a, 0, none⟩), .int .i64 n] w fun e w' => TFPost a w e w' := by
  obtain ⟨i0, hi0, hz0, hz1, hz2⟩ := info_parts info_int
  have ha := hT.lt
  obtain ⟨k1, k2⟩ := sone_box w zfr 43
  have HS : Hid (St a w (w.alloc (.cells zfr 43))) := Lib.hid ⟨grown_none k2 _, hT.keep k2⟩
  have HB : Hid (Row (w.alloc (.cells zfr 43)) w.heap.size 43 zfr.toList) := Lib.hid k1
  have HZ := Lib.hid (show zfr = #[.slice none 0 0, .int .i64 0, .int .i64 0, .int .i64 0, .int .i64 0, .int .i64 0, .int .i64 0, .int .i64 0, .int .i64 0, .int .u64 0, .string ⟨#[]⟩] from rfl)
  have HW := Lib.hid (show w.heap.size < (w.alloc (.cells zfr 43)).heap.size by simp)
  rw [HZ.out] at HS HW
  rw [show (w.alloc (.cells zfr 43)) = (w.alloc (.cells #[.slice none 0 0, .int .i64 0, .int .i64 0, .int .i64 0, .int .i64 0, .int .i64 0, .int .i64 0, .int .i64 0, .int .i64 0, .int .u64 0, .string ⟨#[]⟩] 43)) from rfl] at HB
  clear k1 k2 hT
  go_enter Tryd.func19, Tryd.ntmps19
  go_upto_region 1 with fail
  generalize w.alloc _ = wa at *
  go_wp2_with fail
  refine (packet0_any a wa HS.out.2).mono ?_
  rintro e w3 ⟨P, rfl, hWf, hvp, hs⟩
  have hval : P.val = .agg #[.int .i64 P.mode, .int .i64 P.sub, .int .i64 P.set, .int .i64 P.len, .int .i64 P.ttl, .int .i64 P.ent, .int .i64 P.ing, .int .i64 P.pro, .int .u64 (P.bits : Int), .string P.pay] := rfl
  rw [hval]
  go_upto_region 2 with fail
  obtain ⟨k1, k2⟩ := sone_box w3 (frcells (.slice none 0 0) P) 43
  have HF4 : Hid ((w3.alloc (.cells (frcells (.slice none 0 0) P) 43)).heap[w3.heap.size]? = some (.cells (frcells (.slice none 0 0) P) 43 (0, 0)) ∧ Row (w3.alloc (.cells (frcells (.slice none 0 0) P) 43)) w.heap.size 43 zfr.toList ∧ St a w (w3.alloc (.cells (frcells (.slice none 0 0) P) 43)) ∧ w3.heap.size < (w3.alloc (.cells (frcells (.slice none 0 0) P) 43)).heap.size) :=
    Lib.hid ⟨k1, (HB.out.kept hs.1 (fun e => by have := Option.some.inj e; omega)).kept k2 (by simp), (HS.out.trans hs).trans ⟨grown_none k2 _, hs.2.keep k2⟩, by simp⟩
  have HB3 : Hid (w.heap.size < w3.heap.size ∧ P.Wf) := Lib.hid ⟨Nat.lt_of_lt_of_le HW.out hs.1.size, hWf⟩
  have HFC := Lib.hid (show frcells (.slice none 0 0) P = #[.slice none 0 0, .int .i64 P.mode, .int .i64 P.sub, .int .i64 P.set, .int .i64 P.len, .int .i64 P.ttl, .int .i64 P.ent, .int .i64 P.ing, .int .i64 P.pro, .int .u64 (P.bits : Int), .string P.pay] from rfl)
  rw [HFC.out] at HF4
  clear k1 k2 hs hvp hWf hval HB HS HW
  generalize w3.alloc _ = w4 at *
  generalize w3.heap.size = B at *
  rw [← HFC.out] at HF4
  go_wp2_with fail
  refine (order_any a 5 (by omega) w4 HF4.out.2.2.1.2).mono ?_
  rintro e w5 ⟨vo, rfl, l, hl, hown, _, hs⟩
  obtain ⟨go, co, rfl⟩ := Joins.ownsRow_form hown (by omega)
  have hRo := rd_of_own hown
  have hBw4 := HF4.out.2.2.2
  have HK0 : Hid (FK a w B w5.heap.size (.slice none 0 0) [] P w5) := Lib.hid ⟨kept_row HF4.out.1 hs.1 (fun e => by have := Option.some.inj e; have := ha; have := HB3.out.1; omega), HF4.out.2.1.kept hs.1 (fun e => by have := Option.some.inj e; omega), World.ownsRow_nil _ _ _ _, HF4.out.2.2.1.trans hs, HB3.out.2, Nat.le_refl _⟩
  have hBb : B < w5.heap.size := Nat.lt_of_lt_of_le hBw4 hs.1.size
  obtain ⟨hgoB, hgob, hgo4⟩ : go ≠ B ∧ go < w5.heap.size ∧ a < go := by
    obtain ⟨h1, h2⟩ := hown.lt go rfl
    exact ⟨by omega, h2, Nat.lt_of_lt_of_le HF4.out.2.2.1.2.lt h1⟩
  obtain ⟨cur, hcur, hcl⟩ : ∃ cur, w5.heap[go]? = some (.cells cur 3 (0, 0)) ∧ ∀ i, i < 5 → ∃ y : Nat, y < 5 ∧ cur[i]? = some (.int .i64 (y : Int)) := by
    rcases hown.2 with ⟨h0, _⟩ | ⟨g', cap', cur, hv, _, hh, _, _, _, htake⟩
    · cases h0
    · cases hv
      refine ⟨cur, hh, fun i hi => ?_⟩
      have h5 : i < l.length := by rw [hl.1]; exact hi
      refine ⟨l[i], hl.2.2 _ (List.getElem_mem h5), ?_⟩
      have e1 : (cur.toList.take (5 * 1))[i]? = (l.map zv)[i]? := by rw [htake]
      rw [List.getElem?_take, if_pos (by omega), List.getElem?_map, List.getElem?_eq_getElem h5] at e1
      simpa [zv] using e1
  have HCU := Lib.hid hcl
  have HGO := Lib.hid hcur
  have HWB := HB3.out.1
  clear hown hRo hs hl hcur hcl HF4
  go_wp2_with fail
  refine (next_any a 5 (by unfold I64; omega) w5 HK0.out.st.2).mono ?_
  rintro e w6 ⟨xx, rfl, hx, hs⟩
  obtain ⟨x, rfl⟩ := Int.eq_ofNat_of_zero_le hx.1
  have hx5 : x ≤ 4 := by have := hx.2.1 (by decide); omega
  have HK1 := Lib.hid (HK0.out.tape ha HWB hBb hs)
  have HGO1 := Lib.hid (kept_row HGO.out hs.1 (fun e => by have := Option.some.inj e; omega))
  have hsz6 := hs.1.size
  clear hx hs HK0 HGO
  generalize hbase : w5.heap.size = base at *
  go_wp2_with fail
  go_loopw [7] (fun i wr => ∃ k : Nat, k ≤ 4 ∧ i = .int .i64 (k : Int) ∧ ∃ vr r, (r : List Int).length + k ≤ 4 ∧ Hid (FK a w B base vr r P wr) ∧ Hid (wr.heap[go]? = some (.cells cur 3 (0, 0))) ∧ base ≤ wr.heap.size) (fun i _ => (intOf i).toNat)
  case atStart => exact ⟨x, hx5, rfl, _, [], by simpa using hx5, HK1, HGO1, hsz6⟩
  case round =>
    obtain ⟨k, hk, rfl, vr, r, hrk, hK, hO, hsz⟩ := hrel
    clear HK1 HGO1
    by_cases hk1 : 1 ≤ k
    · obtain ⟨y, hy5, hyc⟩ := HCU.out k (by omega)
      have c0 := (fr_facts hK.out.fb).1
      have c1 := (cell_of_row _ _ k _ _ _ hO.out).trans hyc
      have f0 := frozen_of_row _ _ 0 _ _ hK.out.fb
      have A0 := (World.grownBy_alloc wr (.cells #[.int .i64 (1 + (y : Int))] 3) none).cell c0 (by simp)
      have hKd : Hid (FK a w B base vr r P wr.drew) := Lib.hid ⟨hK.out.fb, hK.out.rb, hK.out.own.drew, ⟨grown_drew hK.out.st.1, hK.out.st.2.drew⟩, hK.out.wf, hK.out.sz⟩
      have hO2 := Lib.hid (And.intro hK.out.wf hO.out)
      have I1 : ¬ B = wr.heap.size := by have := (hK.out.fb |> World.lt_of_row'); omega
      have hsz3 : base ≤ wr.drew.heap.size := hsz
      have hown0 := hK.out.own.drew
      have hrl : r.length ≤ 4 := by omega
      have k5 : (k : Int) < 5 := by omega
      have hwy : IntKind.i64.wrap (1 + (y : Int)) = 1 + (y : Int) := by rw [IntKind.wrap_i64]; omega
      have k0 : (0 : Int) ≤ (k : Int) := by omega
      go_wp2_with fail
      go_region_law (refine step_append_lies _ rfl _ _ 22 rfl base 3 i0 (.int .i64 0) 1 8 Tryd.underlying22 hi0 hz0 hz1 hz2 rfl (by decide) vr r.length (r.map iv) (by rfl) (hown0.alloc _) ⟨wr.heap.size, 0, none⟩ 1 1 [.int .i64 (1 + (y : Int))] (by rfl) (by rfl) (cell_one wr.drew _ _) (by intro u hu; simp at hu; subst hu; rfl) (by omega) (by unfold maxLen; omega) (by omega) (by simp; omega) _ rfl ?_; intro g cap w7 hown hgrow hat hlt; have HM := Lib.hid (hKd.out.mid ha HWB hBb hown hgrow); have cB := (fr_facts HM.out.1).1; have fB := frozen_of_row _ _ 0 _ _ HM.out.1; have HGO7 := Lib.hid (kept_row (kept_row (show wr.drew.heap[go]? = _ from hO.out) (World.grownBy_alloc wr.drew _ none) (by simp)) hgrow (fun e => by have := (hown0.lt go e.symm).1; omega)))
      all_goals
        have HK2 := Lib.hid (FK.put ha HWB hBb hK.out.wf HM.out)
        have HGO8 : Hid ((w7.setCell ⟨B, 0, none⟩ (.slice (some ⟨g, 0, none⟩) (r.length + 1) cap)).heap[go]? = some (.cells cur 3 (0, 0))) := Lib.hid (kept_row HGO7.out (grown_setCell w7 ⟨B, 0, none⟩ _) (fun e => hgoB (Option.some.inj e)))
        have hszw : base ≤ (w7.setCell ⟨B, 0, none⟩ (.slice (some ⟨g, 0, none⟩) (r.length + 1) cap)).heap.size := by
          have h1 := hgrow.size
          have h2 := (grown_setCell w7 ⟨B, 0, none⟩ (.slice (some ⟨g, 0, none⟩) (r.length + 1) cap)).size
          simp at h1
          have h3 : wr.heap.size = wr.drew.heap.size := rfl
          omega
        clear hown hgrow hat hlt HM cB fB HGO7 hKd hO2 hK hO A0 c0 c1 f0
        go_wp2_with fail
        exact ⟨⟨k - 1, by omega, by congr 1; omega, _, r ++ [1 + (y : Int)], by rw [List.length_append]; simp; omega, HK2, HGO8, hszw⟩, by simp [intOf]; omega⟩
    · obtain rfl : k = 0 := by omega
      have HKx := Lib.hid (And.intro hK.out hsz)
      clear hK hO hk1 hsz HCU
      go_upto_region 7 with fail
      go_cut [36] from 30 to 36 (fun bb wx => ∃ z, bb = .bool z ∧ Hid (FK a w B base vr r P wx))
      case first =>
        by_cases hn1 : 0 < n
        · go_wp2_with (go_at_call 26; refine (one_any _ n hn _ HKx.out.1.st.2).mono ?_; rintro e w7 ⟨z, rfl, hs⟩; have HK2 := Lib.hid (HKx.out.1.tape ha HWB hBb hs); clear hs)
          go_meet
          exact ⟨z, rfl, HK2⟩
        · go_wp2_with fail
          go_meet
          exact ⟨false, rfl, Lib.hid HKx.out.1⟩
      case rest =>
      obtain ⟨z, rfl, HK3⟩ := hcut
      clear HKx
      go_upto_if 36 with fail
      go_cut [8] from 37 to 64 (fun ii wx => ∃ v2 r2 P2, (r2 : List Int).length ≤ 40 ∧ Hid (FK a w B base v2 r2 P2 wx))
      case first =>
        cases z
        · go_wp2_with fail
          go_meet
          exact ⟨vr, r, P, by omega, HK3⟩
        · have hTp := Lib.hid HK3.out.st.2
          go_wp2_with fail
          refine (next_any _ 3 (by unfold I64; omega) _ hTp.out).mono ?_
          rintro e w8 ⟨qq, rfl, hq, hs⟩
          obtain ⟨q, rfl⟩ := Int.eq_ofNat_of_zero_le hq.1
          have hq3 : q < 3 := by have := hq.2.1 (by decide); omega
          have HK4 := Lib.hid (HK3.out.tape ha HWB hBb hs)
          clear hq hs hTp HK3
          rcases (show q = 0 ∨ q = 1 ∨ q = 2 by omega) with rfl | rfl | rfl
          · go_wp2_with fail
            refine (packetN_agg a 1 (by omega) (by omega) w8 HK4.out.st.2).mono ?_
            rintro e w9 ⟨P2, rfl, hWf2, hs⟩
            have HK5 := Lib.hid (HK4.out.tape ha HWB hBb hs)
            have HK6 := Lib.hid (HK5.out.pkt ha HWB hBb hWf2)
            obtain ⟨d0, d1, d2, d3, d4, d5, d6, d7, d8, d9, d10⟩ := fr_facts HK5.out.fb
            have f1 := frozen_of_row _ _ 1 _ _ HK5.out.fb
            have f2 := frozen_of_row _ _ 2 _ _ HK5.out.fb
            have f3 := frozen_of_row _ _ 3 _ _ HK5.out.fb
            have f4 := frozen_of_row _ _ 4 _ _ HK5.out.fb
            have f5 := frozen_of_row _ _ 5 _ _ HK5.out.fb
            have f6 := frozen_of_row _ _ 6 _ _ HK5.out.fb
            have f7 := frozen_of_row _ _ 7 _ _ HK5.out.fb
            have f8 := frozen_of_row _ _ 8 _ _ HK5.out.fb
            have f9 := frozen_of_row _ _ 9 _ _ HK5.out.fb
            have f10 := frozen_of_row _ _ 10 _ _ HK5.out.fb
            clear hs HK4 hWf2
            go_wp2_with fail
            go_meet
            exact ⟨vr, r, P2, by omega, HK6⟩
          · have c0 := (fr_facts HK4.out.fb).1
            have A0 := (World.grownBy_alloc w8 (.cells #[.int .i64 0, .int .i64 1, .int .i64 2, .int .i64 99, .int .i64 100] 3) none).cell c0 (by simp)
            have hrl : r.length ≤ 4 := by omega
            have HT8 := Lib.hid (HK4.out.st.2.alloc (.cells #[.int .i64 0, .int .i64 1, .int .i64 2, .int .i64 99, .int .i64 100] 3)).drew
            have HA8 : Hid (Among I64 (w8.alloc (.cells #[.int .i64 0, .int .i64 1, .int .i64 2, .int .i64 99, .int .i64 100] 3)).drew a w8.heap.size 0 5) := Lib.hid (among_list I64 w8 a [0, 1, 2, 99, 100] #[.int .i64 0, .int .i64 1, .int .i64 2, .int .i64 99, .int .i64 100] 3 HK4.out.st.2.lt rfl (by intro x hx; simp at hx; unfold I64; omega))
            go_wp2_with fail
            go_region_law (first
              | (go_simp; go_at_call 25; refine (pick_any I64 a _ 0 5 5 (by omega) (by omega) _ HT8.out HA8.out).mono ?_; rintro e w9 ⟨x, rfl, hx, hsk⟩; have HK5 := Lib.hid (HK4.out.tape ha HWB hBb (St.alloc_left (w := w8) (show St a (w8.alloc _) w9 from ⟨⟨hsk.1.os, hsk.1.tape, hsk.1.output, hsk.1.size, hsk.1.block⟩, hsk.2⟩))); have c9 := (fr_facts HK5.out.fb).1; have A9 := (World.grownBy_alloc w9 (.cells #[.int .i64 x] 3) none).cell c9 (by simp); have hown9 := HK5.out.own; have hsz9 := HK5.out.sz)
              | (refine step_append_lies _ rfl _ _ 22 rfl base 3 i0 (.int .i64 0) 1 8 Tryd.underlying22 hi0 hz0 hz1 hz2 rfl (by decide) vr r.length (r.map iv) (by rfl) (hown9.alloc _) ⟨w9.heap.size, 0, none⟩ 1 1 [.int .i64 x] (by rfl) (by rfl) (cell_one w9 _ _) (by intro u hu; simp at hu; subst hu; rfl) (by omega) (by unfold maxLen; omega) (by omega) (by simp; omega) _ rfl ?_; intro g cap w10 hown hgrow hat hlt; have HM := Lib.hid (HK5.out.mid ha HWB hBb hown hgrow); have cB := (fr_facts HM.out.1).1; have fB := frozen_of_row _ _ 0 _ _ HM.out.1))
            all_goals
              have HK6 := Lib.hid (FK.put ha HWB hBb HK5.out.wf HM.out)
              clear hown hgrow hat hlt HM cB fB hsk HK5 HK4 A0 A9 c0 c9 hown9
              go_wp2_with fail
              go_meet
              exact ⟨_, r ++ [x], P, by rw [List.length_append]; simp; omega, HK6⟩
          · go_wp2_with fail
            go_loopw [8] (fun i wr => ∃ k : Nat, k ≤ 25 ∧ i = .int .i64 (k : Int) ∧ ∃ v2 r2, (r2 : List Int).length ≤ 4 + k ∧ Hid (FK a w B base v2 r2 P wr)) (fun i _ => 25 - (intOf i).toNat)
            case atStart => exact ⟨0, by omega, rfl, vr, r, by omega, HK4⟩
            case round =>
              obtain ⟨k, hk, rfl, v2, r2, hr2, hK⟩ := hrel
              clear HK4
              by_cases hk25 : k < 25
              · have c0 := (fr_facts hK.out.fb).1
                have hown0 := hK.out.own
                have hbw : base ≤ wr.heap.size := hK.out.sz
                go_wp2_with (at_builtin; refine wpList_append_own _ rfl _ _ 22 rfl base 3 i0 (.int .i64 0) 1 8 Tryd.underlying22 hi0 hz0 hz1 hz2 rfl (by decide) v2 r2.length (r2.map iv) rfl (hown0.alloc _) ⟨wr.heap.size, 0, none⟩ 1 1 [.int .i64 (50 + (k : Int))] rfl rfl ?c1 ?c2 ?c3 ?c4 ?c5 ?_)
                case c1 => exact cell_one _ _ _
                case c2 => intro u hu; simp at hu; subst hu; rfl
                case c3 => unfold maxLen; omega
                case c4 => omega
                case c5 => simp; omega
                intro v' w9 hown hg _
                obtain ⟨g, cap, rfl⟩ := Joins.ownsRow_form hown (by omega)
                have HM := Lib.hid (hK.out.mid ha HWB hBb hown hg)
                have cB := (fr_facts HM.out.1).1
                have fB := frozen_of_row _ _ 0 _ _ HM.out.1
                have HK2 := Lib.hid (FK.put ha HWB hBb hK.out.wf HM.out)
                clear hown hg HM hK c0 hown0
                go_wp2_with fail
                go_roundw
                case rel =>
                  exact ⟨k + 1, by omega, by go_num, _, r2 ++ [50 + (k : Int)], by rw [List.length_append]; simp; omega, HK2⟩
                case measure => simp [intOf]; omega
              · go_wp2_with fail
                go_meet
                exact ⟨v2, r2, P, by omega, hK⟩
      case rest =>
        obtain ⟨v2, r2, P2, hr2, HK7⟩ := hcut
        obtain ⟨p2, c2, rfl, hn2, hc2, hp2⟩ := owni_facts HK7.out.own
        obtain ⟨d0, d1, d2, d3, d4, d5, d6, d7, d8, d9, d10⟩ := fr_facts HK7.out.fb
        obtain ⟨⟨e0, e1, e2, e3, e4, e5, e6, e7, e8, e9, e10⟩, f0, f1, f2, f3, f4, f5, f6, f7, f8, f9, f10⟩ := zfr_facts HK7.out.rb
        have HN := Lib.hid (And.intro hn2 (And.intro hc2 hp2))
        clear hn2 hc2 hp2
        go_wp2_with fail
        refine bodyPost_ret (res_frame1 rfl _ _ w.heap.size _ rfl rfl (fput_row _ _ _ _ _ _ _ _ _ _ _ HK7.out.rb)) rfl ?_
        exact ⟨r2, P2, p2, c2, rfl, HK7.out.wf, hr2, HN.out.1, HN.out.2.1, ((rd_of_own HK7.out.own).grown (fput_grown _ w.heap.size _ _ _ _ _ _ _ _ _ _ _) (fun b hb e => by have := Option.some.inj e; omega)).mono (fun b hb => by omega), HN.out.2.2, HK7.out.st.store (b := w.heap.size) (fput_grown _ w.heap.size _ _ _ _ _ _ _ _ _ _ _) (Nat.le_refl _) ha⟩
end Go.Proofs.YtpombmpkccnefaaDoor

/- A list of three frames. -/
namespace Go.Proofs.YtpombmpkccnefaaDoor
open Go.RowKit Bs
/-- A frame with where its route lies. -/
structure Fr where
  r : List Int
  P : Pk
  p : Option Addr
  c : Nat
/-- Its first cell. -/
def Fr.v (F : Fr) : Value := .slice F.p F.r.length F.c
/-- A frame that can be read. -/
structure FrOk (w : World) (F : Fr) : Prop where
  wf : F.P.Wf
  le : F.r.length ≤ F.c
  max : F.c ≤ 9223372036854775807
  rd : Rd w (fun _ => True) (.slice F.p F.r.length F.c) (F.r.map iv)
set_option maxRecDepth 100000 in
theorem FrOk.keep {w w' : World} {F : Fr} (h : FrOk w F) (g : w.grownBy w' none) : FrOk w' F := ⟨h.wf, h.le, h.max, h.rd.keep g⟩
/-- The cells of three frames. -/
def c33 (A B C : Fr) : Array Value := #[A.v, .int .i64 A.P.mode, .int .i64 A.P.sub, .int .i64 A.P.set, .int .i64 A.P.len, .int .i64 A.P.ttl, .int .i64 A.P.ent, .int .i64 A.P.ing, .int .i64 A.P.pro, .int .u64 (A.P.bits : Int), .string A.P.pay, B.v, .int .i64 B.P.mode, .int .i64 B.P.sub, .int .i64 B.P.set, .int .i64 B.P.len, .int .i64 B.P.ttl, .int .i64 B.P.ent, .int .i64 B.P.ing, .int .i64 B.P.pro, .int .u64 (B.P.bits : Int), .string B.P.pay, C.v, .int .i64 C.P.mode, .int .i64 C.P.sub, .int .i64 C.P.set, .int .i64 C.P.len, .int .i64 C.P.ttl, .int .i64 C.P.ent, .int .i64 C.P.ing, .int .i64 C.P.pro, .int .u64 (C.P.bits : Int), .string C.P.pay]
def fsel (A B C : Fr) (j : Nat) : Fr := match j with | 0 => A | 1 => B | _ => C
/-- Member j of the list. -/
def At11 (w : World) (b j : Nat) (F : Fr) : Prop :=
  w.cell? ⟨b, j * 11, none⟩ = some F.v ∧ w.cell? ⟨b, j * 11 + 1, none⟩ = some (.int .i64 F.P.mode) ∧ w.cell? ⟨b, j * 11 + 2, none⟩ = some (.int .i64 F.P.sub) ∧ w.cell? ⟨b, j * 11 + 3, none⟩ = some (.int .i64 F.P.set) ∧ w.cell? ⟨b, j * 11 + 4, none⟩ = some (.int .i64 F.P.len) ∧ w.cell? ⟨b, j * 11 + 5, none⟩ = some (.int .i64 F.P.ttl) ∧ w.cell? ⟨b, j * 11 + 6, none⟩ = some (.int .i64 F.P.ent) ∧ w.cell? ⟨b, j * 11 + 7, none⟩ = some (.int .i64 F.P.ing) ∧ w.cell? ⟨b, j * 11 + 8, none⟩ = some (.int .i64 F.P.pro) ∧ w.cell? ⟨b, j * 11 + 9, none⟩ = some (.int .u64 (F.P.bits : Int)) ∧ w.cell? ⟨b, j * 11 + 10, none⟩ = some (.string F.P.pay)
set_option maxRecDepth 100000 in
theorem c33_at {w : World} {b : Nat} {A B C : Fr} (hr : w.heap[b]? = some (.cells (c33 A B C) 43 (0, 0))) (j : Nat) (hj : j < 3) : At11 w b j (fsel A B C j) := by
  rcases (show j = 0 ∨ j = 1 ∨ j = 2 by omega) with rfl | rfl | rfl
  · exact ⟨cell_of_row _ _ _ _ _ _ hr, cell_of_row _ _ _ _ _ _ hr, cell_of_row _ _ _ _ _ _ hr, cell_of_row _ _ _ _ _ _ hr, cell_of_row _ _ _ _ _ _ hr, cell_of_row _ _ _ _ _ _ hr, cell_of_row _ _ _ _ _ _ hr, cell_of_row _ _ _ _ _ _ hr, cell_of_row _ _ _ _ _ _ hr, cell_of_row _ _ _ _ _ _ hr, cell_of_row _ _ _ _ _ _ hr⟩
  · exact ⟨cell_of_row _ _ _ _ _ _ hr, cell_of_row _ _ _ _ _ _ hr, cell_of_row _ _ _ _ _ _ hr, cell_of_row _ _ _ _ _ _ hr, cell_of_row _ _ _ _ _ _ hr, cell_of_row _ _ _ _ _ _ hr, cell_of_row _ _ _ _ _ _ hr, cell_of_row _ _ _ _ _ _ hr, cell_of_row _ _ _ _ _ _ hr, cell_of_row _ _ _ _ _ _ hr, cell_of_row _ _ _ _ _ _ hr⟩
  · exact ⟨cell_of_row _ _ _ _ _ _ hr, cell_of_row _ _ _ _ _ _ hr, cell_of_row _ _ _ _ _ _ hr, cell_of_row _ _ _ _ _ _ hr, cell_of_row _ _ _ _ _ _ hr, cell_of_row _ _ _ _ _ _ hr, cell_of_row _ _ _ _ _ _ hr, cell_of_row _ _ _ _ _ _ hr, cell_of_row _ _ _ _ _ _ hr, cell_of_row _ _ _ _ _ _ hr, cell_of_row _ _ _ _ _ _ hr⟩
set_option maxRecDepth 100000 in
theorem At11.keep {w w' : World} {b j : Nat} {F : Fr} (h : At11 w b j F) (g : w.grownBy w' none) : At11 w' b j F := by
  obtain ⟨h0, h1, h2, h3, h4, h5, h6, h7, h8, h9, h10⟩ := h
  exact ⟨g.cell h0 (by simp), g.cell h1 (by simp), g.cell h2 (by simp), g.cell h3 (by simp), g.cell h4 (by simp), g.cell h5 (by simp), g.cell h6 (by simp), g.cell h7 (by simp), g.cell h8 (by simp), g.cell h9 (by simp), g.cell h10 (by simp)⟩
set_option maxRecDepth 100000 in
theorem fsel_ok {w : World} {A B C : Fr} (h1 : FrOk w A) (h2 : FrOk w B) (h3 : FrOk w C) (j : Nat) : FrOk w (fsel A B C j) := by
  unfold fsel
  split <;> assumption
set_option maxRecDepth 100000 in
theorem keep13 {w0 w' : World} {a b : Nat} {v : Value} {P : Pk} (h : w0.heap[b]? = some (.cells (frcells v P) 43 (0, 0))) (hab : b ≠ a) (hT : Tp w' a) (hg : Hid (w0.grownBy w' (some a))) :
    w'.cell? ⟨b, 0, none⟩ = some v ∧ w'.cell? ⟨b, 1, none⟩ = some (.int .i64 P.mode) ∧ w'.cell? ⟨b, 2, none⟩ = some (.int .i64 P.sub) ∧ w'.cell? ⟨b, 3, none⟩ = some (.int .i64 P.set) ∧ w'.cell? ⟨b, 4, none⟩ = some (.int .i64 P.len) ∧ w'.cell? ⟨b, 5, none⟩ = some (.int .i64 P.ttl) ∧ w'.cell? ⟨b, 6, none⟩ = some (.int .i64 P.ent) ∧ w'.cell? ⟨b, 7, none⟩ = some (.int .i64 P.ing) ∧ w'.cell? ⟨b, 8, none⟩ = some (.int .i64 P.pro) ∧ w'.cell? ⟨b, 9, none⟩ = some (.int .u64 (P.bits : Int)) ∧ w'.cell? ⟨b, 10, none⟩ = some (.string P.pay) ∧ Tp w' a ∧ Hid (w0.grownBy w' (some a)) := by
  obtain ⟨h0, h1, h2, h3, h4, h5, h6, h7, h8, h9, h10⟩ := fr_facts (kept_row h hg.out (fun e => hab (Option.some.inj e)))
  exact ⟨h0, h1, h2, h3, h4, h5, h6, h7, h8, h9, h10, hT, hg⟩
end Go.Proofs.YtpombmpkccnefaaDoor

/- stack: EncodeLabels. -/
namespace Go.Proofs.YtpombmpkccnefaaDoor
open Go.RowKit Bs
def lenL (n : Nat) : Bool := decide (1 ≤ (n : Int) ∧ (n : Int) ≤ 24)
/-- The error of EncodeLabels, and its bytes. -/
def encE (ls : List Lab) : Int := if lenL ls.length then (if ls.all vlab then 0 else 2) else 3
def encB (ls : List Lab) : List Nat := if encE ls = 0 then encL ls else []
def ELPost (ls : List Lab) (w : World) (e : Ending) (w' : World) : Prop := ∃ p c, e = .returned (.tuple #[.slice p (encB ls).length c, .int .i64 (encE ls)]) ∧ Own w' w.heap.size p c (encB ls) ∧ w.grownBy w' none
set_option maxRecDepth 100000 in
theorem el_err {ls : List Lab} {w w' : World} {x : Int} (h : encE ls = x) (hx : x ≠ 0) (g : w.grownBy w' none) : ELPost ls w (.returned (.tuple #[.slice none 0 0, .int .i64 x])) w' := by
  have hb : encB ls = [] := by unfold encB; rw [if_neg (by rw [h]; exact hx)]
  refine ⟨none, 0, by rw [hb, h]; rfl, ?_, g⟩
  rw [hb]
  exact ⟨World.ownsRow_nil _ _ _ _, fun _ => rfl, fun x hx => by cases hx⟩
/-- The words of a stack. -/
def partsL (ls : List Lab) : List (List Nat) := (List.range ls.length).map fun i => by4 (wordL (ls.getD i ⟨0, 0, 0⟩) (decide (i + 1 = ls.length)))
set_option maxRecDepth 100000 in
theorem partsL_at {ls : List Lab} {i : Nat} (h : i < ls.length) : (partsL ls)[i]? = some (by4 (wordL (ls.getD i ⟨0, 0, 0⟩) (decide (i + 1 = ls.length)))) := by
  unfold partsL
  rw [List.getElem?_map, List.getElem?_range h]; rfl
set_option maxRecDepth 100000 in
theorem partsL_len (ls : List Lab) : (partsL ls).length = ls.length := by unfold partsL; simp
set_option maxRecDepth 100000 in
theorem partsL_cons (l m : Lab) (r : List Lab) : partsL (l :: m :: r) = by4 (wordL l false) :: partsL (m :: r) := by
  apply List.ext_getElem?
  intro i
  rcases i with _ | i
  · rw [partsL_at (by simp)]; simp
  · by_cases h : i < (m :: r).length
    · rw [partsL_at (by simpa using h), List.getElem?_cons_succ, partsL_at h]; simp
    · rw [List.getElem?_eq_none (by rw [partsL_len]; simp at h ⊢; omega), List.getElem?_cons_succ, List.getElem?_eq_none (by rw [partsL_len]; simp at h ⊢; omega)]
set_option maxRecDepth 100000 in
theorem partsL_flat : ∀ ls : List Lab, (partsL ls).flatten = encL ls
  | [] => rfl
  | [l] => by
    show ([by4 (wordL l true)] : List (List Nat)).flatten = _
    simp [encL]
  | l :: m :: r => by
    rw [partsL_cons, List.flatten_cons, partsL_flat (m :: r)]
    rfl
set_option maxRecDepth 100000 in
theorem partsL_by (ls : List Lab) : ∀ L ∈ partsL ls, By L := by
  intro L hL
  unfold partsL at hL
  obtain ⟨i, _, rfl⟩ := List.mem_map.1 hL
  exact by4_by _
set_option maxRecDepth 100000 in
theorem info_sl : (Tryd.prog.info? 23).map (fun i => (i.zero, i.size, i.bytes)) = some (some (.slice none 0 0), 1, 24) := by kernel_rfl
/-- While the words are written: block g holds the slices of the first k. -/
structure PW (ls : List Lab) (W : World) (g k : Nat) (xs : List Value) (w : World) : Prop where
  row : Row w g 23 xs
  len : xs.length = ls.length
  done : ∀ i, i < k → ∃ h, xs[i]? = some (.slice (some ⟨h, 0, none⟩) 4 4) ∧ Row w h 5 ((by4 (wordL (ls.getD i ⟨0, 0, 0⟩) (decide (i + 1 = ls.length)))).map nv) ∧ h ≠ g
  rest : ∀ i, k ≤ i → i < ls.length → xs[i]? = some (.slice none 0 0)
  gr : W.grownBy w none
  gW : W.heap.size ≤ g
set_option maxRecDepth 100000 in
theorem PW.keep {ls : List Lab} {W w w' : World} {g k : Nat} {xs : List Value} (h : PW ls W g k xs w) (k1 : w.grownBy w' none) : PW ls W g k xs w' :=
  ⟨h.row.kept k1 (by simp), h.len, fun i hi => (by obtain ⟨b, h1, h2, h3⟩ := h.done i hi; exact ⟨b, h1, h2.kept k1 (by simp), h3⟩), h.rest, grown_trans h.gr k1, h.gW⟩
set_option maxRecDepth 100000 in
theorem PW.put {ls : List Lab} {W w : World} {g k b : Nat} {xs : List Value} (h : PW ls W g k xs w) (hk : k < ls.length) (hb : Row w b 5 ((by4 (wordL (ls.getD k ⟨0, 0, 0⟩) (decide (k + 1 = ls.length)))).map nv)) (hne : b ≠ g) :
    PW ls W g (k + 1) (xs.set k (.slice (some ⟨b, 0, none⟩) 4 4)) (w.setCell ⟨g, k, none⟩ (.slice (some ⟨b, 0, none⟩) 4 4)) := by
  have k1 : w.grownBy (w.setCell ⟨g, k, none⟩ (.slice (some ⟨b, 0, none⟩) 4 4)) (some g) := grown_setCell w ⟨g, k, none⟩ _
  have hl := h.len
  refine ⟨h.row.set k _, by rw [List.length_set, hl], fun i hi => ?_, fun i h1 h2 => ?_, grown_new h.gr k1 h.gW, h.gW⟩
  · by_cases e : i = k
    · subst e
      exact ⟨b, by rw [List.getElem?_set_self (by omega)], hb.kept k1 (by simpa using hne), hne⟩
    · obtain ⟨b2, h1, h2, h3⟩ := h.done i (by omega)
      exact ⟨b2, by rw [List.getElem?_set_ne (by omega)]; exact h1, h2.kept k1 (by simpa using h3), h3⟩
  · rw [List.getElem?_set_ne (by omega)]
    exact h.rest i (by omega) h2
set_option maxRecDepth 100000 in
theorem PW.rdb {ls : List Lab} {W w : World} {g : Nat} {xs : List Value} (h : PW ls W g ls.length xs w) : RdB w (fun _ => True) (some ⟨g, 0, none⟩) (partsL ls) := by
  intro _
  refine ⟨g, 0, rfl, fun i L hL => ?_⟩
  have hi : i < ls.length := by
    rw [← partsL_len]
    exact (List.getElem?_eq_some_iff.1 hL).1
  rw [partsL_at hi] at hL
  obtain rfl := Option.some.inj hL
  obtain ⟨b, h1, h2, h3⟩ := h.done i hi
  refine ⟨some ⟨b, 0, none⟩, 4, by rw [Nat.zero_add]; exact h.row.cell h1, ⟨some ⟨b, 0, none⟩, 4, rfl, fun _ => ⟨b, 0, rfl, trivial, fun j x hj => by rw [Nat.zero_add]; exact h2.cell hj⟩⟩, by exact nofun⟩
set_option maxRecDepth 100000 in
theorem all_not {ls : List Lab} {k : Nat} {l : Lab} (h : ls[k]? = some l) (hv : vlab l = false) : ls.all vlab = false := by
  rw [Bool.eq_false_iff]
  intro ha
  have := List.all_eq_true.1 ha l (List.mem_of_getElem? h)
  rw [hv] at this
  cases this
set_option maxRecDepth 100000 in
set_option maxHeartbeats 3200000 in
theorem sencl_any (ls : List Lab) (p : Option Addr) (c : Nat) (q : Nat → Prop) (w : World) (hR : RdL w q (.slice p ls.length c) ls) :
    Calls Tryd.prog 27 #[.slice p ls.length c] w fun e w' => ELPost ls w e w' := by
  have HR := Lib.hid hR
  clear hR
  obtain ⟨i0, hi, hz0, hz1, hz2⟩ := info_parts info_sl
  go_enter Tryd.func27, Tryd.ntmps27
  cases hn : lenL ls.length
  · have HN := Lib.hid hn
    have hd : decide (1 ≤ (ls.length : Int) ∧ (ls.length : Int) ≤ 24) = false := hn
    clear hn
    go_wp2_with (go_at_call 73; refine (swithin_any _ _ _ _).mono ?_; rw [hd]; rintro e w' ⟨rfl, rfl⟩)
    go_ret2
    exact el_err (by unfold encE; rw [HN.out]; rfl) (by decide) (grown_refl _ _)
  · have HN := Lib.hid hn
    have hd : decide (1 ≤ (ls.length : Int) ∧ (ls.length : Int) ≤ 24) = true := hn
    have hd2 := of_decide_eq_true hd
    have h24 : ls.length ≤ 24 := by omega
    have h1 : 1 ≤ ls.length := by omega
    clear hn hd2
    go_wp2_with (first
      | (go_at_call 73; refine (swithin_any _ _ _ _).mono ?_; rw [hd]; rintro e w' ⟨rfl, rfl⟩)
      | (at_make; refine wpList_make_k _ rfl _ _ 35 rfl 23 i0 _ Tryd.underlying35 hi hz0 ls.length rfl rfl (by omega) (by omega) ?_; rw [hz1, made_same _ (.slice none 0 0) (by intro i hi; have : i = 0 := by { simp [Value.cells] at hi; omega }; subst this; rfl) (by simp [Value.cells]) _, Nat.mul_one]))
    obtain ⟨k1, k2⟩ := sone_box w' (Array.replicate ls.length (.slice none 0 0)) 23
    have P0 : Hid (PW ls w' w'.heap.size 0 (List.replicate ls.length (.slice none 0 0)) (w'.alloc (.cells (Array.replicate ls.length (.slice none 0 0)) 23))) :=
      Lib.hid ⟨by unfold Row; rw [List.toArray_replicate]; exact k1, by simp, fun i hi => absurd hi (Nat.not_lt_zero _), fun i _ hi => by rw [List.getElem?_replicate, if_pos hi], k2, Nat.le_refl _⟩
    clear k1 k2 hd
    generalize w'.alloc _ = wa at *
    go_loopw [16] (fun a wr => ∃ k xs, k ≤ ls.length ∧ a = .int .i64 ((k : Nat) : Int) ∧ PW ls w' w'.heap.size k xs wr ∧ ∀ x ∈ ls.take k, vlab x = true) (fun a _ => ls.length - (intOf a).toNat)
    case atStart => exact ⟨0, _, Nat.zero_le _, rfl, P0.out, fun x hx => by simp at hx⟩
    case round =>
      obtain ⟨k, xs, hk, rfl, hP, hV⟩ := hrel
      have HP := Lib.hid hP
      have HV := Lib.hid hV
      clear hP hV P0
      by_cases hlt : k < ls.length
      · obtain ⟨-, b, off, rfl, hq, hc⟩ := (HR.out.keep HP.out.gr).cells (by omega)
        obtain ⟨c0, c1, c2⟩ := hc k hlt
        obtain ⟨l, hl⟩ : ∃ l, ls[k] = l := ⟨_, rfl⟩
        rw [hl] at c0 c1 c2
        have HL : Hid (ls[k]? = some l) := Lib.hid (by rw [← hl]; exact List.getElem?_eq_getElem hlt)
        clear hc hl
        go_wp2_with fail
        obtain ⟨k1, k2⟩ := sone_box wr #[.int .i64 l.v, .int .i64 l.c, .int .i64 l.h] 41
        refine (slab_any l _).mono ?_
        rintro e w1 ⟨rfl, hg⟩
        have HP1 := Lib.hid (HP.out.keep (grown_trans k2 hg))
        obtain ⟨d0, d1, d2⟩ := lab_facts (kept_row k1 hg (by simp))
        clear k1 k2 hg HP c0 c1 c2
        cases hv : vlab l
        · go_wp2_with fail
          go_ret2
          exact el_err (by unfold encE; rw [HN.out, all_not HL.out hv]; rfl) (by decide) HP1.out.gr
        · obtain ⟨z, hz⟩ : ∃ z, decide (k + 1 = ls.length) = z := ⟨_, rfl⟩
          have hz1 : ((k : Int) == (ls.length : Int) - 1) = z := by
            rw [← hz, Bool.eq_iff_iff, beq_iff_eq, decide_eq_true_eq]
            omega
          have HZ := Lib.hid hz
          have HVL := Lib.hid hv
          clear hz hv
          go_wp2_with fail
          refine (wlab_any l z HVL.out _).mono ?_
          rintro e w2 ⟨h, rfl, hrow, hge, hg⟩
          have hl3 : ls.getD k ⟨0, 0, 0⟩ = l := by rw [List.getD_eq_getElem?_getD, HL.out]; rfl
          have hP2 := HP1.out.keep hg
          have hne : h ≠ w'.heap.size := by have := HP1.out.row.lt; omega
          have HP3 := Lib.hid (hP2.put (b := h) hlt (by rw [hl3, HZ.out]; exact hrow) hne)
          have e0 := hP2.row.cell (hP2.rest k (Nat.le_refl _) hlt)
          have f0 := hP2.row.frozen k
          clear hrow hge hg hP2 hne hl3 HP1 d0 d1 d2
          go_wp2_with fail
          refine ⟨⟨k + 1, _, by omega, congrArg _ (by omega), HP3.out, fun x hx => ?_⟩, by simp only [intOf]; omega⟩
          rw [List.take_add_one, HL.out] at hx
          rcases List.mem_append.1 hx with hx | hx
          · exact HV.out x hx
          · obtain rfl : x = l := by simpa using hx
            exact HVL.out
      · obtain rfl : k = ls.length := by omega
        have RB := Lib.hid HP.out.rdb
        go_wp2_with fail
        refine (sjoin_any (partsL ls) (partsL_by ls) (by rw [partsL_flat, encL_len]; omega) _ _ _ (partsL_len ls).symm (by rw [partsL_len]; omega) _ _ RB.out).mono ?_
        rw [partsL_flat]
        rintro e w2 ⟨p2, c2, rfl, hO, hg⟩
        have HF := Lib.hid (And.intro hO hg)
        clear hO hg
        go_wp2_with fail
        go_ret2
        have he : encE ls = 0 := by
          unfold encE
          have := HV.out
          rw [List.take_length] at this
          rw [HN.out, List.all_eq_true.2 this]; rfl
        have hb : encB ls = encL ls := by unfold encB; rw [if_pos he]
        refine ⟨p2, c2, by rw [hb, he]; rfl, by rw [hb]; exact HF.out.1.mono HP.out.gr.size, grown_trans HP.out.gr HF.out.2⟩
end Go.Proofs.YtpombmpkccnefaaDoor

/- packet: Size and Plane. -/
namespace Go.Proofs.YtpombmpkccnefaaDoor
open Go.RowKit Bs
def sizeV (P : Pk) : Nat := if vpk P = true then (49 + P.len.toNat + 8 * P.pay.size + 16 + 7) / 8 else 0
def planeV (P : Pk) : Int := if vpk P = true then P.ent % 8 else 0
set_option maxRecDepth 100000 in
theorem vpk_len {P : Pk} (h : vpk P = true) : P.len = ((P.len.toNat : Nat) : Int) ∧ P.len.toNat ≤ 64 := by
  rcases vl_cases (vb_vl (vpk_parts h).2.2.2.2.2.2.2.2) with h | h | h | h <;> rw [h] <;> decide
set_option maxRecDepth 100000 in
set_option maxHeartbeats 3200000 in
theorem psize_any (P : Pk) (hP : P.Wf) (w : World) :
    Calls Tryd.prog 70 #[P.val] w fun e w' => e = .returned (.int .i64 ((sizeV P : Nat) : Int)) ∧ w.grownBy w' none := by
  have hval : P.val = .agg #[.int .i64 P.mode, .int .i64 P.sub, .int .i64 P.set, .int .i64 P.len, .int .i64 P.ttl, .int .i64 P.ent, .int .i64 P.ing, .int .i64 P.pro, .int .u64 (P.bits : Int), .string P.pay] := rfl
  rw [hval]
  go_enter Tryd.func70, Tryd.ntmps70
  go_wp2_with fail
  obtain ⟨k1, k2⟩ := one_box w (pcells P) 31
  have HP := Lib.hid (And.intro k1 k2)
  clear k1 k2
  unfold pcells at HP
  generalize w.alloc _ = wa at *
  change Hid (wa.heap[w.heap.size]? = some (.cells (pcells P) 31 (0, 0)) ∧ w.grownBy wa none) at HP
  rw [← hval]
  refine (pvalid_any P hP _).mono ?_
  rintro e w1 ⟨rfl, hg⟩
  have HQ := Lib.hid (And.intro (kept_row HP.out.1 hg (by simp)) (grown_trans HP.out.2 hg))
  clear hg HP
  by_cases hv : vpk P = true
  · have hE : Hid (sizeV P = (49 + P.len.toNat + 8 * P.pay.size + 16 + 7) / 8) := Lib.hid (by unfold sizeV; rw [if_pos hv])
    obtain ⟨hn, hn2⟩ := vpk_len hv
    have hp := (vpk_parts hv).2.2.2.2.2.2.2.1
    have HN := Lib.hid hn
    rw [hv]
    clear hv hn
    obtain ⟨_, _, _, a3, _, _, _, _, _, a9⟩ := p_facts HQ.out.1
    go_wp2_with fail
    rw [HN.out]
    refine (bytesForP_any P.len.toNat P.pay.size (by omega) (by omega) _).mono ?_
    rintro e w' ⟨rfl, rfl⟩
    rw [← hE.out]
    go_wp2_with fail
    go_ret
    exact ⟨rfl, HQ.out.2⟩
  · have hf : vpk P = false := by simpa using hv
    have hE : Hid (sizeV P = 0) := Lib.hid (by unfold sizeV; rw [if_neg hv])
    rw [hf]
    clear hf hv
    go_wp2_with fail
    go_ret
    exact ⟨by rw [hE.out]; rfl, HQ.out.2⟩
end Go.Proofs.YtpombmpkccnefaaDoor

/- stack: EncodeFrame. -/
namespace Go.Proofs.YtpombmpkccnefaaDoor
open Go.RowKit Bs
set_option maxRecDepth 100000 in
theorem rdb_row {w : World} {b : Nat} {t : TypeId} {vs : List Value} {Ls : List (List Nat)} (h : Row w b t vs) (hx : ∀ (i : Nat) (L : List Nat), Ls[i]? = some L → ∃ (p : Option Addr) (c : Nat), vs[i]? = some (Value.slice p L.length c) ∧ Rd w (fun _ => True) (.slice p L.length c) (L.map nv) ∧ (p = none → c = 0)) : RdB w (fun _ => True) (some ⟨b, 0, none⟩) Ls := by
  intro _
  refine ⟨b, 0, rfl, fun i L hL => ?_⟩
  obtain ⟨p, c, h1, h2, h3⟩ := hx i L hL
  exact ⟨p, c, by rw [Nat.zero_add]; exact h.cell h1, h2, h3⟩
set_option maxRecDepth 100000 in
theorem rdb2 {w : World} {x g : Nat} {E : List Nat} (h : Blk w g E) :
    RdB ((w.alloc (.cells #[.int .u8 (x : Int)] 5)).alloc (.cells #[.slice (some ⟨w.heap.size, 0, none⟩) 1 1, .slice (some ⟨g, 0, none⟩) E.length E.length] 23)) (fun _ => True) (some ⟨w.heap.size + 1, 0, none⟩) [[x], E] := by
  obtain ⟨k1, k2, k3, _⟩ := two_boxes w #[.int .u8 (x : Int)] #[.slice (some ⟨w.heap.size, 0, none⟩) 1 1, .slice (some ⟨g, 0, none⟩) E.length E.length] 5 23
  refine rdb_row (vs := [.slice (some ⟨w.heap.size, 0, none⟩) 1 1, .slice (some ⟨g, 0, none⟩) E.length E.length]) k2 fun i L hL => ?_
  rcases i with _ | _ | i
  · obtain rfl : [x] = L := by simpa using hL
    exact ⟨_, _, rfl, Blk.rd (l := [x]) k1 _ trivial 1, by exact nofun⟩
  · obtain rfl : E = L := by simpa using hL
    exact ⟨_, _, rfl, (h.keep k3).rd _ trivial _, by exact nofun⟩
  · simp at hL
set_option maxRecDepth 100000 in
theorem rdb3 {w : World} {x g c1 : Nat} {p1 : Option Addr} {D E : List Nat} (h1 : Rd w (fun _ => True) (.slice p1 D.length c1) (D.map nv)) (hp : p1 = none → c1 = 0) (h : Blk w g E) :
    RdB ((w.alloc (.cells #[.int .u8 (x : Int)] 5)).alloc (.cells #[.slice (some ⟨w.heap.size, 0, none⟩) 1 1, .slice p1 D.length c1, .slice (some ⟨g, 0, none⟩) E.length E.length] 23)) (fun _ => True) (some ⟨w.heap.size + 1, 0, none⟩) [[x], D, E] := by
  obtain ⟨k1, k2, k3, _⟩ := two_boxes w #[.int .u8 (x : Int)] #[.slice (some ⟨w.heap.size, 0, none⟩) 1 1, .slice p1 D.length c1, .slice (some ⟨g, 0, none⟩) E.length E.length] 5 23
  refine rdb_row (vs := [.slice (some ⟨w.heap.size, 0, none⟩) 1 1, .slice p1 D.length c1, .slice (some ⟨g, 0, none⟩) E.length E.length]) k2 fun i L hL => ?_
  rcases i with _ | _ | _ | i
  · obtain rfl : [x] = L := by simpa using hL
    exact ⟨_, _, rfl, Blk.rd (l := [x]) k1 _ trivial 1, by exact nofun⟩
  · obtain rfl : D = L := by simpa using hL
    exact ⟨_, _, rfl, h1.keep k3, hp⟩
  · obtain rfl : E = L := by simpa using hL
    exact ⟨_, _, rfl, (h.keep k3).rd _ trivial _, by exact nofun⟩
  · simp at hL
set_option maxRecDepth 100000 in
theorem by_one {x : Nat} (h : x < 256) : By [x] := fun y hy => by
  obtain rfl : y = x := by simpa using hy
  exact h
set_option maxRecDepth 100000 in
theorem by2 {x : Nat} {E : List Nat} (h : x < 256) (hE : By E) : ∀ L ∈ ([[x], E] : List (List Nat)), By L := by
  intro L hL
  rcases List.mem_cons.1 hL with rfl | hL
  · exact by_one h
  · obtain rfl : L = E := by simpa using hL
    exact hE
set_option maxRecDepth 100000 in
theorem by3 {x : Nat} {D E : List Nat} (h : x < 256) (hD : By D) (hE : By E) : ∀ L ∈ ([[x], D, E] : List (List Nat)), By L := by
  intro L hL
  rcases List.mem_cons.1 hL with rfl | hL
  · exact by_one h
  rcases List.mem_cons.1 hL with rfl | hL
  · exact hD
  · obtain rfl : L = E := by simpa using hL
    exact hE
set_option maxRecDepth 100000 in
theorem two_grown (w : World) (A Z : Array Value) (t u : TypeId) : w.grownBy ((w.alloc (.cells A t)).alloc (.cells Z u)) none := (two_boxes w A Z t u).2.2.1
set_option maxRecDepth 100000 in
theorem encF_nil {r : List Int} {P : Pk} (h : r.length = 0) : ([[0], enc P] : List (List Nat)).flatten = encF r P := by
  unfold encF
  rw [if_pos (List.eq_nil_of_length_eq_zero h)]
  simp
set_option maxRecDepth 100000 in
theorem encF_some {r : List Int} {P : Pk} (h : ¬ r.length = 0) : ([[1], encL (r.map lbR), enc P] : List (List Nat)).flatten = encF r P := by
  unfold encF
  rw [if_neg (fun e => h (by rw [e]; rfl))]
  simp
def EFPost (r : List Int) (P : Pk) (w : World) (e : Ending) (w' : World) : Prop :=
  (vfr r P = true ∧ ∃ p c, e = .returned (.tuple #[.slice p (encF r P).length c, .int .i64 0]) ∧ Own w' w.heap.size p c (encF r P) ∧ w.grownBy w' none) ∨
  (vfr r P = false ∧ e = .returned (.tuple #[.slice none 0 0, .int .i64 1]) ∧ w.grownBy w' none)
set_option maxRecDepth 100000 in
theorem vfr_parts {r : List Int} {P : Pk} (h : vfr r P = true) : r.length ≤ 24 ∧ allR r = true ∧ rep r = false ∧ vpk P = true := by
  unfold vfr at h
  simp only [Bool.and_eq_true, decide_eq_true_eq, Bool.not_eq_true'] at h
  exact ⟨h.1, h.2.1, h.2.2.1, h.2.2.2⟩
set_option maxRecDepth 100000 in
theorem enc_small {P : Pk} (h : vpk P = true) : (enc P).length ≤ 100 := by
  obtain ⟨_, hn⟩ := vpk_len h
  have hp := (vpk_parts h).2.2.2.2.2.2.2.1
  rw [enc_len]
  omega
set_option maxRecDepth 100000 in
theorem encL_route {r : List Int} (hr : allR r = true) (h1 : 1 ≤ r.length) (h24 : r.length ≤ 24) : encE (r.map lbR) = 0 ∧ encB (r.map lbR) = encL (r.map lbR) := by
  have he : encE (r.map lbR) = 0 := by
    unfold encE lenL
    rw [if_pos (by rw [List.length_map, decide_eq_true_eq]; omega), if_pos]
    rw [List.all_eq_true]
    intro x hx
    obtain ⟨z, hz, rfl⟩ := List.mem_map.1 hx
    exact lbR_v (List.all_eq_true.1 hr z hz)
  exact ⟨he, by unfold encB; rw [if_pos he]⟩
set_option maxRecDepth 100000 in
set_option maxHeartbeats 3200000 in
theorem sencf_any (r : List Int) (P : Pk) (hP : P.Wf) (p : Option Addr) (c : Nat) (hc0 : r.length ≤ c) (hcm : c ≤ 9223372036854775807) (q : Nat → Prop) (w : World) (hT : Tb w) (hR : Rd w q (.slice p r.length c) (r.map iv)) :
    Calls Tryd.prog 32 #[fval (.slice p r.length c) P] w fun e w' => EFPost r P w e w' := by
  have hfv : fval (.slice p r.length c) P = .agg #[.slice p r.length c, .int .i64 P.mode, .int .i64 P.sub, .int .i64 P.set, .int .i64 P.len, .int .i64 P.ttl, .int .i64 P.ent, .int .i64 P.ing, .int .i64 P.pro, .int .u64 (P.bits : Int), .string P.pay] := rfl
  rw [hfv]
  obtain ⟨k1, k2⟩ := sone_box w (frcells (.slice p r.length c) P) 43
  have HB := Lib.hid (And.intro k1 k2)
  obtain ⟨c0, c1, c2, c3, c4, c5, c6, c7, c8, c9, c10⟩ := fr_facts k1
  have HR := Lib.hid (hR.keep k2)
  have HTT := Lib.hid (hT.keep k2)
  have HFV := Lib.hid hfv
  have hval : P.val = .agg #[.int .i64 P.mode, .int .i64 P.sub, .int .i64 P.set, .int .i64 P.len, .int .i64 P.ttl, .int .i64 P.ent, .int .i64 P.ing, .int .i64 P.pro, .int .u64 (P.bits : Int), .string P.pay] := rfl
  have HV := Lib.hid hval
  have HC := Lib.hid (And.intro hc0 hcm)
  clear hR hT hfv hval hc0 hcm k1 k2
  go_enter Tryd.func32, Tryd.ntmps32
  go_upto_region 1 with fail
  have HB2 : Hid ((w.alloc (.cells #[.slice p r.length c, .int .i64 P.mode, .int .i64 P.sub, .int .i64 P.set, .int .i64 P.len, .int .i64 P.ttl, .int .i64 P.ent, .int .i64 P.ing, .int .i64 P.pro, .int .u64 (P.bits : Int), .string P.pay] 43)).heap[w.heap.size]? = some (.cells (frcells (.slice p r.length c) P) 43 (0, 0)) ∧ w.grownBy (w.alloc (.cells #[.slice p r.length c, .int .i64 P.mode, .int .i64 P.sub, .int .i64 P.set, .int .i64 P.len, .int .i64 P.ttl, .int .i64 P.ent, .int .i64 P.ing, .int .i64 P.pro, .int .u64 (P.bits : Int), .string P.pay] 43)) none) := HB
  clear HB
  unfold frcells at HR HTT c0 c1 c2 c3 c4 c5 c6 c7 c8 c9 c10
  generalize w.alloc _ = wa at *
  go_wp2_with fail
  rw [← HFV.out]
  refine (svfr_any r P hP p c HC.out.1 HC.out.2 q wa HR.out).mono ?_
  rintro e w1 ⟨rfl, hg⟩
  have HB1 := Lib.hid (And.intro (kept_row HB2.out.1 hg (by simp)) (grown_trans HB2.out.2 hg))
  have HR1 := Lib.hid (HR.out.keep hg)
  have HT1 := Lib.hid (HTT.out.keep hg)
  clear hg HB2 HR HTT c0 c1 c2 c3 c4 c5 c6 c7 c8 c9 c10
  cases hv : vfr r P
  · go_wp2_with fail
    go_ret2
    exact Or.inr ⟨hv, rfl, HB1.out.2⟩
  · obtain ⟨hr24, hra, hrr, hvp⟩ := vfr_parts hv
    obtain ⟨c0, c1, c2, c3, c4, c5, c6, c7, c8, c9, c10⟩ := fr_facts HB1.out.1
    have HVF := Lib.hid (And.intro hv (And.intro hra (And.intro hvp (enc_small hvp))))
    clear hv hra hrr hvp
    go_wp2_with fail
    rw [← HV.out]
    refine (pencode_any P hP w1 HT1.out).mono ?_
    intro e w2 hE
    rcases hE with ⟨-, g, rfl, hB, hge, hg⟩ | ⟨hbad, _⟩
    · have HB3 := Lib.hid (And.intro (kept_row HB1.out.1 hg (by simp)) (grown_trans HB1.out.2 hg))
      have HR3 := Lib.hid (HR1.out.keep hg)
      have HE := Lib.hid hB
      clear hg HB1 HR1 HT1 hB c0 c1 c2 c3 c4 c5 c6 c7 c8 c9 c10
      obtain ⟨c0, c1, c2, c3, c4, c5, c6, c7, c8, c9, c10⟩ := fr_facts HB3.out.1
      clear c1 c2 c3 c4 c5 c6 c7 c8 c9 c10
      by_cases hr0 : r.length = 0
      · go_wp2_with fail
        have RB := rdb2 (x := 0) HE.out
        refine (sjoin_any [[0], enc P] (by2 (by decide) (pk_by _)) (by have := HVF.out.2.2.2; simp; omega) _ 2 2 rfl (by simp) _ _ RB).mono ?_
        clear RB
        rw [encF_nil hr0]
        rintro e w3 ⟨p2, c2, rfl, hO, hg3⟩
        have HF := Lib.hid (And.intro hO (grown_trans (two_grown _ _ _ _ _) hg3))
        clear hO hg3
        go_wp2_with fail
        go_ret2
        have G2 := grown_trans HB3.out.2 HF.out.2
        exact Or.inl ⟨HVF.out.1, p2, c2, rfl, HF.out.1.mono (Nat.le_trans HB3.out.2.size (by simp; omega)), G2⟩
      · go_wp2_with fail
        refine (slabs_any r HVF.out.2.1 p c hr24 q w2 HR3.out).mono ?_
        rintro e w3 ⟨g3, rfl, hrow, hge3, hg3⟩
        have hlen : (r.map lbR).length = r.length := List.length_map _
        have hL : RdL w3 (· = g3) (.slice (some ⟨g3, 0, none⟩) (r.map lbR).length r.length) (r.map lbR) := hrow.rd _ _
        have C := sencl_any (r.map lbR) _ _ _ w3 hL
        rw [hlen] at C
        have HB4 := Lib.hid (grown_trans HB3.out.2 hg3)
        have HE4 := Lib.hid (HE.out.keep hg3)
        obtain ⟨q1, q2⟩ := encL_route HVF.out.2.1 (by omega) hr24
        have HQ := Lib.hid (And.intro q1 q2)
        clear hrow hL hg3 hlen q1 q2 HR3 c0
        go_wp2_with fail
        refine C.mono ?_
        clear C
        rintro e w4 ⟨p2, c2, rfl, hO, hg4⟩
        rw [HQ.out.1, HQ.out.2]
        rw [HQ.out.2] at hO
        obtain ⟨D, hD⟩ : ∃ D, encL (r.map lbR) = D := ⟨_, rfl⟩
        rw [hD] at hO ⊢
        have HD := Lib.hid hD
        have HF := Lib.hid (And.intro hO (And.intro (grown_trans HB4.out hg4) (HE4.out.keep hg4)))
        clear hO hg4 HE4 HB4 hD
        go_wp2_with fail
        have RB := rdb3 (x := 1) (HF.out.1.rd.mono fun _ _ => trivial) HF.out.1.pc HF.out.2.2
        refine (sjoin_any [[1], D, enc P] (by3 (by decide) HF.out.1.by_ (pk_by _)) (by have := HVF.out.2.2.2; have hl := encL_len (r.map lbR); rw [HD.out, List.length_map] at hl; simp; omega) _ 3 3 rfl (by simp) _ _ RB).mono ?_
        clear RB
        rw [← HD.out, encF_some hr0]
        rintro e w5 ⟨p3, c3, rfl, hO, hg5⟩
        have HF2 := Lib.hid (And.intro hO (grown_trans (two_grown _ _ _ _ _) hg5))
        clear hO hg5
        go_wp2_with fail
        go_ret2
        exact Or.inl ⟨HVF.out.1, p3, c3, rfl, HF2.out.1.mono (Nat.le_trans HF.out.2.1.size (by simp; omega)), grown_trans HF.out.2.1 HF2.out.2⟩
    · rw [HVF.out.2.2.1] at hbad; cases hbad
end Go.Proofs.YtpombmpkccnefaaDoor

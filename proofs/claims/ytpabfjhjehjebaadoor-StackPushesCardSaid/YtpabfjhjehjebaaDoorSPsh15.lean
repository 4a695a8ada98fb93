/- Parts of the proof, packed: StTFrame, PkDecR, PkDecR1. -/
import Derived.Test.YtpabfjhjehjebaaDoorSPsh14
import Derived.Test.YtpabfjhjehjebaaDoorSPsh13
import Derived.Test.YtpabfjhjehjebaaDoorSPsh12
import Derived.Test.YtpabfjhjehjebaaDoorSPsh8
/- The tape's frames. -/
namespace Go.Proofs.YtpabfjhjehjebaaDoor
open Go.RowKit Bs
/-- While a frame is made: its block B, the result's block, the route in a row of the call's own. -/
structure FK (a : Nat) (W : World) (B base : Nat) (v : Value) (r : List Int) (P : Pk) (w : World) : Prop where
  fb : w.heap[B]? = some (.cells (frcells v P) 33 (0, 0))
  rb : Row w W.heap.size 33 zfr.toList
  own : w.ownsRow base 3 1 v r.length (r.map iv)
  st : St a W w
  wf : P.Wf
  sz : base ≤ w.heap.size
section
variable {a B base : Nat} {W w w1 : World} {v v' : Value} {r : List Int} {P P' : Pk}
theorem owni_other {xs : List Value} {n : Nat} (h : w.ownsRow base 3 1 v n xs) {b : Nat} (g : w.grownBy w1 (some b)) (hb : b < base) : w1.ownsRow base 3 1 v n xs :=
  h.kept g (by
    cases hv : v.ownBlock with
    | none => exact .inl rfl
    | some k => exact .inr (fun e => by have e2 := Option.some.inj e; have := (h.lt k hv).1; omega))
theorem FK.tape (h : FK a W B base v r P w) (ha : a < W.heap.size) (hB : W.heap.size < B) (hb : B < base) (k : St a w w1) : FK a W B base v r P w1 :=
  ⟨kept_row h.fb k.1 (fun e => by have := Option.some.inj e; omega), h.rb.kept k.1 (fun e => by have := Option.some.inj e; omega), owni_other h.own k.1 (by omega), h.st.trans k, h.wf, Nat.le_trans h.sz k.1.size⟩
theorem FK.mid (h : FK a W B base v r P w) (ha : a < W.heap.size) (hB : W.heap.size < B) (hb : B < base) {o : Obj} {x : Int} (hown : w1.ownsRow base 3 1 v' (r.length + 1) (r.map iv ++ [.int .i64 x])) (hg : (w.alloc o).grownBy w1 v.ownBlock) :
    w1.heap[B]? = some (.cells (frcells v P) 33 (0, 0)) ∧ Row w1 W.heap.size 33 zfr.toList ∧ w1.ownsRow base 3 1 v' (r ++ [x]).length ((r ++ [x]).map iv) ∧ St a W w1 ∧ base ≤ w1.heap.size := by
  have hne : ∀ k, k < base → some k ≠ v.ownBlock := fun k hk e => by
    have := (h.own.lt k e.symm).1
    omega
  have k0 := World.grownBy_alloc w o none
  refine ⟨kept_row (kept_row h.fb k0 (by simp)) hg (hne B hb), (h.rb.kept k0 (by simp)).kept hg (hne _ (by omega)), ?_, ?_, Nat.le_trans h.sz (Nat.le_trans k0.size hg.size)⟩
  · rw [List.length_append, List.map_append]; exact hown
  · have h1 : St a W (w.alloc o) := h.st.trans ⟨World.grownBy_alloc w o _, h.st.2.alloc o⟩
    cases hbk : v.ownBlock with
    | none => rw [hbk] at hg; exact ⟨grown_trans h1.1 (grown_none hg _), h1.2.keep hg⟩
    | some g =>
      rw [hbk] at hg
      have := (h.own.lt g hbk).1
      exact h1.store hg (by omega) ha
theorem FK.put (ha : a < W.heap.size) (hB : W.heap.size < B) (hb : B < base) {x : Int} (wf : P.Wf) (hm : w1.heap[B]? = some (.cells (frcells v P) 33 (0, 0)) ∧ Row w1 W.heap.size 33 zfr.toList ∧ w1.ownsRow base 3 1 v' (r ++ [x]).length ((r ++ [x]).map iv) ∧ St a W w1 ∧ base ≤ w1.heap.size) :
    FK a W B base v' (r ++ [x]) P (w1.setCell ⟨B, 0, none⟩ v') := by
  obtain ⟨h1, h2, h3, h4, h5⟩ := hm
  have k1 := grown_setCell w1 ⟨B, 0, none⟩ v'
  refine ⟨?_, h2.kept k1 (fun e => by have : W.heap.size = B := Option.some.inj e; omega), owni_other h3 k1 hb, h4.store (b := B) k1 (by omega) ha, wf, Nat.le_trans h5 k1.size⟩
  exact heap_setCell_same w1 B 0 _ _ v' h1
end
/-- A packet is stored into a frame. -/
def pput (w : World) (h : Nat) (v0 v1 v2 v3 v4 v5 v6 v7 v8 v9 : Value) : World :=
  ((((((((((w.setCell ⟨h, 1, none⟩ v0).setCell ⟨h, 2, none⟩ v1).setCell ⟨h, 3, none⟩ v2).setCell ⟨h, 4, none⟩ v3).setCell ⟨h, 5, none⟩ v4).setCell ⟨h, 6, none⟩ v5).setCell ⟨h, 7, none⟩ v6).setCell ⟨h, 8, none⟩ v7).setCell ⟨h, 9, none⟩ v8).setCell ⟨h, 10, none⟩ v9)
set_option maxRecDepth 100000 in
theorem FK.pkt {a B base : Nat} {W w : World} {v : Value} {r : List Int} {P P' : Pk} (h : FK a W B base v r P w) (ha : a < W.heap.size) (hB : W.heap.size < B) (hb : B < base) (wf : P'.Wf) :
    FK a W B base v r P' (pput w B (.int .i64 P'.mode) (.int .i64 P'.sub) (.int .i64 P'.set) (.int .i64 P'.len) (.int .i64 P'.ttl) (.int .i64 P'.ent) (.int .i64 P'.ing) (.int .i64 P'.pro) (.int .u64 (P'.bits : Int)) (.string P'.pay)) := by
  have S : ∀ (u : World) (j : Nat) (x : Value), u.grownBy (u.setCell ⟨B, j, none⟩ x) (some B) := fun u j x => grown_setCell u ⟨B, j, none⟩ x
  have k1 : w.grownBy (pput w B (.int .i64 P'.mode) (.int .i64 P'.sub) (.int .i64 P'.set) (.int .i64 P'.len) (.int .i64 P'.ttl) (.int .i64 P'.ent) (.int .i64 P'.ing) (.int .i64 P'.pro) (.int .u64 (P'.bits : Int)) (.string P'.pay)) (some B) := by
    unfold pput
    exact grown_trans (grown_trans (grown_trans (grown_trans (grown_trans (grown_trans (grown_trans (grown_trans (grown_trans (S _ _ _) (S _ _ _)) (S _ _ _)) (S _ _ _)) (S _ _ _)) (S _ _ _)) (S _ _ _)) (S _ _ _)) (S _ _ _)) (S _ _ _)
  have hr : Row w B 33 (frcells v P).toList := h.fb
  have hrow := ((((((((((hr.set 1 (.int .i64 P'.mode)).set 2 (.int .i64 P'.sub)).set 3 (.int .i64 P'.set)).set 4 (.int .i64 P'.len)).set 5 (.int .i64 P'.ttl)).set 6 (.int .i64 P'.ent)).set 7 (.int .i64 P'.ing)).set 8 (.int .i64 P'.pro)).set 9 (.int .u64 (P'.bits : Int))).set 10 (.string P'.pay))
  exact ⟨hrow, h.rb.kept k1 (fun e => by have : W.heap.size = B := Option.some.inj e; omega), owni_other h.own k1 hb, h.st.store (b := B) k1 (by omega) ha, wf, Nat.le_trans h.sz k1.size⟩
set_option maxRecDepth 100000 in
theorem owni_facts {w : World} {base : Nat} {v : Value} {n : Nat} {xs : List Value} (h : w.ownsRow base 3 1 v n xs) : ∃ (p : Option Addr) (c : Nat), v = .slice p n c ∧ n ≤ c ∧ c ≤ 9223372036854775807 ∧ (p = none → c = 0) := by
  rcases Joins.ownsRow_forms h with ⟨e, e0⟩ | ⟨g, cap, e⟩
  · subst e0
    exact ⟨none, 0, e, by omega, by omega, fun _ => rfl⟩
  · subst e
    have := own_cap h
    exact ⟨_, cap, rfl, this.1, this.2, fun e => by cases e⟩
set_option maxRecDepth 100000 in
theorem frame1_size : (Tryd.prog.info? 33).map (·.size) = some 11 := by kernel_rfl
set_option maxRecDepth 100000 in
theorem res_frame1 {fn : Func} {p : Tmp} (h : fn.results = #[.cell p 33]) (tmps : Array Value) (w : World) (g : Nat) (xs : Array Value) (hp : tmps.getD p undef = .pointer (some ⟨g, 0, none⟩)) (hn : xs.size = 11) (hg : w.heap[g]? = some (.cells xs 33 (0, 0))) :
    (results fn tmps).run Tryd.prog w = .ok (.agg xs) w := by
  exact results_cell_row h tmps w g _ _ _ _ hp hg Tryd.underlying33 rfl (by rw [hn]; exact frame1_size)
/-- What the tape's Frame returns. -/
def TFPost (a : Nat) (w : World) (e : Ending) (w' : World) : Prop :=
  ∃ (r : List Int) (P : Pk) (p : Option Addr) (c : Nat), e = .returned (fval (.slice p r.length c) P) ∧ P.Wf ∧ r.length ≤ 40 ∧ r.length ≤ c ∧ c ≤ 9223372036854775807 ∧ Rd w' (w.heap.size < ·) (.slice p r.length c) (r.map iv) ∧ (p = none → c = 0) ∧ St a w w'
set_option maxRecDepth 100000 in
set_option maxHeartbeats 6400000 in
theorem frame_any (a : Nat) (n : Int) (hn : I64 n) (w : World) (hT : Tp w a) :
    Calls Tryd.prog 7 #[.pointer (some ⟨a, 0, none⟩), .int .i64 n] w fun e w' => TFPost a w e w' := by
  obtain ⟨i0, hi0, hz0, hz1, hz2⟩ := info_parts info_int
  have ha := hT.lt
  obtain ⟨k1, k2⟩ := sone_box w zfr 33
  have HS : Hid (St a w (w.alloc (.cells zfr 33))) := Lib.hid ⟨grown_none k2 _, hT.keep k2⟩
  have HB : Hid (Row (w.alloc (.cells zfr 33)) w.heap.size 33 zfr.toList) := Lib.hid k1
  have HZ := Lib.hid (show zfr = #[.slice none 0 0, .int .i64 0, .int .i64 0, .int .i64 0, .int .i64 0, .int .i64 0, .int .i64 0, .int .i64 0, .int .i64 0, .int .u64 0, .string ⟨#[]⟩] from rfl)
  have HW := Lib.hid (show w.heap.size < (w.alloc (.cells zfr 33)).heap.size by simp)
  rw [HZ.out] at HS HW
  rw [show (w.alloc (.cells zfr 33)) = (w.alloc (.cells #[.slice none 0 0, .int .i64 0, .int .i64 0, .int .i64 0, .int .i64 0, .int .i64 0, .int .i64 0, .int .i64 0, .int .i64 0, .int .u64 0, .string ⟨#[]⟩] 33)) from rfl] at HB
  clear k1 k2 hT
  go_enter Tryd.func7, Tryd.ntmps7
  go_upto_region 1 with fail
  generalize w.alloc _ = wa at *
  go_wp2_with fail
  refine (packet0_any a wa HS.out.2).mono ?_
  rintro e w3 ⟨P, rfl, hWf, hvp, hs⟩
  have hval : P.val = .agg #[.int .i64 P.mode, .int .i64 P.sub, .int .i64 P.set, .int .i64 P.len, .int .i64 P.ttl, .int .i64 P.ent, .int .i64 P.ing, .int .i64 P.pro, .int .u64 (P.bits : Int), .string P.pay] := rfl
  rw [hval]
  go_upto_region 2 with fail
  obtain ⟨k1, k2⟩ := sone_box w3 (frcells (.slice none 0 0) P) 33
  have HF4 : Hid ((w3.alloc (.cells (frcells (.slice none 0 0) P) 33)).heap[w3.heap.size]? = some (.cells (frcells (.slice none 0 0) P) 33 (0, 0)) ∧ Row (w3.alloc (.cells (frcells (.slice none 0 0) P) 33)) w.heap.size 33 zfr.toList ∧ St a w (w3.alloc (.cells (frcells (.slice none 0 0) P) 33)) ∧ w3.heap.size < (w3.alloc (.cells (frcells (.slice none 0 0) P) 33)).heap.size) :=
    Lib.hid ⟨k1, (HB.out.kept hs.1 (fun e => by have := Option.some.inj e; omega)).kept k2 (by simp), (HS.out.trans hs).trans ⟨grown_none k2 _, hs.2.keep k2⟩, by simp⟩
  have HB3 : Hid (w.heap.size < w3.heap.size ∧ P.Wf) := Lib.hid ⟨Nat.lt_of_lt_of_le HW.out hs.1.size, hWf⟩
  have HFC := Lib.hid (show frcells (.slice none 0 0) P = #[.slice none 0 0, .int .i64 P.mode, .int .i64 P.sub, .int .i64 P.set, .int .i64 P.len, .int .i64 P.ttl, .int .i64 P.ent, .int .i64 P.ing, .int .i64 P.pro, .int .u64 (P.bits : Int), .string P.pay] from rfl)
  rw [HFC.out] at HF4
  clear k1 k2 hs hvp hWf hval HB HS HW
  generalize w3.alloc _ = w4 at *
  generalize w3.heap.size = B at *
  rw [← HFC.out] at HF4
  go_wp2_with fail
  refine (order_any a 5 (by omega) w4 HF4.out.2.2.1.2).mono ?_
  rintro e w5 ⟨vo, rfl, l, hl, hown, _, hs⟩
  obtain ⟨go, co, rfl⟩ := Joins.ownsRow_form hown (by omega)
  have hRo := rd_of_own hown
  have hBw4 := HF4.out.2.2.2
  have HK0 : Hid (FK a w B w5.heap.size (.slice none 0 0) [] P w5) := Lib.hid ⟨kept_row HF4.out.1 hs.1 (fun e => by have := Option.some.inj e; have := ha; have := HB3.out.1; omega), HF4.out.2.1.kept hs.1 (fun e => by have := Option.some.inj e; omega), World.ownsRow_nil _ _ _ _, HF4.out.2.2.1.trans hs, HB3.out.2, Nat.le_refl _⟩
  have hBb : B < w5.heap.size := Nat.lt_of_lt_of_le hBw4 hs.1.size
  obtain ⟨hgoB, hgob, hgo4⟩ : go ≠ B ∧ go < w5.heap.size ∧ a < go := by
    obtain ⟨h1, h2⟩ := hown.lt go rfl
    exact ⟨by omega, h2, Nat.lt_of_lt_of_le HF4.out.2.2.1.2.lt h1⟩
  obtain ⟨cur, hcur, hcl⟩ : ∃ cur, w5.heap[go]? = some (.cells cur 3 (0, 0)) ∧ ∀ i, i < 5 → ∃ y : Nat, y < 5 ∧ cur[i]? = some (.int .i64 (y : Int)) := by
    rcases hown.2 with ⟨h0, _⟩ | ⟨g', cap', cur, hv, _, hh, _, _, _, htake⟩
    · cases h0
    · cases hv
      refine ⟨cur, hh, fun i hi => ?_⟩
      have h5 : i < l.length := by rw [hl.1]; exact hi
      refine ⟨l[i], hl.2.2 _ (List.getElem_mem h5), ?_⟩
      have e1 : (cur.toList.take (5 * 1))[i]? = (l.map zv)[i]? := by rw [htake]
      rw [List.getElem?_take, if_pos (by omega), List.getElem?_map, List.getElem?_eq_getElem h5] at e1
      simpa [zv] using e1
  have HCU := Lib.hid hcl
  have HGO := Lib.hid hcur
  have HWB := HB3.out.1
  clear hown hRo hs hl hcur hcl HF4
  go_wp2_with fail
  refine (next_any a 5 (by unfold I64; omega) w5 HK0.out.st.2).mono ?_
  rintro e w6 ⟨xx, rfl, hx, hs⟩
  obtain ⟨x, rfl⟩ := Int.eq_ofNat_of_zero_le hx.1
  have hx5 : x ≤ 4 := by have := hx.2.1 (by decide); omega
  have HK1 := Lib.hid (HK0.out.tape ha HWB hBb hs)
  have HGO1 := Lib.hid (kept_row HGO.out hs.1 (fun e => by have := Option.some.inj e; omega))
  have hsz6 := hs.1.size
  clear hx hs HK0 HGO
  generalize hbase : w5.heap.size = base at *
  go_wp2_with fail
  go_loopw [7] (fun i wr => ∃ k : Nat, k ≤ 4 ∧ i = .int .i64 (k : Int) ∧ ∃ vr r, (r : List Int).length + k ≤ 4 ∧ Hid (FK a w B base vr r P wr) ∧ Hid (wr.heap[go]? = some (.cells cur 3 (0, 0))) ∧ base ≤ wr.heap.size) (fun i _ => (intOf i).toNat)
  case atStart => exact ⟨x, hx5, rfl, _, [], by simpa using hx5, HK1, HGO1, hsz6⟩
  case round =>
    obtain ⟨k, hk, rfl, vr, r, hrk, hK, hO, hsz⟩ := hrel
    clear HK1 HGO1
    by_cases hk1 : 1 ≤ k
    · obtain ⟨y, hy5, hyc⟩ := HCU.out k (by omega)
      have c0 := (fr_facts hK.out.fb).1
      have c1 := (cell_of_row _ _ k _ _ _ hO.out).trans hyc
      have f0 := frozen_of_row _ _ 0 _ _ hK.out.fb
      have A0 := (World.grownBy_alloc wr (.cells #[.int .i64 (1 + (y : Int))] 3) none).cell c0 (by simp)
      have hKd : Hid (FK a w B base vr r P wr.drew) := Lib.hid ⟨hK.out.fb, hK.out.rb, hK.out.own.drew, ⟨grown_drew hK.out.st.1, hK.out.st.2.drew⟩, hK.out.wf, hK.out.sz⟩
      have hO2 := Lib.hid (And.intro hK.out.wf hO.out)
      have I1 : ¬ B = wr.heap.size := by have := (hK.out.fb |> World.lt_of_row'); omega
      have hsz3 : base ≤ wr.drew.heap.size := hsz
      have hown0 := hK.out.own.drew
      have hrl : r.length ≤ 4 := by omega
      have k5 : (k : Int) < 5 := by omega
      have hwy : IntKind.i64.wrap (1 + (y : Int)) = 1 + (y : Int) := by rw [IntKind.wrap_i64]; omega
      have k0 : (0 : Int) ≤ (k : Int) := by omega
      go_wp2_with fail
      go_region_law (refine step_append_lies _ rfl _ _ 22 rfl base 3 i0 (.int .i64 0) 1 8 Tryd.underlying22 hi0 hz0 hz1 hz2 rfl (by decide) vr r.length (r.map iv) (by rfl) (hown0.alloc _) ⟨wr.heap.size, 0, none⟩ 1 1 [.int .i64 (1 + (y : Int))] (by rfl) (by rfl) (cell_one wr.drew _ _) (by intro u hu; simp at hu; subst hu; rfl) (by omega) (by unfold maxLen; omega) (by omega) (by simp; omega) _ rfl ?_; intro g cap w7 hown hgrow hat hlt; have HM := Lib.hid (hKd.out.mid ha HWB hBb hown hgrow); have cB := (fr_facts HM.out.1).1; have fB := frozen_of_row _ _ 0 _ _ HM.out.1; have HGO7 := Lib.hid (kept_row (kept_row (show wr.drew.heap[go]? = _ from hO.out) (World.grownBy_alloc wr.drew _ none) (by simp)) hgrow (fun e => by have := (hown0.lt go e.symm).1; omega)))
      all_goals
        have HK2 := Lib.hid (FK.put ha HWB hBb hK.out.wf HM.out)
        have HGO8 : Hid ((w7.setCell ⟨B, 0, none⟩ (.slice (some ⟨g, 0, none⟩) (r.length + 1) cap)).heap[go]? = some (.cells cur 3 (0, 0))) := Lib.hid (kept_row HGO7.out (grown_setCell w7 ⟨B, 0, none⟩ _) (fun e => hgoB (Option.some.inj e)))
        have hszw : base ≤ (w7.setCell ⟨B, 0, none⟩ (.slice (some ⟨g, 0, none⟩) (r.length + 1) cap)).heap.size := by
          have h1 := hgrow.size
          have h2 := (grown_setCell w7 ⟨B, 0, none⟩ (.slice (some ⟨g, 0, none⟩) (r.length + 1) cap)).size
          simp at h1
          have h3 : wr.heap.size = wr.drew.heap.size := rfl
          omega
        clear hown hgrow hat hlt HM cB fB HGO7 hKd hO2 hK hO A0 c0 c1 f0
        go_wp2_with fail
        exact ⟨⟨k - 1, by omega, by congr 1; omega, _, r ++ [1 + (y : Int)], by rw [List.length_append]; simp; omega, HK2, HGO8, hszw⟩, by simp [intOf]; omega⟩
    · obtain rfl : k = 0 := by omega
      have HKx := Lib.hid (And.intro hK.out hsz)
      clear hK hO hk1 hsz HCU
      go_upto_region 7 with fail
      go_cut [36] from 30 to 36 (fun bb wx => ∃ z, bb = .bool z ∧ Hid (FK a w B base vr r P wx))
      case first =>
        by_cases hn1 : 0 < n
        · go_wp2_with (go_at_call 14; refine (one_any _ n hn _ HKx.out.1.st.2).mono ?_; rintro e w7 ⟨z, rfl, hs⟩; have HK2 := Lib.hid (HKx.out.1.tape ha HWB hBb hs); clear hs)
          go_meet
          exact ⟨z, rfl, HK2⟩
        · go_wp2_with fail
          go_meet
          exact ⟨false, rfl, Lib.hid HKx.out.1⟩
      case rest =>
      obtain ⟨z, rfl, HK3⟩ := hcut
      clear HKx
      go_upto_if 36 with fail
      go_cut [8] from 37 to 64 (fun ii wx => ∃ v2 r2 P2, (r2 : List Int).length ≤ 40 ∧ Hid (FK a w B base v2 r2 P2 wx))
      case first =>
        cases z
        · go_wp2_with fail
          go_meet
          exact ⟨vr, r, P, by omega, HK3⟩
        · have hTp := Lib.hid HK3.out.st.2
          go_wp2_with fail
          refine (next_any _ 3 (by unfold I64; omega) _ hTp.out).mono ?_
          rintro e w8 ⟨qq, rfl, hq, hs⟩
          obtain ⟨q, rfl⟩ := Int.eq_ofNat_of_zero_le hq.1
          have hq3 : q < 3 := by have := hq.2.1 (by decide); omega
          have HK4 := Lib.hid (HK3.out.tape ha HWB hBb hs)
          clear hq hs hTp HK3
          rcases (show q = 0 ∨ q = 1 ∨ q = 2 by omega) with rfl | rfl | rfl
          · go_wp2_with fail
            refine (packetN_agg a 1 (by omega) (by omega) w8 HK4.out.st.2).mono ?_
            rintro e w9 ⟨P2, rfl, hWf2, hs⟩
            have HK5 := Lib.hid (HK4.out.tape ha HWB hBb hs)
            have HK6 := Lib.hid (HK5.out.pkt ha HWB hBb hWf2)
            obtain ⟨d0, d1, d2, d3, d4, d5, d6, d7, d8, d9, d10⟩ := fr_facts HK5.out.fb
            have f1 := frozen_of_row _ _ 1 _ _ HK5.out.fb
            have f2 := frozen_of_row _ _ 2 _ _ HK5.out.fb
            have f3 := frozen_of_row _ _ 3 _ _ HK5.out.fb
            have f4 := frozen_of_row _ _ 4 _ _ HK5.out.fb
            have f5 := frozen_of_row _ _ 5 _ _ HK5.out.fb
            have f6 := frozen_of_row _ _ 6 _ _ HK5.out.fb
            have f7 := frozen_of_row _ _ 7 _ _ HK5.out.fb
            have f8 := frozen_of_row _ _ 8 _ _ HK5.out.fb
            have f9 := frozen_of_row _ _ 9 _ _ HK5.out.fb
            have f10 := frozen_of_row _ _ 10 _ _ HK5.out.fb
            clear hs HK4 hWf2
            go_wp2_with fail
            go_meet
            exact ⟨vr, r, P2, by omega, HK6⟩
          · have c0 := (fr_facts HK4.out.fb).1
            have A0 := (World.grownBy_alloc w8 (.cells #[.int .i64 0, .int .i64 1, .int .i64 2, .int .i64 99, .int .i64 100] 3) none).cell c0 (by simp)
            have hrl : r.length ≤ 4 := by omega
            have HT8 := Lib.hid (HK4.out.st.2.alloc (.cells #[.int .i64 0, .int .i64 1, .int .i64 2, .int .i64 99, .int .i64 100] 3)).drew
            have HA8 : Hid (Among I64 (w8.alloc (.cells #[.int .i64 0, .int .i64 1, .int .i64 2, .int .i64 99, .int .i64 100] 3)).drew a w8.heap.size 0 5) := Lib.hid (among_list I64 w8 a [0, 1, 2, 99, 100] #[.int .i64 0, .int .i64 1, .int .i64 2, .int .i64 99, .int .i64 100] 3 HK4.out.st.2.lt rfl (by intro x hx; simp at hx; unfold I64; omega))
            go_wp2_with fail
            go_region_law (first
              | (go_simp; go_at_call 25; refine (pick_any I64 a _ 0 5 5 (by omega) (by omega) _ HT8.out HA8.out).mono ?_; rintro e w9 ⟨x, rfl, hx, hsk⟩; have HK5 := Lib.hid (HK4.out.tape ha HWB hBb (St.alloc_left (w := w8) (show St a (w8.alloc _) w9 from ⟨⟨hsk.1.os, hsk.1.tape, hsk.1.output, hsk.1.size, hsk.1.block⟩, hsk.2⟩))); have c9 := (fr_facts HK5.out.fb).1; have A9 := (World.grownBy_alloc w9 (.cells #[.int .i64 x] 3) none).cell c9 (by simp); have hown9 := HK5.out.own; have hsz9 := HK5.out.sz)
              | (refine step_append_lies _ rfl _ _ 22 rfl base 3 i0 (.int .i64 0) 1 8 Tryd.underlying22 hi0 hz0 hz1 hz2 rfl (by decide) vr r.length (r.map iv) (by rfl) (hown9.alloc _) ⟨w9.heap.size, 0, none⟩ 1 1 [.int .i64 x] (by rfl) (by rfl) (cell_one w9 _ _) (by intro u hu; simp at hu; subst hu; rfl) (by omega) (by unfold maxLen; omega) (by omega) (by simp; omega) _ rfl ?_; intro g cap w10 hown hgrow hat hlt; have HM := Lib.hid (HK5.out.mid ha HWB hBb hown hgrow); have cB := (fr_facts HM.out.1).1; have fB := frozen_of_row _ _ 0 _ _ HM.out.1))
            all_goals
              have HK6 := Lib.hid (FK.put ha HWB hBb HK5.out.wf HM.out)
              clear hown hgrow hat hlt HM cB fB hsk HK5 HK4 A0 A9 c0 c9 hown9
              go_wp2_with fail
              go_meet
              exact ⟨_, r ++ [x], P, by rw [List.length_append]; simp; omega, HK6⟩
          · go_wp2_with fail
            go_loopw [8] (fun i wr => ∃ k : Nat, k ≤ 25 ∧ i = .int .i64 (k : Int) ∧ ∃ v2 r2, (r2 : List Int).length ≤ 4 + k ∧ Hid (FK a w B base v2 r2 P wr)) (fun i _ => 25 - (intOf i).toNat)
            case atStart => exact ⟨0, by omega, rfl, vr, r, by omega, HK4⟩
            case round =>
              obtain ⟨k, hk, rfl, v2, r2, hr2, hK⟩ := hrel
              clear HK4
              by_cases hk25 : k < 25
              · have c0 := (fr_facts hK.out.fb).1
                have hown0 := hK.out.own
                have hbw : base ≤ wr.heap.size := hK.out.sz
                go_wp2_with (at_builtin; refine wpList_append_own _ rfl _ _ 22 rfl base 3 i0 (.int .i64 0) 1 8 Tryd.underlying22 hi0 hz0 hz1 hz2 rfl (by decide) v2 r2.length (r2.map iv) rfl (hown0.alloc _) ⟨wr.heap.size, 0, none⟩ 1 1 [.int .i64 (50 + (k : Int))] rfl rfl ?c1 ?c2 ?c3 ?c4 ?c5 ?_)
                case c1 => exact cell_one _ _ _
                case c2 => intro u hu; simp at hu; subst hu; rfl
                case c3 => unfold maxLen; omega
                case c4 => omega
                case c5 => simp; omega
                intro v' w9 hown hg _
                obtain ⟨g, cap, rfl⟩ := Joins.ownsRow_form hown (by omega)
                have HM := Lib.hid (hK.out.mid ha HWB hBb hown hg)
                have cB := (fr_facts HM.out.1).1
                have fB := frozen_of_row _ _ 0 _ _ HM.out.1
                have HK2 := Lib.hid (FK.put ha HWB hBb hK.out.wf HM.out)
                clear hown hg HM hK c0 hown0
                go_wp2_with fail
                go_roundw
                case rel =>
                  exact ⟨k + 1, by omega, by go_num, _, r2 ++ [50 + (k : Int)], by rw [List.length_append]; simp; omega, HK2⟩
                case measure => simp [intOf]; omega
              · go_wp2_with fail
                go_meet
                exact ⟨v2, r2, P, by omega, hK⟩
      case rest =>
        obtain ⟨v2, r2, P2, hr2, HK7⟩ := hcut
        obtain ⟨p2, c2, rfl, hn2, hc2, hp2⟩ := owni_facts HK7.out.own
        obtain ⟨d0, d1, d2, d3, d4, d5, d6, d7, d8, d9, d10⟩ := fr_facts HK7.out.fb
        obtain ⟨⟨e0, e1, e2, e3, e4, e5, e6, e7, e8, e9, e10⟩, f0, f1, f2, f3, f4, f5, f6, f7, f8, f9, f10⟩ := zfr_facts HK7.out.rb
        have HN := Lib.hid (And.intro hn2 (And.intro hc2 hp2))
        clear hn2 hc2 hp2
        go_wp2_with fail
        refine bodyPost_ret (res_frame1 rfl _ _ w.heap.size _ rfl rfl (fput_row _ _ _ _ _ _ _ _ _ _ _ HK7.out.rb)) rfl ?_
        exact ⟨r2, P2, p2, c2, rfl, HK7.out.wf, hr2, HN.out.1, HN.out.2.1, ((rd_of_own HK7.out.own).grown (fput_grown _ w.heap.size _ _ _ _ _ _ _ _ _ _ _) (fun b hb e => by have := Option.some.inj e; omega)).mono (fun b hb => by omega), HN.out.2.2, HK7.out.st.store (b := w.heap.size) (fput_grown _ w.heap.size _ _ _ _ _ _ _ _ _ _ _) (Nat.le_refl _) ha⟩
end Go.Proofs.YtpabfjhjehjebaaDoor

/- packet: what the reference's Decode calls. -/
namespace Go.Proofs.YtpabfjhjehjebaaDoor
open Go.RowKit Bs
section
variable {w : World} {q : Nat → Prop} {l : List Nat} {p : Option Addr} {c : Nat}
set_option maxRecDepth 100000 in
theorem slice_wholer {A T : Nat} {a b : Int} (t : Int) (ht : t = (T : Int)) (hl : By l) (h : 8 * l.length ≤ 8192) (hT : A + T ≤ 8 * l.length) (ha : a = (A : Int)) (hb : b = ((A + T : Nat) : Int)) (hR : Rd w q (.slice p l.length c) (l.map nv)) :
    Calls Tryd.prog 64 #[.agg #[.slice p l.length c, .int .i64 (8 * (l.length : Int))], .int .i64 a, .int .i64 b] w fun e w' =>
      ∃ p2 c2, e = .returned (.tuple #[.agg #[.slice p2 (pz (fun i => bt l (A + i)) T ((T + 7) / 8)).length c2, .int .i64 t], .int .i64 0]) ∧ Rd w' (fun _ => True) (.slice p2 (pz (fun i => bt l (A + i)) T ((T + 7) / 8)).length c2) ((pz (fun i => bt l (A + i)) T ((T + 7) / 8)).map nv) ∧ (p2 = none → c2 = 0) ∧ w.grownBy w' none := by
  subst ha hb ht
  refine (slicer_any l (8 * (l.length : Int)) (A : Int) ((A + T : Nat) : Int) _ p c hl (by unfold I64; omega) (by unfold I64; omega) w (fun _ h => h) hR.bound).mono fun e w' hp => ?_
  have hv := slV_ok (l := l) (N := 8 * l.length) (A := A) (T := T) (vs_whole h) rfl hT
  rw [Int.natCast_mul] at hv
  change slV l (8 * (l.length : Int)) _ _ = _ at hv
  rw [hv] at hp
  obtain ⟨u, he, ⟨p2, c2, rfl, h1, h2, _⟩, hg⟩ := hp
  exact ⟨p2, c2, he, h1, h2, hg⟩
set_option maxRecDepth 100000 in
theorem take_wholer {A K : Nat} {a k : Int} (hl : By l) (h : 8 * l.length ≤ 8192) (hK : K ≤ 64) (hT : A + K ≤ 8 * l.length) (ha : a = (A : Int)) (hk : k = (K : Int)) (hR : Rd w q (.slice p l.length c) (l.map nv)) :
    Calls Tryd.prog 61 #[.agg #[.slice p l.length c, .int .i64 (8 * (l.length : Int))], .int .i64 a, .int .i64 k] w fun e w' => e = .returned (.tuple #[.int .u64 ((num (bt l) A K : Nat) : Int), .int .i64 0]) ∧ w.grownBy w' none := by
  subst ha hk
  refine (taker_any l (8 * (l.length : Int)) (A : Int) (K : Int) _ p c hl (by unfold I64; omega) w (fun _ h => h) hR.bound).mono fun e w' hp => ?_
  obtain ⟨he, hg⟩ := hp
  have hv := takeV_ok (l := l) (n := ((8 * l.length : Nat) : Int)) (a := (A : Int)) (k := (K : Int)) (vs_whole h) (by unfold vw; simp; omega) (by omega) (by omega)
  rw [Int.natCast_mul, Int.toNat_natCast, Int.toNat_natCast] at hv
  change takeV l (8 * (l.length : Int)) _ _ = _ at hv
  rw [hv] at he
  exact ⟨he, hg⟩
set_option maxRecDepth 100000 in
theorem check_partr {T : Nat} {t : Int} (ht : t = (T : Int)) (h : T ≤ 8 * l.length) (h2 : 8 * l.length ≤ 8192) (hR : Rd w q (.slice p (pz (fun i => bt l (0 + i)) T ((T + 7) / 8)).length c) ((pz (fun i => bt l (0 + i)) T ((T + 7) / 8)).map nv)) :
    Calls Tryd.prog 47 #[.agg #[.slice p (pz (fun i => bt l (0 + i)) T ((T + 7) / 8)).length c, .int .i64 t]] w fun e w' => e = .returned (.tuple #[.int .u64 ((chk (bt l) T : Nat) : Int), .int .i64 0]) ∧ w.grownBy w' none := by
  subst ht
  refine (checkr_any _ (T : Int) _ p c (pz_lt _ _ _) w (fun _ h => h) hR.bound).mono fun e w' hp => ?_
  obtain ⟨he, hg⟩ := hp
  have hvs : vs (pz (fun i => bt l (0 + i)) T ((T + 7) / 8)) (T : Int) = true := by
    refine vs_iff.2 ⟨by omega, pz_len _ _ _, fun i hi hn => ?_⟩
    rw [pz_len] at hi
    rw [bt_pz _ _ _ _ hi]
    simp; omega
  rw [chkV_ok hvs] at he
  rw [← chk_same (f := bt (pz (fun i => bt l (0 + i)) T ((T + 7) / 8))) (g := bt l) T fun i hi => by rw [bt_pz _ _ _ _ (by omega)]; simp [hi]]
  exact ⟨he, hg⟩
end
set_option maxRecDepth 100000 in
theorem decoded_any (v : Nat) (hv : v < 4) (w : World) :
    Calls Tryd.prog 62 #[.int .i64 (v : Int)] w fun e w' => e = .returned (.int .i64 ((8 * 2 ^ v : Nat) : Int)) ∧ w = w' := by
  rcases (show v = 0 ∨ v = 1 ∨ v = 2 ∨ v = 3 by omega) with rfl | rfl | rfl | rfl
  all_goals
    go_enter Tryd.func62, Tryd.ntmps62
    go_wp2_with fail
    go_ret
    exact ⟨rfl, rfl⟩
/-- The result's box, the stream's, the widths, while the reference decodes. -/
structure DR (W : World) (S D : Nat) (t : List Nat) (p : Option Addr) (c : Nat) (w : World) : Prop where
  zb : w.heap[W.heap.size]? = some (.cells zpk 31 (0, 0))
  sb : w.heap[S]? = some (.cells #[.slice p t.length c, .int .i64 (8 * (t.length : Int))] 74 (0, 0))
  db : w.heap[D]? = some (.cells wcells 3 (0, 0))
  rd : Rd w (· < W.heap.size) (.slice p t.length c) (t.map nv)
  gr : W.grownBy w none
section
variable {W w w1 : World} {S D : Nat} {t : List Nat} {p : Option Addr} {c : Nat}
theorem DR.keep (H : DR W S D t p c w) (k : w.grownBy w1 none) : DR W S D t p c w1 :=
  ⟨kept_row H.zb k (by simp), kept_row H.sb k (by simp), kept_row H.db k (by simp), H.rd.keep k, grown_trans H.gr k⟩
theorem DR.facts (H : DR W S D t p c w) : w.cell? ⟨S, 0, none⟩ = some (.slice p t.length c) ∧ w.cell? ⟨S, 1, none⟩ = some (.int .i64 (8 * (t.length : Int))) :=
  ⟨(row_cells H.sb).1, (row_cells H.sb).2⟩
end
/-- The list of the fields, while it is made. -/
def Flds (wb : World) (V : Nat → Nat) (k : Nat) (v : Value) (w : World) : Prop := w.ownsRow wb.heap.size 3 1 v k ((List.range k).map fun j => zv (V j)) ∧ wb.grownBy w none
theorem flds_next {wb wr w1 : World} {V : Nat → Nat} {k : Nat} {v v' : Value} {o : Obj} (h : Flds wb V k v wr) (hown : w1.ownsRow wb.heap.size 3 1 v' (k + 1) (((List.range k).map fun j => zv (V j)) ++ [zv (V k)])) (hg : (wr.alloc o).grownBy w1 v.ownBlock) : Flds wb V (k + 1) v' w1 := by
  refine ⟨?_, own_step h.2 h.1 hg⟩
  rw [List.range_succ, List.map_append]
  exact hown
theorem flds_keep {wb wr w1 : World} {V : Nat → Nat} {k : Nat} {v : Value} (h : Flds wb V k v wr) (g : wr.grownBy w1 none) : Flds wb V k v w1 :=
  ⟨h.1.kept g (by cases hv : v.ownBlock <;> simp), grown_trans h.2 g⟩
theorem own_cell2 {w : World} {base g n cap k : Nat} {e : TypeId} {xs : List Value} {x : Value} (h : w.ownsRow base e 1 (.slice (some ⟨g, 0, none⟩) n cap) n xs) (hk : xs[k]? = some x) : w.cell? ⟨g, k, none⟩ = some x := by
  obtain ⟨p, c, hv, hc⟩ := rd_of_own h
  injection hv with h1 _ _
  obtain ⟨b, off, hp, _, hx⟩ := hc (by intro e2; rw [e2] at hk; cases hk)
  rw [hp] at h1
  have h2 := Option.some.inj h1
  injection h2 with h3 h4 _
  have := hx k x hk
  rw [← h3, ← h4, Nat.zero_add] at this
  exact this
theorem flds_cell {wb w : World} {V : Nat → Nat} {g n cap j : Nat} (h : Flds wb V n (.slice (some ⟨g, 0, none⟩) n cap) w) (hj : j < n) : w.cell? ⟨g, j, none⟩ = some (.int .i64 ((V j : Nat) : Int)) :=
  own_cell2 h.1 (by rw [List.getElem?_map, List.getElem?_range hj]; rfl)
end Go.Proofs.YtpabfjhjehjebaaDoor

/- packet: what the reference's Decode keeps, its payload, its answer. -/
namespace Go.Proofs.YtpabfjhjehjebaaDoor
open Go.RowKit Bs
/-- The boxes and the fields, while the reference decodes behind the header. -/
structure RR (W wb : World) (S D gf cf B : Nat) (V : Nat → Nat) (n b : Nat) (s : ByteArray) (t : List Nat) (p : Option Addr) (c : Nat) (w : World) : Prop where
  dr : DR W S D t p c w
  fl : Flds wb V 10 (.slice (some ⟨gf, 0, none⟩) 10 cf) w
  pb : w.heap[B]? = some (.cells (rcells V (n : Int) b s) 31 (0, 0))
  ne : W.heap.size < B ∧ S ≠ B ∧ D ≠ B ∧ gf ≠ B ∧ wb.heap.size ≤ B
section
variable {W wb w w1 : World} {S D gf cf B : Nat} {V : Nat → Nat} {n b : Nat} {s : ByteArray} {t : List Nat} {p : Option Addr} {c : Nat}
theorem RR.keep (H : RR W wb S D gf cf B V n b s t p c w) (k : w.grownBy w1 none) : RR W wb S D gf cf B V n b s t p c w1 :=
  ⟨H.dr.keep k, flds_keep H.fl k, kept_row H.pb k (by simp), H.ne⟩
theorem DR.other (H : DR W S D t p c w) (k : w.grownBy w1 (some B)) (h1 : W.heap.size < B) (h2 : S ≠ B) (h3 : D ≠ B) : DR W S D t p c w1 :=
  ⟨kept_row H.zb k (fun e => by have := Option.some.inj e; omega), kept_row H.sb k (fun e => h2 (Option.some.inj e)), kept_row H.db k (fun e => h3 (Option.some.inj e)), H.rd.grown k (fun b hb e => by have := Option.some.inj e; omega), grown_new H.gr k (by omega)⟩
theorem RR.stores (H : RR W wb S D gf cf B V n b s t p c w) {k : Nat} {v : Value} {b' : Nat} {s' : ByteArray} (h : (rcells V (n : Int) b s).setIfInBounds k v = rcells V (n : Int) b' s') : RR W wb S D gf cf B V n b' s' t p c (w.setCell ⟨B, k, none⟩ v) := by
  have j := grown_setCell w ⟨B, k, none⟩ v
  obtain ⟨h1, h2, h3, h4, h5⟩ := H.ne
  refine ⟨H.dr.other j h1 h2 h3, ⟨H.fl.1.kept j (.inr (fun e => h4 (Option.some.inj (show some gf = some B from e)))), grown_new H.fl.2 j h5⟩, ?_, H.ne⟩
  rw [← h]
  exact heap_setCell_same w _ k _ _ _ H.pb
theorem RR.bits (H : RR W wb S D gf cf B V n b s t p c w) (b' : Nat) : RR W wb S D gf cf B V n b' s t p c (w.setCell ⟨B, 8, none⟩ (.int .u64 (b' : Int))) := H.stores rfl
theorem RR.pay (H : RR W wb S D gf cf B V n b s t p c w) (s' : ByteArray) : RR W wb S D gf cf B V n b s' t p c (w.setCell ⟨B, 9, none⟩ (.string s')) := H.stores rfl
end
/-- The bytes of the payload, while they are read. -/
def pyl (t : List Nat) (A j : Nat) : List Nat := (List.range j).map fun i => num (bt t) (A + 8 * i) 8
def PayRel (wb : World) (t : List Nat) (A j : Nat) (v : Value) (w : World) : Prop := w.ownsRow wb.heap.size 5 1 v j ((pyl t A j).map nv) ∧ (j = 0 → v = .slice none 0 0) ∧ wb.grownBy w none
theorem pyl_next (t : List Nat) (A j : Nat) : pyl t A (j + 1) = pyl t A j ++ [num (bt t) (A + 8 * j) 8] := by unfold pyl; rw [List.range_succ, List.map_append]; rfl
theorem pyl_len (t : List Nat) (A j : Nat) : (pyl t A j).length = j := by unfold pyl; simp
theorem pyl_by (t : List Nat) (A j : Nat) : By (pyl t A j) := by
  intro x hx
  unfold pyl at hx
  obtain ⟨i, _, rfl⟩ := List.mem_map.1 hx
  exact num_lt _ _ 8
theorem pay_next {wb wr w1 : World} {t : List Nat} {A j : Nat} {v v' : Value} {o : Obj} (h : PayRel wb t A j v wr) (hown : w1.ownsRow wb.heap.size 5 1 v' (j + 1) ((pyl t A j).map nv ++ [nv (num (bt t) (A + 8 * j) 8)])) (hg : (wr.alloc o).grownBy w1 v.ownBlock) : PayRel wb t A (j + 1) v' w1 := by
  refine ⟨?_, fun e => by omega, own_step h.2.2 h.1 hg⟩
  rw [pyl_next, List.map_append]
  exact hown
theorem pay_keep {wb wr w1 : World} {t : List Nat} {A j : Nat} {v : Value} (h : PayRel wb t A j v wr) (g : wr.grownBy w1 none) : PayRel wb t A j v w1 :=
  ⟨h.1.kept g (by cases hv : v.ownBlock <;> simp), h.2.1, grown_trans h.2.2 g⟩
theorem pay_conv {wb w : World} {t : List Nat} {A j : Nat} {v : Value} (h : PayRel wb t A j v w) : (convert 23 9 v).run Tryd.prog w = .ok (.string (bs (pyl t A j))) w := by
  by_cases h0 : j = 0
  · rw [h.2.1 h0]
    subst h0
    exact conv_nv (l := pyl t A 0) (q := fun _ => True) (pyl_by t A 0) rfl (Rd.nil_ _ _ _ _) (fun _ => rfl)
  · obtain ⟨g, cap, rfl, _⟩ := own_form h.1 (by omega)
    have hr := rd_of_own h.1
    exact conv_nv (pyl_by t A j) (pyl_len t A j).symm hr (by simp)
/-- The error behind the header. -/
def cErr (t : List Nat) (K sz : Nat) : Int := if num (bt t) K 16 ≠ chk (bt t) K then 23 else if num (bt t) (K + 16) (8 * sz - (K + 16)) ≠ 0 then 24 else 0
theorem dec_rest {l t : List Nat} {V : Nat → Nat} {n sz K : Nat} (ht : t = l.take 128) (hs : sz ≤ 81) (hl : sz ≤ l.length) (hK : K = 49 + n + 8 * V 9) (hKs : K + 16 ≤ 8 * sz) :
    restV V n (l.take sz) = if cErr t K sz = 0 then (rcells V (n : Int) (num (bt t) 49 n) (bs (pyl t (49 + n) (V 9))), 0) else (zpk, cErr t K sz) := by
  have bb : ∀ i, i < 8 * sz → bt (l.take sz) i = bt t i := fun i hi => by rw [ht, bt_take hi, bt_take (by omega)]
  have e1 : ∀ a k, a + k ≤ 8 * sz → num (bt (l.take sz)) a k = num (bt t) a k := fun a k h => num_congr k fun i hi => bb _ (by omega)
  have e2 : chk (bt (l.take sz)) K = chk (bt t) K := chk_same _ fun i hi => bb i (by omega)
  have e3 : (l.take sz).length = sz := by rw [List.length_take]; omega
  have hE : restE (l.take sz) n (V 9) = cErr t K sz := by
    unfold restE cErr
    rw [← hK, e1 K 16 hKs, e2, e3, e1 (K + 16) (8 * sz - (K + 16)) (by omega)]
  have hP : restP (l.take sz) n (V 9) = bs (pyl t (49 + n) (V 9)) := by
    unfold restP
    refine congrArg bs ?_
    unfold pz pyl
    refine List.map_congr_left ?_
    intro j hj
    have hj := List.mem_range.1 hj
    unfold py
    refine num_congr 8 fun i hi => ?_
    have : decide (8 * j + i < 8 * V 9) = true := by simpa using (by omega : 8 * j + i < 8 * V 9)
    rw [this, Bool.true_and]
    show bt (l.take sz) (49 + n + (8 * j + i)) = _
    rw [bb _ (by omega)]
    exact congrArg (bt t) (by omega)
  unfold restV
  rw [hE, hP, e1 49 n (by omega)]
end Go.Proofs.YtpabfjhjehjebaaDoor

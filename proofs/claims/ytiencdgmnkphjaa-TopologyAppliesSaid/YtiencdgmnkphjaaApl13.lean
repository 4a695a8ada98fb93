/- Parts of the proof, packed: ToConn, ToBri, ToCuts, ToAwake. -/
import Derived.Test.YtiencdgmnkphjaaApl12
import Derived.Test.YtiencdgmnkphjaaApl11
/- topology: Connected. -/
namespace Go.Proofs.Ytiencdgmnkphjaa
open Go.RowKit Bs
theorem rdv_cells {w : World} {q : Nat → Prop} {p : Option Addr} {n c : Nat} {vs : List Value} (h : Rd w q (.slice p n c) vs) (hn : 0 < vs.length) :
    n = vs.length ∧ ∃ b off, p = some ⟨b, off, none⟩ ∧ q b ∧ ∀ i x, vs[i]? = some x → w.cell? ⟨b, off + i, none⟩ = some x := by
  obtain ⟨p1, c1, e1, hx⟩ := h
  injection e1 with a1 a2 a3
  subst a1
  obtain ⟨b, off, hp, hq, hc⟩ := hx (by intro e; rw [e] at hn; exact absurd hn (by decide))
  exact ⟨a2, b, off, hp, hq, hc⟩
/-- A list of lists that can be read. -/
structure CL (w : World) (q : Nat → Prop) (p : Option Addr) (c : Nat) (Cs : List (List Int)) (vals : List Value) : Prop where
  rd : Rd w q (.slice p Cs.length c) vals
  len : vals.length = Cs.length
  cap : Cs.length ≤ c ∧ c ≤ 9223372036854775807
  at_ : ∀ (i : Nat) (C : List Int) (x : Value), Cs[i]? = some C → vals[i]? = some x → CC w q x C
theorem CL.keep {w w' : World} {q : Nat → Prop} {p : Option Addr} {c : Nat} {Cs : List (List Int)} {vals : List Value} (h : CL w q p c Cs vals) (g : w.grownBy w' none) : CL w' q p c Cs vals :=
  ⟨h.rd.grown g (by simp), h.len, h.cap, fun i C x h1 h2 => by
    obtain ⟨p, c, e, hr, hc⟩ := h.at_ i C x h1 h2
    exact ⟨p, c, e, hr.grown g (by simp), hc⟩⟩
set_option maxRecDepth 100000 in
set_option maxHeartbeats 1600000 in
theorem tidxC_any (g : Nat) (lb : Array Value) (P : List Int → Bool) (eg : EnterF g) (Cs : List (List Int)) (vals : List Value) (p : Option Addr) (c : Nat) (q : Nat → Prop) (w : World) (hR : CL w q p c Cs vals)
    (hP : ∀ (C : List Int) (x : Value) (w' : World), w.grownBy w' none → CC w' q x C → Calls Try.prog g (#[x] ++ lb) w' fun e w2 => e = .returned (.bool (P C)) ∧ w'.grownBy w2 none) :
    Calls Try.prog 102 #[.slice p Cs.length c, .func (.func g) #[] lb] w fun e w' => ∃ i : Int, e = .returned (.int .i64 i) ∧ decide (0 ≤ i) = Cs.any P ∧ w.grownBy w' none := by
  have HR := Lib.hid hR
  have HP := Lib.hid hP
  have hm := Nat.le_trans hR.cap.1 hR.cap.2
  clear hR hP
  go_enter Try.func102, Try.ntmps102
  go_wp2_with fail
  go_loopw [8] (fun a wr => ∃ k : Nat, k ≤ Cs.length ∧ a = .int .i64 (k : Int) ∧ Hid (w.grownBy wr none) ∧ Hid ((Cs.take k).any P = false)) (fun a _ => Cs.length - (intOf a).toNat)
  case atStart => exact ⟨0, Nat.zero_le _, rfl, Lib.hid (grown_refl _ _), Lib.hid rfl⟩
  case round =>
    obtain ⟨k, hk, rfl, G, HN⟩ := hrel
    by_cases hlt : k < Cs.length
    · have hCL := HR.out.keep G.out
      have hvl := hCL.len
      obtain ⟨-, b, off, rfl, hq, hc⟩ := rdv_cells hCL.rd (by omega)
      obtain ⟨C, hx⟩ : ∃ x, Cs[k]? = some x := ⟨_, List.getElem?_eq_getElem hlt⟩
      obtain ⟨x, hv⟩ : ∃ x, vals[k]? = some x := ⟨_, List.getElem?_eq_getElem (by omega)⟩
      have hcc := hCL.at_ k C x hx hv
      have hcall := HP.out C x wr G.out hcc
      obtain ⟨p', c', rfl, -, -⟩ := hcc
      have a0 := hc k _ hv
      have HX := Lib.hid hx
      clear hc hx hv hCL hvl
      cases hp : P C
      · rw [hp] at hcall
        have HY := Lib.hid hp
        clear hp
        go_wp2_with (go_at_fn g; refine hcall.mono ?_; rintro e w' ⟨rfl, hg⟩; have HG := Lib.hid (grown_trans G.out hg); clear hg)
        exact ⟨⟨k + 1, by omega, congrArg _ (by omega), HG, Lib.hid (any_take HN.out HX.out HY.out)⟩, by simp only [intOf]; omega⟩
      · rw [hp] at hcall
        have HY := Lib.hid hp
        clear hp
        go_wp2_with (go_at_fn g; refine hcall.mono ?_; rintro e w' ⟨rfl, hg⟩; have HG := Lib.hid (grown_trans G.out hg); clear hg)
        go_ret
        refine ⟨_, rfl, ?_, HG.out⟩
        rw [any_at HX.out HY.out, decide_eq_true_eq]; omega
    · obtain rfl : k = Cs.length := by omega
      go_wp2_with fail
      go_ret
      refine ⟨_, rfl, ?_, G.out⟩
      rw [any_end HN.out (Nat.le_refl _)]; decide
set_option maxRecDepth 100000 in
set_option maxHeartbeats 1600000 in
theorem tcontC_any (g : Nat) (lb : Array Value) (P : List Int → Bool) (eg : EnterF g) (Cs : List (List Int)) (vals : List Value) (p : Option Addr) (c : Nat) (q : Nat → Prop) (w : World) (hR : CL w q p c Cs vals)
    (hP : ∀ (C : List Int) (x : Value) (w' : World), w.grownBy w' none → CC w' q x C → Calls Try.prog g (#[x] ++ lb) w' fun e w2 => e = .returned (.bool (P C)) ∧ w'.grownBy w2 none) :
    Calls Try.prog 86 #[.slice p Cs.length c, .func (.func g) #[] lb] w fun e w' => e = .returned (.bool (Cs.any P)) ∧ w.grownBy w' none := by
  have HR := Lib.hid hR
  have HP := Lib.hid hP
  clear hR hP
  go_enter Try.func86, Try.ntmps86
  go_wp2_with (go_at_call 102; refine (tidxC_any g lb P eg Cs vals p c q w HR.out HP.out).mono ?_; rintro e w' ⟨i, rfl, hi, hg⟩; have HI := Lib.hid (And.intro hi hg); clear hi hg)
  go_ret
  rw [← HI.out.1]
  exact ⟨rfl, HI.out.2⟩
def both (a b : Int) (C : List Int) : Bool := hasI C a && hasI C b
set_option maxRecDepth 100000 in
set_option maxHeartbeats 1600000 in
theorem tconn1_any (C : List Int) (x : Value) (a b : Int) (A B : Nat) (q : Nat → Prop) (w : World) (hA : w.cell? ⟨A, 0, none⟩ = some (.int .i64 a)) (hB : w.cell? ⟨B, 0, none⟩ = some (.int .i64 b)) (hC : CC w q x C) :
    Calls Try.prog 87 #[x, .pointer (some ⟨A, 0, none⟩), .pointer (some ⟨B, 0, none⟩)] w fun e w' => e = .returned (.bool (both a b C)) ∧ w.grownBy w' none := by
  obtain ⟨p, c, rfl, hR, hc⟩ := hC
  have HR := Lib.hid hR
  have hm := Nat.le_trans hc.1 hc.2
  clear hR hc
  go_enter Try.func87, Try.ntmps87
  cases h1 : hasI C a
  · have HB : Hid (both a b C = false) := Lib.hid (by unfold both; rw [h1]; rfl)
    go_wp2_with (go_at_call 75; refine (tcint_any C a p c _ _ HR.out hm).mono ?_; rw [h1]; rintro e w' ⟨rfl, rfl⟩)
    go_ret
    rw [HB.out]
    exact ⟨rfl, grown_refl _ _⟩
  · have HB : Hid (both a b C = hasI C b) := Lib.hid (by unfold both; rw [h1]; rfl)
    go_wp2_with (first | (go_at_call 75; refine (tcint_any C a p c _ _ HR.out hm).mono ?_; rw [h1]; rintro e w' ⟨rfl, rfl⟩) | (go_at_call 75; refine (tcint_any C b p c _ _ HR.out hm).mono ?_; rintro e w' ⟨rfl, rfl⟩))
    go_ret
    rw [HB.out]
    exact ⟨rfl, grown_refl _ _⟩
/-- Whether two routers are connected. -/
def conn (R : List Rt) (L : List Lk) (a b : Int) : Bool := (comps R L).any (both a b)
set_option maxRecDepth 100000 in
set_option maxHeartbeats 3200000 in
theorem tconn_any (T : Tg) (a b : Int) (q : Nat → Prop) (w : World) (hT : TgOk w q T) (h12 : okT T.R T.L = true → T.R.length ≤ 12) :
    Calls Try.prog 39 #[.agg #[.slice T.pR T.R.length T.cR, .slice T.pL T.L.length T.cL], .int .i64 a, .int .i64 b] w fun e w' => e = .returned (.bool (conn T.R T.L a b)) ∧ w.grownBy w' none := by
  have e0 : EnterF (87) := enters_of Try.func87 (by kernel_rfl) rfl
  have hmf : ∀ (fn : Fn) (first cap : Array Value) (w : World), (Instr.makeFunc fn first cap).run Try.prog w = .ok (.func fn first cap) w := fun _ _ _ _ => rfl
  obtain ⟨R, L, pR, cR, pL, cL⟩ := T
  obtain ⟨wb, hwb, b1, b2, b3, b4, b5⟩ := boxes3 w #[.slice pR R.length cR, .slice pL L.length cL] #[.int .i64 a] #[.int .i64 b] 26 3 3
  have HT := Lib.hid (hT.keep b4)
  have HB := Lib.hid (And.intro b2 (And.intro b3 b4))
  simp only at h12 ⊢
  clear hT b4
  go_enter Try.func39, Try.ntmps39
  go_upto_region 1 with fail
  rw [← hwb]
  obtain ⟨c0, c1⟩ := row_cells b1
  clear hwb b1 b2 b3 b5
  go_wp2_with fail
  refine (tcomps_any ⟨R, L, pR, cR, pL, cL⟩ _ wb HT.out h12).mono ?_
  rintro e w1 ⟨p, c, vals, rfl, hr, hl, hcp, hat, hg⟩
  have HC := Lib.hid (CL.mk hr hl hcp hat)
  have HG := Lib.hid hg
  clear hr hl hcp hat hg c0 c1
  go_wp2_with fail
  refine (tcontC_any (87) #[.pointer (some ⟨w.heap.size + 1, 0, none⟩), .pointer (some ⟨w.heap.size + 1 + 1, 0, none⟩)] (both a b) e0 (comps R L) vals p c _ w1 HC.out (fun C x w' hg hcc => tconn1_any C x a b (w.heap.size + 1) (w.heap.size + 1 + 1) _ w' ?_ ?_ hcc)).mono ?_
  · have := kept_row HB.out.1 (grown_trans HG.out hg) (by simp)
    rw [cell_of_row _ _ _ _ _ _ this]; rfl
  · have := kept_row HB.out.2.1 (grown_trans HG.out hg) (by simp)
    rw [show w.heap.size + 1 + 1 = w.heap.size + 2 from rfl, cell_of_row _ _ _ _ _ _ this]; rfl
  rintro e w2 ⟨rfl, hg2⟩
  have HG2 := Lib.hid hg2
  clear hg2
  go_wp2_with fail
  go_ret
  exact ⟨rfl, grown_trans HB.out.2.2 (grown_trans HG.out HG2.out)⟩
end Go.Proofs.Ytiencdgmnkphjaa

/- topology: Bridges. -/
namespace Go.Proofs.Ytiencdgmnkphjaa
open Go.RowKit Bs
/-- Without the hop of a link. -/
def brF (l : Lk) : Fl := ⟨[⟨l.a, l.b⟩], [], none, 0, none, 0⟩
def isBr (R : List Rt) (L : List Lk) (l : Lk) : Bool := !conn (woR (brF l) R) (woL (brF l) L) l.a l.b
def hopOf (l : Lk) : Hp := ⟨l.a, l.b⟩
def bridges (R : List Rt) (L : List Lk) : List Hp := if okT R L then (L.filter (isBr R L)).map hopOf else []
theorem bri_take {R : List Rt} {L : List Lk} {k : Nat} {x : Lk} (h : L[k]? = some x) : ((L.take (k + 1)).filter (isBr R L)).map hopOf = ((L.take k).filter (isBr R L)).map hopOf ++ (if isBr R L x then [hopOf x] else []) := by
  rw [filter_snoc h, List.map_append]
  split <;> rfl
/-- While bridges are found. -/
structure BM (w0 : World) (R : List Rt) (L : List Lk) (pR : Option Addr) (cR : Nat) (pL : Option Addr) (cL : Nat) (Hs : List Hp) (va : Value) (w : World) : Prop where
  topo : w.heap[w0.heap.size]? = some (.cells #[.slice pR R.length cR, .slice pL L.length cL] 26 (0, 0))
  ok : TgOk w (· < w0.heap.size) ⟨R, L, pR, cR, pL, cL⟩
  own : w.ownsRow (w0.heap.size + 1) 70 2 va Hs.length (Hs.flatMap hpC)
  size : w0.heap.size + 1 ≤ w.heap.size
  gr : w0.grownBy w none
theorem BM.keep {w0 w w' : World} {R : List Rt} {L : List Lk} {pR pL : Option Addr} {cR cL : Nat} {Hs : List Hp} {va : Value} (h : BM w0 R L pR cR pL cL Hs va w) (g : w.grownBy w' none) : BM w0 R L pR cR pL cL Hs va w' :=
  ⟨kept_row h.topo g (by simp), h.ok.keep g, h.own.kept g (by cases hv : va.ownBlock <;> simp), Nat.le_trans h.size g.size, grown_trans h.gr g⟩
theorem BM.app {w0 w w1 : World} {R : List Rt} {L : List Lk} {pR pL : Option Addr} {cR cL : Nat} {Hs : List Hp} {va v' : Value} {x : Hp} {o : Obj} (h : BM w0 R L pR cR pL cL Hs va w)
    (hown : w1.ownsRow (w0.heap.size + 1) 70 2 v' (Hs.length + 1) (Hs.flatMap hpC ++ [.int .i64 x.f, .int .i64 x.t])) (hg : (w.alloc o).grownBy w1 va.ownBlock) : BM w0 R L pR cR pL cL (Hs ++ [x]) v' w1 := by
  have k0 := World.grownBy_alloc w o none
  have hne : ∀ b, b < w0.heap.size + 1 → some b ≠ va.ownBlock := fun b hb e => by
    have := (h.own.lt b e.symm).1
    omega
  have hk := h.keep k0
  refine ⟨kept_row hk.topo hg (hne _ (by omega)), hk.ok.grown hg (fun b hb => hne b (by omega)), ?_, Nat.le_trans hk.size hg.size, grown_any hk.gr hg (fun b hb => hne b (by omega))⟩
  rw [List.length_append, List.flatMap_append]
  exact hown
/-- What returns hops that can be read. -/
def THPost (Hs : List Hp) (w : World) (e : Ending) (w' : World) : Prop := ∃ p c, e = .returned (.slice p Hs.length c) ∧ RdH w' (w.heap.size ≤ ·) (.slice p Hs.length c) Hs ∧ (Hs.length ≤ c ∧ c ≤ 9223372036854775807) ∧ w.grownBy w' none
theorem BM.ret {w0 w : World} {R : List Rt} {L : List Lk} {pR pL : Option Addr} {cR cL : Nat} {Hs : List Hp} {va : Value} (h : BM w0 R L pR cR pL cL Hs va w) : THPost Hs w0 (.returned va) w := by
  obtain ⟨p, c, rfl, h1, h2⟩ := own_shape h.own
  exact ⟨p, c, rfl, (rdf_of_own2 h.own).mono (fun b hb => by have := hb.1; show _ ≤ b; omega), ⟨h1, h2⟩, h.gr⟩
theorem fl_one (w : World) (a b : Int) : FlOk (w.alloc (.cells #[.int .i64 a, .int .i64 b] 70)).drew (fun _ => True) ⟨[⟨a, b⟩], [], some ⟨w.heap.size, 0, none⟩, 1, none, 0⟩ := by
  have h0 : (w.alloc (.cells #[.int .i64 a, .int .i64 b] 70)).drew.heap[w.heap.size]? = some (.cells #[.int .i64 a, .int .i64 b] 70 (0, 0)) := heap_alloc_new w _
  obtain ⟨c0, c1⟩ := row_cells h0
  refine ⟨⟨some ⟨w.heap.size, 0, none⟩, 1, rfl, fun _ => ⟨w.heap.size, 0, rfl, trivial, fun i x hi => ?_⟩⟩, ⟨none, 0, rfl, fun h => absurd rfl h⟩, ⟨Nat.le_refl _, by show 1 ≤ _; omega⟩, ⟨Nat.le_refl _, by show 0 ≤ _; omega⟩⟩
  match i, hi with
  | 0, hi =>
    obtain rfl : Value.int .i64 a = x := by simpa [hpC] using hi
    exact c0
  | 1, hi =>
    obtain rfl : Value.int .i64 b = x := by simpa [hpC] using hi
    exact c1
theorem twb_any {R : List Rt} {L : List Lk} (hv : okT R L = true) (x : Lk) (pR pL : Option Addr) (cR cL g : Nat) (q q2 : Nat → Prop) (w : World) (hT : TgOk w q ⟨R, L, pR, cR, pL, cL⟩) (hF : FlOk w q2 ⟨[⟨x.a, x.b⟩], [], some ⟨g, 0, none⟩, 1, none, 0⟩) :
    Calls Try.prog 31 #[.agg #[.slice pR R.length cR, .slice pL L.length cL], .agg #[.slice (some ⟨g, 0, none⟩) 1 1, .slice none 0 0]] w fun e w' => TWPost (woR (brF x) R) (woL (brF x) L) w e w' := by
  have h := twithout_any ⟨R, L, pR, cR, pL, cL⟩ _ q q2 w hT hF
  simp only [hv, if_true] at h
  exact h
theorem tcb_any {R : List Rt} {L : List Lk} (x : Lk) (pR pL : Option Addr) (cR cL : Nat) (q : Nat → Prop) (w : World) (h12 : R.length ≤ 12) (hT : TgOk w q ⟨woR (brF x) R, woL (brF x) L, pR, cR, pL, cL⟩) :
    Calls Try.prog 39 #[.agg #[.slice pR (woR (brF x) R).length cR, .slice pL (woL (brF x) L).length cL], .int .i64 x.a, .int .i64 x.b] w fun e w' => ∃ B, e = .returned (.bool B) ∧ Hid (isBr R L x = !B) ∧ w.grownBy w' none := by
  refine (tconn_any ⟨woR (brF x) R, woL (brF x) L, pR, cR, pL, cL⟩ x.a x.b q w hT (fun _ => Nat.le_trans (List.length_filter_le _ _) h12)).mono ?_
  rintro e w' ⟨rfl, hg⟩
  exact ⟨_, rfl, Lib.hid rfl, hg⟩
set_option maxRecDepth 100000 in
theorem info_hop : (Try.prog.info? 70).map (fun i => (i.zero, i.size, i.bytes)) = some (some (.agg #[.int .i64 0, .int .i64 0]), 2, 16) := by kernel_rfl
set_option maxRecDepth 100000 in
set_option maxHeartbeats 6400000 in
theorem tbri_any (T : Tg) (q : Nat → Prop) (w : World) (hT : TgOk w q T) (h12 : okT T.R T.L = true → T.R.length ≤ 12) :
    Calls Try.prog 41 #[.agg #[.slice T.pR T.R.length T.cR, .slice T.pL T.L.length T.cL]] w fun e w' => THPost (bridges T.R T.L) w e w' := by
  obtain ⟨ii, hii, hi0, hi1, hi2⟩ := info_parts info_hop
  obtain ⟨R, L, pR, cR, pL, cL⟩ := T
  obtain ⟨k1, k2⟩ := tone_box w #[.slice pR R.length cR, .slice pL L.length cL] 26
  have S0 : Hid (BM w R L pR cR pL cL [] (.slice none 0 0) (w.alloc (.cells #[.slice pR R.length cR, .slice pL L.length cL] 26))) := Lib.hid ⟨k1, hT.old.keep k2, World.ownsRow_nil _ _ _ _, by simp, k2⟩
  have hmL := Nat.le_trans hT.cl.1 hT.cl.2
  simp only at h12 hmL ⊢
  clear hT k1 k2
  obtain ⟨Hr, hHr⟩ : ∃ Hr, bridges R L = Hr := ⟨_, rfl⟩
  rw [hHr]
  have HHR := Lib.hid hHr
  clear hHr
  go_enter Try.func41, Try.ntmps41
  go_upto_region 1 with fail
  generalize w.alloc _ = wa at *
  obtain ⟨c0, c1⟩ := row_cells S0.out.topo
  go_wp2_with fail
  refine (tvalid_any ⟨R, L, pR, cR, pL, cL⟩ _ wa S0.out.ok).mono ?_
  rintro e w1 ⟨rfl, hg⟩
  simp only
  have S1 := Lib.hid (S0.out.keep hg)
  clear hg S0 c0 c1
  cases hv : okT R L
  · obtain rfl : Hr = [] := by have := HHR.out; unfold bridges at this; rw [hv] at this; exact this.symm
    go_wp2_with fail
    go_ret
    exact ⟨none, 0, rfl, rdf_nil _ _ _ _, ⟨Nat.le_refl _, by show 0 ≤ _; omega⟩, S1.out.gr⟩
  have HV := Lib.hid hv
  obtain ⟨h24, h60⟩ := okT_len hv
  replace h12 := h12 hv
  have HH2 : Hid ((L.filter (isBr R L)).map hopOf = Hr) := Lib.hid (by have := HHR.out; unfold bridges at this; rw [hv] at this; exact this)
  clear hv HHR
  have M0 : Hid (BM w R L pR cR pL cL (((L.take 0).filter (isBr R L)).map hopOf) (.slice none 0 0) w1) := S1
  obtain ⟨c0, c1⟩ := row_cells S1.out.topo
  clear S1
  go_wp2_with fail
  go_loopw [3, 13] (fun va a wr => ∃ (k : Nat), k ≤ L.length ∧ a = .int .i64 (k : Int) ∧ Hid (BM w R L pR cR pL cL (((L.take k).filter (isBr R L)).map hopOf) va wr)) (fun _ a _ => L.length - (intOf a).toNat)
  case atStart => exact ⟨0, Nat.zero_le _, rfl, M0⟩
  case round =>
    obtain ⟨k, hk, rfl, M⟩ := hrel
    clear M0 c0 c1
    by_cases hlt : k < L.length
    · obtain ⟨-, b, off, rfl, hq, hc⟩ := rdl_cells (L := L) M.out.ok.l (by omega)
      obtain ⟨x, hx⟩ : ∃ x, L[k]? = some x := ⟨_, List.getElem?_eq_getElem hlt⟩
      obtain ⟨a0, a1, a2, a3, a4⟩ := hc k x hx
      have HK := Lib.hid (bri_take (R := R) hx)
      have hln : ((((L.take k).filter (isBr R L)).map hopOf)).length ≤ 60 := by
        rw [List.length_map]
        have := List.length_filter_le (isBr R L) (L.take k)
        have := List.length_take_le k L
        omega
      have gal := World.grownBy_alloc wr (.cells #[.int .i64 x.a, .int .i64 x.b, .int .i64 x.ca, .int .i64 x.cb, .int .i64 x.cp] 68) none
      have hbx := heap_alloc_new wr (.cells #[.int .i64 x.a, .int .i64 x.b, .int .i64 x.ca, .int .i64 x.cb, .int .i64 x.cp] 68)
      have M2 := Lib.hid (M.out.keep gal)
      clear hc hx gal M
      obtain ⟨Hs, hHs⟩ : ∃ Hs, (((L.take k).filter (isBr R L)).map hopOf) = Hs := ⟨_, rfl⟩
      rw [hHs] at M2 HK hln
      clear hHs
      go_upto_region 7 with fail
      clear a0 a1 a2 a3 a4
      generalize wr.alloc _ = wy at *
      obtain ⟨d0, d1, d2, d3, d4⟩ := lk_facts hbx
      have gal := World.grownBy_alloc wy (.cells #[.int .i64 x.a, .int .i64 x.b] 70) none
      have hbh := heap_alloc_new wy (.cells #[.int .i64 x.a, .int .i64 x.b] 70)
      have hbx2 := kept_row hbx gal (by simp)
      have M3 := Lib.hid (M2.out.keep gal)
      have HZ := Lib.hid (And.intro M3.out.topo (And.intro hbx2 (And.intro hbh M3.out.ok)))
      clear gal hbh hbx hbx2 M2
      go_upto_region 8 with fail
      clear d0 d1 d2 d3 d4
      generalize wy.alloc _ = wz at *
      refine wp_region_held_drew (S := fun w' => Hid (wz.grownBy w' none)) (by kernel_rfl) (Lib.hid (grown_drew (grown_refl _ _))) (fun hHeld => ?_)
      refine wpAnyH_take (i := 0) (oi := { dst := some 22, op := Op.load 26 (Operand.tmp 1), type := 26, pos := "topology.go:165", after := #[], guard := none }) (v := ?_) rfl (by kernel_rfl) (by kernel_rfl) (by kernel_rfl) (fun _ _ _ h => h) (Or.inl ⟨by rfl, ?_⟩) hHeld ?_
      rotate_left 1
      · intro u hSu
        obtain ⟨z0, z1⟩ := row_cells (kept_row HZ.out.1 hSu.out (by simp))
        obtain ⟨z2, z3, z4, z5, z6⟩ := lk_facts (kept_row HZ.out.2.1 hSu.out (by simp))
        obtain ⟨z7, z8⟩ := row_cells (kept_row HZ.out.2.2.1 hSu.out (by simp))
        go_simp
        first | done | with_reducible rfl
      (try simp only [Act.put, List.setIfInBounds_toArray, List.set_cons_zero, List.set_cons_succ])
      refine wpAnyH_take (i := 1) (oi := { dst := some 23, op := Op.load 70 (Operand.tmp 6), type := 70, pos := "topology.go:165", after := #[], guard := none }) (v := ?_) rfl (by kernel_rfl) (by kernel_rfl) (by kernel_rfl) (fun _ _ _ h => h) (Or.inl ⟨by rfl, ?_⟩) hHeld ?_
      rotate_left 1
      · intro u hSu
        obtain ⟨z0, z1⟩ := row_cells (kept_row HZ.out.1 hSu.out (by simp))
        obtain ⟨z2, z3, z4, z5, z6⟩ := lk_facts (kept_row HZ.out.2.1 hSu.out (by simp))
        obtain ⟨z7, z8⟩ := row_cells (kept_row HZ.out.2.2.1 hSu.out (by simp))
        go_simp
        first | done | with_reducible rfl
      (try simp only [Act.put, List.setIfInBounds_toArray, List.set_cons_zero, List.set_cons_succ])
      refine wpAnyH_take (i := 5) (oi := { dst := some 27, op := Op.fieldAddr 68 (Operand.tmp 5) 0, type := 0, pos := "topology.go:165", after := #[], guard := none }) (v := ?_) rfl (by kernel_rfl) (by kernel_rfl) (by kernel_rfl) (fun _ _ _ h => h) (Or.inl ⟨by rfl, ?_⟩) hHeld ?_
      rotate_left 1
      · intro u hSu
        obtain ⟨z0, z1⟩ := row_cells (kept_row HZ.out.1 hSu.out (by simp))
        obtain ⟨z2, z3, z4, z5, z6⟩ := lk_facts (kept_row HZ.out.2.1 hSu.out (by simp))
        obtain ⟨z7, z8⟩ := row_cells (kept_row HZ.out.2.2.1 hSu.out (by simp))
        go_simp
        first | done | with_reducible rfl
      (try simp only [Act.put, List.setIfInBounds_toArray, List.set_cons_zero, List.set_cons_succ])
      refine wpAnyH_take (i := 6) (oi := { dst := some 28, op := Op.load 3 (Operand.tmp 27), type := 3, pos := "topology.go:165", after := #[{ on := 5, ground := Ground.data }], guard := none }) (v := ?_) rfl (by kernel_rfl) (by kernel_rfl) (by kernel_rfl) (fun _ _ _ h => h) (Or.inl ⟨by rfl, ?_⟩) hHeld ?_
      rotate_left 1
      · intro u hSu
        obtain ⟨z0, z1⟩ := row_cells (kept_row HZ.out.1 hSu.out (by simp))
        obtain ⟨z2, z3, z4, z5, z6⟩ := lk_facts (kept_row HZ.out.2.1 hSu.out (by simp))
        obtain ⟨z7, z8⟩ := row_cells (kept_row HZ.out.2.2.1 hSu.out (by simp))
        go_simp
        first | done | with_reducible rfl
      (try simp only [Act.put, List.setIfInBounds_toArray, List.set_cons_zero, List.set_cons_succ])
      refine wpAnyH_take (i := 7) (oi := { dst := some 29, op := Op.fieldAddr 68 (Operand.tmp 5) 1, type := 0, pos := "topology.go:165", after := #[], guard := none }) (v := ?_) rfl (by kernel_rfl) (by kernel_rfl) (by kernel_rfl) (fun _ _ _ h => h) (Or.inl ⟨by rfl, ?_⟩) hHeld ?_
      rotate_left 1
      · intro u hSu
        obtain ⟨z0, z1⟩ := row_cells (kept_row HZ.out.1 hSu.out (by simp))
        obtain ⟨z2, z3, z4, z5, z6⟩ := lk_facts (kept_row HZ.out.2.1 hSu.out (by simp))
        obtain ⟨z7, z8⟩ := row_cells (kept_row HZ.out.2.2.1 hSu.out (by simp))
        go_simp
        first | done | with_reducible rfl
      (try simp only [Act.put, List.setIfInBounds_toArray, List.set_cons_zero, List.set_cons_succ])
      refine wpAnyH_take (i := 8) (oi := { dst := some 30, op := Op.load 3 (Operand.tmp 29), type := 3, pos := "topology.go:165", after := #[{ on := 7, ground := Ground.data }], guard := none }) (v := ?_) rfl (by kernel_rfl) (by kernel_rfl) (by kernel_rfl) (fun _ _ _ h => h) (Or.inl ⟨by rfl, ?_⟩) hHeld ?_
      rotate_left 1
      · intro u hSu
        obtain ⟨z0, z1⟩ := row_cells (kept_row HZ.out.1 hSu.out (by simp))
        obtain ⟨z2, z3, z4, z5, z6⟩ := lk_facts (kept_row HZ.out.2.1 hSu.out (by simp))
        obtain ⟨z7, z8⟩ := row_cells (kept_row HZ.out.2.2.1 hSu.out (by simp))
        go_simp
        first | done | with_reducible rfl
      (try simp only [Act.put, List.setIfInBounds_toArray, List.set_cons_zero, List.set_cons_succ])
      refine wpAnyH_ready (rs := [2]) (by kernel_rfl) (by simp) ?_
      refine AllReadyH.cons (o := { dst := some 24, op := Op.buildSlice 45 1 #[(0, Operand.tmp 23)], type := 45, pos := "topology.go:165", after := #[{ on := 1, ground := Ground.data }], guard := none }) rfl (fun K hK => ?_) AllReadyH.nil
      go_simp
      refine hK.out _ _ (hid_more hHeld (World.grownBy_alloc _ _ _)) (fun hH2 => ?_)
      clear hK K hHeld
      have hHeld := hH2
      clear hH2
      (try simp only [Act.put, List.setIfInBounds_toArray, List.set_cons_zero, List.set_cons_succ])
      refine wpAnyH_take (i := 3) (oi := { dst := some 25, op := Op.build 47 #[(0, Operand.tmp 24)], type := 47, pos := "topology.go:165", after := #[{ on := 2, ground := Ground.data }], guard := none }) (v := ?_) rfl (by kernel_rfl) (by kernel_rfl) (by kernel_rfl) (fun _ _ _ h => h) (Or.inl ⟨by rfl, ?_⟩) hHeld ?_
      rotate_left 1
      · intro u hSu
        obtain ⟨z0, z1⟩ := row_cells (kept_row HZ.out.1 hSu.out (by simp))
        obtain ⟨z2, z3, z4, z5, z6⟩ := lk_facts (kept_row HZ.out.2.1 hSu.out (by simp))
        obtain ⟨z7, z8⟩ := row_cells (kept_row HZ.out.2.2.1 hSu.out (by simp))
        go_simp
        first | done | with_reducible rfl
      (try simp only [Act.put, List.setIfInBounds_toArray, List.set_cons_zero, List.set_cons_succ])
      refine wpAnyH_ready (rs := [4]) (by kernel_rfl) (by simp) ?_
      refine AllReadyH.cons (o := { dst := some 26, op := Op.call { callee := Callee.value (Operand.func 31), args := #[Operand.tmp 22, Operand.tmp 25], argTypes := #[26, 47] }, type := 26, pos := "topology.go:165", after := #[{ on := 0, ground := Ground.data }, { on := 3, ground := Ground.data }], guard := none }) rfl (fun K hK => ?_) AllReadyH.nil
      go_simp
      go_at_call 31
      refine (twb_any HV.out x pR (some ⟨b, off, none⟩) cR cL wz.heap.size _ _ _ (HZ.out.2.2.2.keep hHeld.out) (fl_one wz x.a x.b)).mono ?_
      rintro e w2 ⟨pR2, cR2, pL2, cL2, rfl, hT2, hg2⟩
      have HT2 := Lib.hid hT2
      clear hT2
      refine hK.out _ _ (Lib.hid (grown_trans hHeld.out hg2)) (fun hH2 => ?_)
      clear hK K hHeld
      have hHeld := hH2
      clear hH2
      (try simp only [Act.put, List.setIfInBounds_toArray, List.set_cons_zero, List.set_cons_succ])
      refine wpAnyH_ready (rs := [9]) (by kernel_rfl) (by simp) ?_
      refine AllReadyH.cons (o := { dst := some 31, op := Op.call { callee := Callee.value (Operand.func 39), args := #[Operand.tmp 26, Operand.tmp 28, Operand.tmp 30], argTypes := #[26, 3, 3] }, type := 4, pos := "topology.go:165", after := #[{ on := 4, ground := Ground.data }, { on := 6, ground := Ground.data }, { on := 8, ground := Ground.data }, { on := 4, ground := Ground.chain }], guard := none }) rfl (fun K hK => ?_) AllReadyH.nil
      go_simp
      go_at_call 39
      refine (tcb_any x pR2 pL2 cR2 cL2 _ _ h12 HT2.out).mono ?_
      rintro e w3 ⟨B, rfl, hB, hg3⟩
      refine hK.out _ _ (Lib.hid (grown_trans hHeld.out hg3)) (fun hH2 => ?_)
      clear hK K hHeld
      have hHeld := hH2
      clear hH2
      (try simp only [Act.put, List.setIfInBounds_toArray, List.set_cons_zero, List.set_cons_succ])
      refine wpAnyH_take (i := 10) (oi := { dst := some 32, op := Op.unOp UnOp.not 4 (Operand.tmp 31), type := 4, pos := "topology.go:165", after := #[{ on := 9, ground := Ground.data }], guard := none }) (v := ?_) rfl (by kernel_rfl) (by kernel_rfl) (by kernel_rfl) (fun _ _ _ h => h) (Or.inl ⟨by rfl, ?_⟩) hHeld ?_
      rotate_left 1
      · intro u hSu
        obtain ⟨z0, z1⟩ := row_cells (kept_row HZ.out.1 hSu.out (by simp))
        obtain ⟨z2, z3, z4, z5, z6⟩ := lk_facts (kept_row HZ.out.2.1 hSu.out (by simp))
        obtain ⟨z7, z8⟩ := row_cells (kept_row HZ.out.2.2.1 hSu.out (by simp))
        go_simp
        first | done | with_reducible rfl
      (try simp only [Act.put, List.setIfInBounds_toArray, List.set_cons_zero, List.set_cons_succ])
      refine wpAnyH_done (by kernel_rfl) ?_ _
      have M4 := Lib.hid (M3.out.keep hHeld.out)
      obtain ⟨z7, z8⟩ := row_cells (kept_row HZ.out.2.2.1 hHeld.out (by simp))
      clear M3 HZ HT2 hHeld
      cases B
      · have HB : Hid (((L.take (k + 1)).filter (isBr R L)).map hopOf = Hs ++ [hopOf x]) := Lib.hid (by rw [HK.out, hB.out]; rfl)
        have hown := M4.out.own
        have hsz4 := M4.out.size
        go_wp2_with (at_builtin; refine wpList_append_own _ rfl _ _ 45 rfl (w.heap.size + 1) 70 ii (.agg #[.int .i64 0, .int .i64 0]) 2 16 Try.underlying45 hii hi0 hi1 hi2 rfl (by decide) _ _ _ rfl (hown.alloc _) ⟨w3.heap.size, 0, none⟩ 1 1 [.int .i64 x.a, .int .i64 x.b] rfl rfl ?c1 ?c2 ?c3 ?c4 ?c5 ?_)
        try (case c1 => exact cells2 _ _ _ _)
        case c2 => intro u hu; simp at hu; rcases hu with rfl | rfl <;> rfl
        case c3 => first | omega | (unfold maxLen; omega)
        case c4 => omega
        case c5 => first | omega | (simp; omega)
        intro v' w4 hown' hg _
        have M5 := Lib.hid (M4.out.app (x := hopOf x) hown' hg)
        clear hown' hg hown z7 z8
        go_wp2_with fail
        refine ⟨⟨k + 1, by omega, congrArg _ (by omega), Lib.hid ?_⟩, by simp only [intOf]; omega⟩
        rw [HB.out]
        exact M5.out
      · have HB : Hid (((L.take (k + 1)).filter (isBr R L)).map hopOf = Hs) := Lib.hid (by rw [HK.out, hB.out]; simp)
        go_wp2_with fail
        refine ⟨⟨k + 1, by omega, congrArg _ (by omega), Lib.hid ?_⟩, by simp only [intOf]; omega⟩
        rw [HB.out]
        exact M4.out

    · obtain rfl : k = L.length := by omega
      go_wp2_with fail
      go_ret
      have hM := M.out
      rw [List.take_length, HH2.out] at hM
      exact hM.ret
end Go.Proofs.Ytiencdgmnkphjaa

/- topology: Cuts. -/
namespace Go.Proofs.Ytiencdgmnkphjaa
open Go.RowKit Bs
/-- Without a router. -/
def cutF (r : Rt) : Fl := ⟨[], [r.id], none, 0, none, 0⟩
def isCut (R : List Rt) (L : List Lk) (r : Rt) : Bool := decide ((comps R L).length < (comps (woR (cutF r) R) (woL (cutF r) L)).length)
def cuts (R : List Rt) (L : List Lk) : List Int := if okT R L then (R.filter (isCut R L)).map Rt.id else []
theorem cut_take {R : List Rt} {L : List Lk} {k : Nat} {x : Rt} (h : R[k]? = some x) : ((R.take (k + 1)).filter (isCut R L)).map Rt.id = ((R.take k).filter (isCut R L)).map Rt.id ++ (if isCut R L x then [x.id] else []) := by
  rw [filter_snoc h, List.map_append]
  split <;> rfl
/-- While cuts are found. -/
structure CUM (w0 : World) (R : List Rt) (L : List Lk) (pR : Option Addr) (cR : Nat) (pL : Option Addr) (cL : Nat) (Xs : List Int) (va : Value) (w : World) : Prop where
  topo : w.heap[w0.heap.size]? = some (.cells #[.slice pR R.length cR, .slice pL L.length cL] 26 (0, 0))
  ok : TgOk w (· < w0.heap.size) ⟨R, L, pR, cR, pL, cL⟩
  own : w.ownsRow (w0.heap.size + 1) 3 1 va Xs.length (Xs.map tv)
  size : w0.heap.size + 1 ≤ w.heap.size
  gr : w0.grownBy w none
theorem CUM.keep {w0 w w' : World} {R : List Rt} {L : List Lk} {pR pL : Option Addr} {cR cL : Nat} {Xs : List Int} {va : Value} (h : CUM w0 R L pR cR pL cL Xs va w) (g : w.grownBy w' none) : CUM w0 R L pR cR pL cL Xs va w' :=
  ⟨kept_row h.topo g (by simp), h.ok.keep g, h.own.kept g (by cases hv : va.ownBlock <;> simp), Nat.le_trans h.size g.size, grown_trans h.gr g⟩
theorem CUM.app {w0 w w1 : World} {R : List Rt} {L : List Lk} {pR pL : Option Addr} {cR cL : Nat} {Xs : List Int} {va v' : Value} {x : Int} {o : Obj} (h : CUM w0 R L pR cR pL cL Xs va w)
    (hown : w1.ownsRow (w0.heap.size + 1) 3 1 v' (Xs.length + 1) (Xs.map tv ++ [.int .i64 x])) (hg : (w.alloc o).grownBy w1 va.ownBlock) : CUM w0 R L pR cR pL cL (Xs ++ [x]) v' w1 := by
  have k0 := World.grownBy_alloc w o none
  have hne : ∀ b, b < w0.heap.size + 1 → some b ≠ va.ownBlock := fun b hb e => by
    have := (h.own.lt b e.symm).1
    omega
  have hk := h.keep k0
  refine ⟨kept_row hk.topo hg (hne _ (by omega)), hk.ok.grown hg (fun b hb => hne b (by omega)), ?_, Nat.le_trans hk.size hg.size, grown_any hk.gr hg (fun b hb => hne b (by omega))⟩
  rw [List.length_append, List.map_append]
  exact hown
theorem CUM.ret {w0 w : World} {R : List Rt} {L : List Lk} {pR pL : Option Addr} {cR cL : Nat} {Xs : List Int} {va : Value} (h : CUM w0 R L pR cR pL cL Xs va w) : TRet Xs w0 (.returned va) w := by
  have hr := rd_of_own h.own
  rcases Joins.ownsRow_forms h.own with ⟨e, e0⟩ | ⟨g, cap, e⟩
  · subst e
    obtain rfl := List.eq_nil_of_length_eq_zero e0
    exact ⟨none, 0, rfl, hr.mono (fun b hb => by show _ ≤ b; omega), ⟨Nat.le_refl _, by omega⟩, fun _ => rfl, h.gr⟩
  · subst e
    have := own_cap h.own
    unfold maxLen at this
    exact ⟨_, cap, rfl, hr.mono (fun b hb => by show _ ≤ b; omega), ⟨this.1, by omega⟩, (fun e => by cases e), h.gr⟩
theorem fl_oneX (w : World) (a : Int) : FlOk (w.alloc (.cells #[.int .i64 a] 3)) (fun _ => True) ⟨[], [a], none, 0, some ⟨w.heap.size, 0, none⟩, 1⟩ := by
  have h0 : (w.alloc (.cells #[.int .i64 a] 3)).heap[w.heap.size]? = some (.cells #[.int .i64 a] 3 (0, 0)) := heap_alloc_new w _
  refine ⟨⟨none, 0, rfl, fun h => absurd rfl h⟩, ⟨some ⟨w.heap.size, 0, none⟩, 1, rfl, fun _ => ⟨w.heap.size, 0, rfl, trivial, fun i x hi => ?_⟩⟩, ⟨Nat.le_refl _, by show 0 ≤ _; omega⟩, ⟨Nat.le_refl _, by show 1 ≤ _; omega⟩⟩
  match i, hi with
  | 0, hi =>
    obtain rfl : tv a = x := by simpa using hi
    rw [cell_of_row _ _ _ _ _ _ h0]; rfl
theorem twc_any {R : List Rt} {L : List Lk} (hv : okT R L = true) (x : Rt) (pR pL : Option Addr) (cR cL g : Nat) (q q2 : Nat → Prop) (w : World) (n : Int) (hn : x.id = n) (hT : TgOk w q ⟨R, L, pR, cR, pL, cL⟩) (hF : FlOk w q2 ⟨[], [n], none, 0, some ⟨g, 0, none⟩, 1⟩) :
    Calls Try.prog 31 #[.agg #[.slice pR R.length cR, .slice pL L.length cL], .agg #[.slice none 0 0, .slice (some ⟨g, 0, none⟩) 1 1]] w fun e w' => TWPost (woR (cutF x) R) (woL (cutF x) L) w e w' := by
  subst hn
  have h := twithout_any ⟨R, L, pR, cR, pL, cL⟩ _ q q2 w hT hF
  simp only [hv, if_true] at h
  exact h
set_option maxRecDepth 100000 in
set_option maxHeartbeats 6400000 in
theorem tcuts_any (T : Tg) (q : Nat → Prop) (w : World) (hT : TgOk w q T) (h12 : okT T.R T.L = true → T.R.length ≤ 12) :
    Calls Try.prog 42 #[.agg #[.slice T.pR T.R.length T.cR, .slice T.pL T.L.length T.cL]] w fun e w' => TRet (cuts T.R T.L) w e w' := by
  obtain ⟨ii, hii, hi0, hi1, hi2⟩ := info_parts info_int
  obtain ⟨R, L, pR, cR, pL, cL⟩ := T
  obtain ⟨k1, k2⟩ := tone_box w #[.slice pR R.length cR, .slice pL L.length cL] 26
  have S0 : Hid (CUM w R L pR cR pL cL [] (.slice none 0 0) (w.alloc (.cells #[.slice pR R.length cR, .slice pL L.length cL] 26))) := Lib.hid ⟨k1, hT.old.keep k2, World.ownsRow_nil _ _ _ _, by simp, k2⟩
  have hmR := Nat.le_trans hT.cr.1 hT.cr.2
  simp only at h12 hmR ⊢
  clear hT k1 k2
  obtain ⟨Xr, hXr⟩ : ∃ Xr, cuts R L = Xr := ⟨_, rfl⟩
  rw [hXr]
  have HXR := Lib.hid hXr
  clear hXr
  go_enter Try.func42, Try.ntmps42
  go_upto_region 1 with fail
  generalize w.alloc _ = wa at *
  obtain ⟨c0, c1⟩ := row_cells S0.out.topo
  go_wp2_with fail
  refine (tvalid_any ⟨R, L, pR, cR, pL, cL⟩ _ wa S0.out.ok).mono ?_
  rintro e w1 ⟨rfl, hg⟩
  simp only
  have S1 := Lib.hid (S0.out.keep hg)
  clear hg S0 c0 c1
  cases hv : okT R L
  · obtain rfl : Xr = [] := by have := HXR.out; unfold cuts at this; rw [hv] at this; exact this.symm
    go_wp2_with fail
    go_ret
    exact ⟨none, 0, rfl, ⟨none, 0, rfl, fun h => absurd rfl h⟩, ⟨Nat.le_refl _, by show 0 ≤ _; omega⟩, fun _ => rfl, S1.out.gr⟩
  have HV := Lib.hid hv
  obtain ⟨h24, h60⟩ := okT_len hv
  replace h12 := h12 hv
  have HH2 : Hid ((R.filter (isCut R L)).map Rt.id = Xr) := Lib.hid (by have := HXR.out; unfold cuts at this; rw [hv] at this; exact this)
  clear hv HXR
  obtain ⟨c0, c1⟩ := row_cells S1.out.topo
  go_wp2_with fail
  refine (tcomps_any ⟨R, L, pR, cR, pL, cL⟩ _ w1 S1.out.ok (fun _ => h12)).mono ?_
  rintro e w2 ⟨pC, cC, valsC, rfl, -, -, -, -, hg⟩
  have M0 : Hid (CUM w R L pR cR pL cL (((R.take 0).filter (isCut R L)).map Rt.id) (.slice none 0 0) w2) := Lib.hid (S1.out.keep hg)
  clear hg S1 c0 c1
  obtain ⟨N, hN⟩ : ∃ N, (comps R L).length = N := ⟨_, rfl⟩
  simp only
  try rw [hN]
  have HN := Lib.hid hN
  clear hN
  obtain ⟨c0, c1⟩ := row_cells M0.out.topo
  go_wp2_with fail
  go_loopw [3, 16] (fun va a wr => ∃ (k : Nat), k ≤ R.length ∧ a = .int .i64 (k : Int) ∧ Hid (CUM w R L pR cR pL cL (((R.take k).filter (isCut R L)).map Rt.id) va wr)) (fun _ a _ => R.length - (intOf a).toNat)
  case atStart => exact ⟨0, Nat.zero_le _, rfl, M0⟩
  case round =>
    obtain ⟨k, hk, rfl, M⟩ := hrel
    clear M0 c0 c1
    by_cases hlt : k < R.length
    · obtain ⟨-, b, off, rfl, hq, hc⟩ := rdr_cells (R := R) M.out.ok.r (by omega)
      obtain ⟨x, hx⟩ : ∃ x, R[k]? = some x := ⟨_, List.getElem?_eq_getElem hlt⟩
      obtain ⟨a0, a1⟩ := hc k x hx
      have HK := Lib.hid (cut_take (L := L) hx)
      have hln : ((((R.take k).filter (isCut R L)).map Rt.id)).length ≤ 24 := by
        rw [List.length_map]
        have := List.length_filter_le (isCut R L) (R.take k)
        have := List.length_take_le k R
        omega
      have gal := World.grownBy_alloc wr (.cells #[.int .i64 x.id, .bool x.cap] 73) none
      have hbx := heap_alloc_new wr (.cells #[.int .i64 x.id, .bool x.cap] 73)
      have M2 := Lib.hid (M.out.keep gal)
      clear hc hx gal M
      obtain ⟨Xs, hXs⟩ : ∃ Xs, (((R.take k).filter (isCut R L)).map Rt.id) = Xs := ⟨_, rfl⟩
      rw [hXs] at M2 HK hln
      clear hXs
      go_upto_region 8 with fail
      clear a0 a1
      generalize wr.alloc _ = wy at *
      obtain ⟨d0, d1⟩ := row_cells hbx
      obtain ⟨c0, c1⟩ := row_cells M2.out.topo
      have HBX := Lib.hid hbx
      have gal := World.grownBy_alloc wy (.cells #[.int .i64 x.id] 3) none
      have hT2 := M2.out.ok.keep gal
      have hF2 := fl_oneX wy x.id
      have HTF := Lib.hid (And.intro hT2 (And.intro hF2 gal))
      clear hbx gal hT2 hF2
      go_wp2_with fail
      refine (twc_any HV.out x (some ⟨b, off, none⟩) pL cR cL wy.heap.size _ _ _ x.id rfl HTF.out.1 HTF.out.2.1).mono ?_
      rintro e w3 ⟨pR2, cR2, pL2, cL2, rfl, hT3, hg3⟩
      have HT3 := Lib.hid hT3
      have M3 := Lib.hid (M2.out.keep (grown_trans HTF.out.2.2 hg3))
      have HBX3 := Lib.hid (kept_row HBX.out (grown_trans HTF.out.2.2 hg3) (by simp))
      clear hT3 hg3 HTF M2 HBX c0 c1 d0 d1
      go_wp2_with fail
      refine (tcomps_any ⟨woR (cutF x) R, woL (cutF x) L, pR2, cR2, pL2, cL2⟩ _ w3 HT3.out (fun _ => Nat.le_trans (List.length_filter_le _ _) h12)).mono ?_
      rintro e w4 ⟨pC2, cC2, vals2, rfl, -, -, hcap2, -, hg4⟩
      obtain ⟨N2, hN2⟩ : ∃ N2, (comps (woR (cutF x) R) (woL (cutF x) L)).length = N2 := ⟨_, rfl⟩
      simp only at hcap2 ⊢
      rw [hN2] at hcap2 ⊢
      have HC : Hid (isCut R L x = decide (N < N2)) := Lib.hid (by unfold isCut; rw [HN.out, hN2])
      have M4 := Lib.hid (M3.out.keep hg4)
      have HBX4 := Lib.hid (kept_row HBX3.out hg4 (by simp))
      obtain ⟨d0, d1⟩ := row_cells HBX4.out
      have hown := M4.out.own
      have hsz4 := M4.out.size
      clear hg4 M3 HBX3 HT3 hN2
      by_cases hlt2 : N < N2
      · have HB : Hid (((R.take (k + 1)).filter (isCut R L)).map Rt.id = Xs ++ [x.id]) := Lib.hid (by rw [HK.out, HC.out, decide_eq_true hlt2]; rfl)
        go_wp2_with (at_builtin; refine wpList_append_own _ rfl _ _ 22 rfl (w.heap.size + 1) 3 ii (.int .i64 0) 1 8 Try.underlying22 hii hi0 hi1 hi2 rfl (by decide) _ _ _ rfl (hown.alloc _) ⟨w4.heap.size, 0, none⟩ 1 1 [.int .i64 x.id] rfl rfl ?c1 ?c2 ?c3 ?c4 ?c5 ?_)
        try (case c1 => exact cell_one _ _ _)
        case c2 => first | rfl | (intro u hu; simp at hu; subst hu; rfl)
        case c3 => first | omega | (unfold maxLen; omega)
        case c4 => omega
        case c5 => first | omega | (simp; omega)
        intro v' w5 hown' hg _
        have M5 := Lib.hid (M4.out.app (x := x.id) hown' hg)
        clear hown' hg hown d0 d1
        go_wp2_with fail
        refine ⟨⟨k + 1, by omega, congrArg _ (by omega), Lib.hid ?_⟩, by simp only [intOf]; omega⟩
        rw [HB.out]
        exact M5.out
      · have HB : Hid (((R.take (k + 1)).filter (isCut R L)).map Rt.id = Xs) := Lib.hid (by rw [HK.out, HC.out, decide_eq_false hlt2]; simp)
        go_wp2_with fail
        refine ⟨⟨k + 1, by omega, congrArg _ (by omega), Lib.hid ?_⟩, by simp only [intOf]; omega⟩
        rw [HB.out]
        exact M4.out
    · obtain rfl : k = R.length := by omega
      go_wp2_with fail
      go_ret
      have hM := M.out
      rw [List.take_length, HH2.out] at hM
      exact hM.ret
end Go.Proofs.Ytiencdgmnkphjaa

/- The laws of topology: the example. -/
namespace Go.Proofs.Ytiencdgmnkphjaa
open Go.RowKit Bs
def exR : List Rt := [⟨1, false⟩, ⟨2, false⟩, ⟨3, false⟩, ⟨4, false⟩]
def exL : List Lk := [⟨1, 2, 1, 1, 0⟩, ⟨2, 3, 1, 1, 0⟩, ⟨2, 4, 1, 1, 0⟩, ⟨3, 4, 1, 1, 0⟩]
set_option maxRecDepth 100000 in
theorem ex_bri : bridges exR exL = [⟨1, 2⟩] := by kernel_rfl
set_option maxRecDepth 100000 in
theorem ex_cut : cuts exR exL = [2] := by kernel_rfl
set_option maxRecDepth 100000 in
theorem ex_chk : chk exR exL = 0 := by kernel_rfl
theorem rdf_row {w : World} {g : Nat} {t : TypeId} {n c : Nat} {xs : List Value} (h : w.heap[g]? = some (.cells xs.toArray t (0, 0))) : RdF w (· = g) (.slice (some ⟨g, 0, none⟩) n c) n xs :=
  ⟨some ⟨g, 0, none⟩, c, rfl, fun _ => ⟨g, 0, rfl, rfl, fun i x hi => by
    rw [cell_of_row _ _ _ _ _ _ h, Nat.zero_add]
    simpa using hi⟩⟩
set_option maxRecDepth 100000 in
set_option maxHeartbeats 3200000 in
theorem ex_any (w : World) : Calls Try.prog 65 #[] w fun e w' => TWPost exR exL w e w' := by
  go_enter Try.func65, Try.ntmps65
  go_upto_region 1 with fail
  go_wp2_with fail
  obtain ⟨wb, hwb, b1, b2, b3, b4, b5⟩ := boxes3 w #[.slice (some ⟨w.heap.size + 1, 0, none⟩) 4 4, .slice (some ⟨w.heap.size + 1 + 1, 0, none⟩) 4 4] (exR.flatMap rtC).toArray (exL.flatMap lkC).toArray 26 73 68
  subst hwb
  refine bodyPost_ret (res_topo rfl _ _ w.heap.size _ _ rfl b1) rfl ?_
  refine ⟨some ⟨w.heap.size + 1, 0, none⟩, 4, some ⟨w.heap.size + 1 + 1, 0, none⟩, 4, rfl, ⟨(rdf_row b2).mono (fun b hb => ?_), (rdf_row b3).mono (fun b hb => ?_), ⟨(by decide : 4 ≤ 4), (by decide : 4 ≤ 9223372036854775807)⟩, (by decide : 4 ≤ 4), (by decide : 4 ≤ 9223372036854775807)⟩, b4⟩
  · subst hb; show w.heap.size ≤ w.heap.size + 1; omega
  · subst hb; show w.heap.size ≤ w.heap.size + 2; omega
set_option maxRecDepth 100000 in
set_option maxHeartbeats 1600000 in
theorem rints_any (r : List Int) (p1 p2 : Option Addr) (c1 c2 : Nat) (q1 q2 : Nat → Prop) (w : World) (h1 : Rd w q1 (.slice p1 r.length c1) (r.map tv)) (h2 : Rd w q2 (.slice p2 r.length c2) (r.map tv)) (hm : r.length ≤ 9223372036854775807) :
    Calls Try.prog 24 #[.slice p1 r.length c1, .slice p2 r.length c2] w fun e w' => e = .returned (.bool true) ∧ w.grownBy w' none := by
  have H := Lib.hid (And.intro h1 h2)
  clear h1 h2
  go_enter Try.func24, Try.ntmps24
  go_wp2_with fail
  go_loopw [5] (fun a wr => ∃ k : Nat, k ≤ r.length ∧ a = .int .i64 (k : Int) ∧ w.grownBy wr none) (fun a _ => r.length - (intOf a).toNat)
  case atStart => exact ⟨0, Nat.zero_le _, rfl, grown_refl _ _⟩
  case round =>
    obtain ⟨k, hk, rfl, hG⟩ := hrel
    by_cases hlt : k < r.length
    · obtain ⟨-, b1, o1, rfl, _, hc1⟩ := rdi_at (H.out.1.keep hG) (by omega)
      obtain ⟨-, b2, o2, rfl, _, hc2⟩ := rdi_at (H.out.2.keep hG) (by omega)
      obtain ⟨y, hy⟩ : ∃ y, r[k]? = some y := ⟨_, List.getElem?_eq_getElem hlt⟩
      have e1 := hc1 k y hy
      have e2 := hc2 k y hy
      clear hy
      have HG := Lib.hid hG
      clear hc1 hc2 hG
      go_wp2_with fail
      go_region
      have HG2 := Lib.hid (grown_drew HG.out)
      clear HG e1 e2
      change Exit.then _ _ _ _ wr.drew
      generalize wr.drew = w2 at *
      go_wp2_with fail
      exact ⟨⟨k + 1, by omega, congrArg _ (by omega), HG2.out⟩, by simp only [intOf]; omega⟩
    · obtain rfl : k = r.length := by omega
      have HG := Lib.hid hG
      clear hG
      go_wp2_with fail
      go_ret
      exact ⟨rfl, HG.out⟩
set_option maxRecDepth 100000 in
set_option maxHeartbeats 6400000 in
theorem tawake_any (w : World) : Calls Try.prog 16 #[] w fun e w' => e = .returned (.bool true) ∧ w.grownBy w' none := by
  go_enter Try.func16, Try.ntmps16
  go_wp2_with fail
  refine (ex_any w).mono ?_
  rintro e w1 ⟨pR, cR, pL, cL, rfl, hT, hg⟩
  have HT := Lib.hid hT
  have G1 := Lib.hid hg
  clear hT hg
  go_wp2_with fail
  refine (tbri_any ⟨exR, exL, pR, cR, pL, cL⟩ _ w1 HT.out (fun _ => (show 4 ≤ 12 by decide))).mono ?_
  rw [show (Tg.mk exR exL pR cR pL cL).R = exR from rfl, show (Tg.mk exR exL pR cR pL cL).L = exL from rfl, ex_bri]
  rintro e w2 ⟨pB, cB, rfl, hH, hcB, hg⟩
  have G2 := Lib.hid (grown_trans G1.out hg)
  have HH := Lib.hid hH
  clear hH hg G1 HT
  obtain ⟨-, bH, oH, rfl, -, hcH⟩ := rdh_cells HH.out (by decide)
  obtain ⟨z0, z1⟩ := hcH 0 ⟨1, 2⟩ rfl
  simp only [Nat.zero_mul, Nat.add_zero] at z0 z1
  have HZ := Lib.hid (And.intro z0 z1)
  clear hcH z0 z1 HH
  go_wp2_with fail
  refine (ex_any w2).mono ?_
  rintro e w3 ⟨pR3, cR3, pL3, cL3, rfl, hT, hg⟩
  have HT := Lib.hid hT
  have G3 := Lib.hid hg
  clear hT hg
  go_wp2_with fail
  refine (tcheck_any ⟨exR, exL, pR3, cR3, pL3, cL3⟩ _ w3 HT.out).mono ?_
  rw [show (Tg.mk exR exL pR3 cR3 pL3 cL3).R = exR from rfl, show (Tg.mk exR exL pR3 cR3 pL3 cL3).L = exL from rfl, ex_chk]
  rintro e w4 ⟨rfl, hg⟩
  have G4 := Lib.hid (grown_trans G2.out (grown_trans G3.out hg))
  have z0 := (grown_trans G3.out hg).cell HZ.out.1 (by simp)
  have z1 := (grown_trans G3.out hg).cell HZ.out.2 (by simp)
  clear hg G3 G2 HT HZ
  go_wp2_with fail
  refine (ex_any w4).mono ?_
  rintro e w5 ⟨pR5, cR5, pL5, cL5, rfl, hT, hg⟩
  have HT := Lib.hid hT
  have G5 := Lib.hid (grown_trans G4.out hg)
  clear hT hg z0 z1 G4
  go_wp2_with fail
  refine (tcuts_any ⟨exR, exL, pR5, cR5, pL5, cL5⟩ _ w5 HT.out (fun _ => (show 4 ≤ 12 by decide))).mono ?_
  rw [show (Tg.mk exR exL pR5 cR5 pL5 cL5).R = exR from rfl, show (Tg.mk exR exL pR5 cR5 pL5 cL5).L = exL from rfl, ex_cut]
  rintro e w6 ⟨pX, cX, rfl, hX, -, -, hg⟩
  obtain ⟨k1, k2⟩ := tone_box w6 #[.int .i64 2] 3
  have G7 := Lib.hid (grown_trans G5.out (grown_trans hg k2))
  have HX := Lib.hid (hX.keep k2)
  have H1 : Hid (Rd (w6.alloc (.cells #[.int .i64 2] 3)) (fun _ => True) (.slice (some ⟨w6.heap.size, 0, none⟩) 1 1) ([(2 : Int)].map tv)) := Lib.hid ⟨some ⟨w6.heap.size, 0, none⟩, 1, rfl, fun _ => ⟨w6.heap.size, 0, rfl, trivial, fun i x hi => by
    match i, hi with
    | 0, hi =>
      obtain rfl : tv 2 = x := by simpa using hi
      rw [cell_of_row _ _ _ _ _ _ k1]; rfl⟩⟩
  clear hX hg k1 k2 HT G5
  go_wp2_with fail
  refine (rints_any [2] pX (some ⟨w6.heap.size, 0, none⟩) cX 1 _ _ _ HX.out H1.out (by decide)).mono ?_
  rintro e w8 ⟨rfl, hg⟩
  have G8 := Lib.hid (grown_trans G7.out hg)
  clear hg
  go_wp2_with fail
  go_ret
  exact ⟨rfl, G8.out⟩
end Go.Proofs.Ytiencdgmnkphjaa

/- Parts of the proof, packed: DbClm, DbRk, ToHasF. -/
import Derived.Test.YtnpkihioklpnmaaVw8
import Derived.Test.YtnpkihioklpnmaaVw10
import Derived.Test.YtnpkihioklpnmaaVw11
import Derived.Test.YtnpkihioklpnmaaVw12
import Derived.Test.YtnpkihioklpnmaaVw4
import Derived.BigQuiet
/- database.Claims. -/
namespace Go.Proofs.Ytnpkihioklpnmaa
open Go.RowKit Bs
/-- A claim and its router. -/
structure Ow where
  r : Int
  x : T3
def owC (o : Ow) : List Value := [.int .i64 o.r, .int .i64 o.x.a, .int .i64 o.x.b, .int .i64 o.x.c]
set_option maxRecDepth 100000 in
theorem ow_len (o : Ow) : (owC o).length = 4 := rfl
set_option maxRecDepth 100000 in
theorem ow_one (o : Ow) : ∀ u ∈ owC o, u.oneCell' = true := by
  intro u hu
  simp [owC] at hu
  rcases hu with rfl | rfl | rfl | rfl <;> rfl
set_option maxRecDepth 100000 in
theorem info_ow : (Try.prog.info? 64).map (fun i => (i.zero, i.size, i.bytes)) = some (some (.agg #[.int .i64 0, .int .i64 0, .int .i64 0, .int .i64 0]), 4, 32) := by kernel_rfl
set_option maxRecDepth 100000 in
theorem cells4V (w : World) (x y z u : Value) (t : TypeId) : ∀ j a, [x, y, z, u][j]? = some a → (w.alloc (.cells #[x, y, z, u] t)).cell? ((⟨w.heap.size, 0, none⟩ : Addr).add j) = some a := by
  intro j a hj
  rw [add_plain]
  have hb := heap_alloc_new w (.cells #[x, y, z, u] t)
  rcases j with _ | _ | _ | _ | j
  · cases hj; exact cell_of_row _ _ _ _ _ _ hb
  · cases hj; exact cell_of_row _ _ _ _ _ _ hb
  · cases hj; exact cell_of_row _ _ _ _ _ _ hb
  · cases hj; exact cell_of_row _ _ _ _ _ _ hb
  · simp at hj
def clA (A : Ad) : List Ow := A.C.map (Ow.mk A.r)
def cpV (l : List Ad) (r : Int) (A : Ad) : Bool := capV (viewV l r).1 (viewV l r).2 A.r
/-- What Claims returns. -/
def clmV (l : List Ad) (r : Int) : List Ow := (l.filter (cpV l r)).flatMap clA
def clT (l : List Ad) (t : Rt) : List Ow := match fndA l t.id with
  | some A => if A.cp = true then clA A else []
  | none => []
set_option maxRecDepth 100000 in
theorem cap_nil (L : List Lk) (x : Int) : capV [] L x = false := by
  unfold capV capR
  simp
set_option maxRecDepth 100000 in
theorem find_map {l : List Ad} {f : Ad → Bool} {k : Int} (h : ascD k l = true) {A : Ad} (hA : A ∈ l) : ((l.filter f).map toR).find? (fun r => decide (r.id = A.r)) = if f A = true then some (toR A) else none := by
  rw [List.find?_map]
  have e : (l.filter f).find? (isR A.r) = if f A = true then some A else none := by
    by_cases hf : f A = true
    · rw [if_pos hf]
      exact fnd_selfV (ascD_flt f h) A (List.mem_filter.2 ⟨hA, hf⟩)
    · rw [if_neg hf]
      refine List.find?_eq_none.2 (fun B hB hB2 => ?_)
      obtain ⟨h1, h2⟩ := List.mem_filter.1 hB
      have h3 : B.r = A.r := of_decide_eq_true hB2
      have h4 := fnd_selfV h B h1
      rw [h3, fnd_selfV h A hA] at h4
      rw [Option.some.inj h4] at hf
      exact hf h2
  show Option.map toR ((l.filter f).find? (isR A.r)) = _
  rw [e]
  split <;> rfl
set_option maxRecDepth 100000 in
theorem view_cases (l : List Ad) (r : Int) : viewV l r = ([], []) ∨ (okD l = true ∧ viewV l r = (vwR l (reS l r), vwL l (reS l r)) ∧ okT (vwR l (reS l r)) (vwL l (reS l r)) = true) := by
  unfold viewV
  by_cases h : okD l = true
  · rw [if_pos h]
    by_cases h2 : chk (vwR l (reS l r)) (vwL l (reS l r)) = 0
    · rw [if_pos h2]
      exact .inr ⟨h, rfl, by unfold okT; rw [h2]; rfl⟩
    · rw [if_neg h2]; exact .inl rfl
  · rw [if_neg h]; exact .inl rfl
set_option maxRecDepth 100000 in
theorem cpV_ok {l : List Ad} {r : Int} {A : Ad} (h : cpV l r A = true) : okD l = true := by
  rcases view_cases l r with h1 | h1
  · unfold cpV at h
    rw [h1] at h
    simp only at h
    rw [cap_nil] at h
    cases h
  · exact h1.1
set_option maxRecDepth 100000 in
/-- The reference's way. -/
theorem clm_ref (l : List Ad) (r : Int) : (viewV l r).1.flatMap (clT l) = clmV l r := by
  rcases view_cases l r with h | ⟨h1, h2, h3⟩
  · unfold clmV
    have : l.filter (cpV l r) = [] := by
      rw [List.filter_eq_nil_iff]
      intro A _ hc
      unfold cpV at hc
      rw [h] at hc
      simp only at hc
      rw [cap_nil] at hc
      cases hc
    rw [this, h]
    rfl
  · have ho := okD_OkD h1
    have hcp : ∀ A ∈ l, cpV l r A = (inV (reS l r) A && A.cp) := fun A hA => by
      unfold cpV
      rw [h2]
      unfold capV capR
      rw [h3]
      simp only [Bool.true_and]
      have hfm := find_map (f := inV (reS l r)) ho.asc hA
      unfold vwR
      rw [hfm]
      cases inV (reS l r) A
      · rfl
      · rfl
    unfold clmV
    rw [List.filter_congr hcp, h2]
    show (vwR l (reS l r)).flatMap (clT l) = _
    unfold vwR
    rw [List.flatMap_map]
    generalize reS l r = S
    have key : ∀ M : List Ad, (∀ A ∈ M, A ∈ l) → (M.filter (inV S)).flatMap (fun A => clT l (toR A)) = (M.filter (fun A => inV S A && A.cp)).flatMap clA := by
      intro M
      induction M with
      | nil => intro _; rfl
      | cons A t ih =>
        intro hM
        have ih := ih (fun B hB => hM B (List.mem_cons_of_mem _ hB))
        rw [List.filter_cons, List.filter_cons]
        cases hi : inV S A with
        | false => simpa using ih
        | true =>
          have e : clT l (toR A) = if A.cp = true then clA A else [] := by
            unfold clT
            show (match fndA l A.r with | some A => if A.cp = true then clA A else [] | none => []) = _
            rw [fnd_selfV ho.asc A (hM A List.mem_cons_self)]
          cases hc : A.cp with
          | false =>
            rw [hc] at e
            simp only [if_true, List.flatMap_cons, e, Bool.true_and]
            simpa using ih
          | true =>
            rw [hc] at e
            simp only [if_true, List.flatMap_cons, e, Bool.true_and]
            rw [ih]
    exact key l (fun A hA => hA)
set_option maxRecDepth 100000 in
theorem tg_and {w : World} {q : Nat → Prop} {T : Tg} (h : TgOk w q T) : TgOk w (fun b => q b ∧ b < w.heap.size) T := ⟨rdf_and h.r, rdf_and h.l, h.cr, h.cl⟩
/-- While claims are gathered. -/
structure CG (W : World) (l : List Ad) (p : Option Addr) (c N Bx : Nat) (T : Tg) (v : Value) (out : List Ow) (w : World) : Prop where
  db : RdA w (· < W.heap.size) (.slice p l.length c) l
  d : w.heap[W.heap.size]? = some (.cells #[.slice p l.length c] 25 (0, 0))
  t : w.heap[Bx]? = some (.cells #[.slice T.pR T.R.length T.cR, .slice T.pL T.L.length T.cL] 59 (0, 0))
  tg : TgOk w (· < N) T
  own : w.ownsRow N 64 4 v out.length (out.flatMap owC)
  lo : W.heap.size < N ∧ Bx < N ∧ N ≤ w.heap.size
  gr : W.grownBy w none
section
variable {W w w1 : World} {l : List Ad} {p : Option Addr} {c N Bx : Nat} {T : Tg} {v v' : Value} {out out2 : List Ow}
set_option maxRecDepth 100000 in
theorem CG.keep (h : CG W l p c N Bx T v out w) (g : w.grownBy w1 none) : CG W l p c N Bx T v out w1 := ⟨h.db.keep g, kept_row h.d g (by simp), kept_row h.t g (by simp), h.tg.keep g, h.own.kept g (by cases v.ownBlock <;> simp), ⟨h.lo.1, h.lo.2.1, Nat.le_trans h.lo.2.2 g.size⟩, grown_trans h.gr g⟩
set_option maxRecDepth 100000 in
theorem CG.app (h : CG W l p c N Bx T v out w) (hown : w1.ownsRow N 64 4 v' out2.length (out2.flatMap owC)) (hg : w.grownBy w1 v.ownBlock) : CG W l p c N Bx T v' out2 w1 := by
  have hlo := h.lo
  have hne : ∀ k, k < N → some k ≠ v.ownBlock := fun k hk e => by have := (h.own.lt k e.symm).1; omega
  refine ⟨h.db.grown hg (fun b hb => hne _ (by omega)), kept_row h.d hg (hne _ (by omega)), kept_row h.t hg (hne _ (by omega)), h.tg.grown hg (fun b hb => hne _ hb), hown, ⟨hlo.1, hlo.2.1, Nat.le_trans hlo.2.2 hg.size⟩, ?_⟩
  cases hv : v.ownBlock with
  | none => rw [hv] at hg; exact grown_trans h.gr hg
  | some b => rw [hv] at hg; exact grown_new h.gr hg (by have := (h.own.lt b hv).1; omega)
end
set_option maxRecDepth 100000 in
theorem cg_start {W w : World} {l : List Ad} {p : Option Addr} {c : Nat} {T : Tg} {q : Nat → Prop} (hR : RdA w (· < W.heap.size) (.slice p l.length c) l) (hd : w.heap[W.heap.size]? = some (.cells #[.slice p l.length c] 25 (0, 0))) (hT : TgOk w q T) (g : W.grownBy w none) : CG W l p c (w.heap.size + 1) w.heap.size T (.slice none 0 0) [] (w.alloc (.cells #[.slice T.pR T.R.length T.cR, .slice T.pL T.L.length T.cL] 59)) := by
  obtain ⟨n1, n2⟩ := tone_box w #[.slice T.pR T.R.length T.cR, .slice T.pL T.L.length T.cL] 59
  exact ⟨hR.keep n2, kept_row hd n2 (by simp), n1, ((tg_and hT).keep n2).mono (fun b hb => by have := hb.2; omega), World.ownsRow_nil _ _ _ _, ⟨by have := World.lt_of_row' hd; omega, by omega, World.lt_of_row' n1⟩, grown_trans g n2⟩
/-- What Claims returns, in memory. -/
def ClPost (l : List Ad) (r : Int) (W : World) (e : Ending) (w' : World) : Prop :=
  ∃ (p : Option Addr) (c : Nat), e = .returned (.slice p (clmV l r).length c) ∧ RdF w' (W.heap.size ≤ ·) (.slice p (clmV l r).length c) (clmV l r).length ((clmV l r).flatMap owC) ∧ W.grownBy w' none
set_option maxRecDepth 100000 in
theorem clm_take {l : List Ad} {r : Int} {k : Nat} {A : Ad} (h : l[k]? = some A) : ((l.take (k + 1)).filter (cpV l r)).flatMap clA = ((l.take k).filter (cpV l r)).flatMap clA ++ (if cpV l r A = true then clA A else []) := by
  rw [List.take_add_one, h, List.filter_append, List.flatMap_append]
  congr 1
  show ([A].filter (cpV l r)).flatMap clA = _
  rw [List.filter_cons]
  split
  · show clA A ++ [] = _; rw [List.append_nil]
  · rfl
set_option maxRecDepth 100000 in
theorem cla_take {A : Ad} {j : Nat} {x : T3} (h : A.C[j]? = some x) : (A.C.take (j + 1)).map (Ow.mk A.r) = (A.C.take j).map (Ow.mk A.r) ++ [⟨A.r, x⟩] := by
  rw [List.take_add_one, h, List.map_append]; rfl
set_option maxRecDepth 100000 in
theorem vAd_cl {A : Ad} (h : vAd A = true) : A.C.length ≤ 8 := by
  unfold vAd at h
  rw [Bool.and_eq_true, Bool.and_eq_true] at h
  obtain ⟨-, -, h3⟩ := h
  unfold vClaims at h3
  rw [Bool.and_eq_true] at h3
  exact of_decide_eq_true h3.1
set_option maxRecDepth 100000 in
set_option maxHeartbeats 12800000 in
theorem dclaims_any (l : List Ad) (r : Int) (p : Option Addr) (c : Nat) (q : Nat → Prop) (w : World) (hR : RdA w q (.slice p l.length c) l) (hm : l.length ≤ 900) :
    Calls Try.prog 31 #[.agg #[.slice p l.length c], .int .i64 r] w fun e w' => ClPost l r w e w' := by
  obtain ⟨io, hio, ho0, ho1, ho2⟩ := info_parts info_ow
  obtain ⟨k1, k2⟩ := tone_box w #[.slice p l.length c] 25
  have H0 := Lib.hid (And.intro k1 (And.intro k2 ((RdA.old hR).keep k2)))
  clear k1 k2 hR
  go_enter Try.func31, Try.ntmps31
  go_upto_region 1 with fail
  generalize w.alloc _ = wa at *
  have c0 := cell_of_row _ _ 0 _ _ _ H0.out.1
  go_wp2_with fail
  refine (dview_any l r p c _ wa H0.out.2.2 (by omega)).mono ?_
  rintro e w1 ⟨T, rfl, hv, hok, hg⟩
  have K0 := Lib.hid (cg_start (H0.out.2.2.keep hg) (kept_row H0.out.1 hg (by simp)) hok (grown_trans H0.out.2.1 hg))
  have HT : Hid (∀ A : Ad, capV T.R T.L A.r = cpV l r A) := Lib.hid (fun A => by unfold cpV; rw [← hv])
  have HTL : Hid (T.R.length ≤ 1000000) := Lib.hid (by
    have e1 : T.R = (viewV l r).1 := congrArg Prod.fst hv
    rw [e1]
    rcases view_cases l r with h1 | ⟨-, h2, -⟩
    · rw [h1]; simp
    · rw [h2]
      show (vwR l (reS l r)).length ≤ _
      unfold vwR
      rw [List.length_map]
      have := List.length_filter_le (inV (reS l r)) l
      omega)
  clear hv hok hg H0 c0
  go_upto_region 2 with fail
  generalize hw : w1.alloc _ = w2 at *
  generalize w1.heap.size = Bx at *
  clear hw w1
  have c0 := cell_of_row _ _ 0 _ _ _ K0.out.d
  go_wp2_with fail
  clear c0
  go_loopw [6, 17] (fun v x wr => ∃ (k : Nat) (out : List Ow), k ≤ l.length ∧ x = .int .i64 (k : Int) ∧ out.length ≤ 8 * k ∧ Hid (((l.take k).filter (cpV l r)).flatMap clA = out) ∧ Hid (CG w l p c (Bx + 1) Bx T v out wr)) (fun _ x _ => l.length - (RowKit.intOf x).toNat)
  case atStart => exact ⟨0, [], Nat.zero_le _, rfl, Nat.le_refl _, Lib.hid rfl, K0⟩
  case round =>
  obtain ⟨k, out, hk, rfl, hol, HI, K⟩ := hrel
  clear K0
  obtain ⟨po, co, rfl, -, -⟩ := own_shape K.out.own
  by_cases hlt : k < l.length
  · obtain ⟨-, b1, off1, rfl, -, -⟩ := rda_cells K.out.db (by omega)
    obtain ⟨A, hA⟩ : ∃ A, l[k]? = some A := ⟨_, List.getElem?_eq_getElem hlt⟩
    obtain ⟨a0, a1, a2, a3, a4⟩ := rda_at K.out.db hA
    have HAM := Lib.hid (List.mem_of_getElem? hA)
    have HST := Lib.hid (clm_take (r := r) hA)
    have gal := World.grownBy_alloc wr (.cells #[.int .i64 A.r, .int .i64 A.q, .bool A.cp, .slice A.pL A.L.length A.cL, .slice A.pC A.C.length A.cC] 38) none
    have KB := Lib.hid (And.intro (K.out.keep gal) (heap_alloc_new wr (.cells #[.int .i64 A.r, .int .i64 A.q, .bool A.cp, .slice A.pL A.L.length A.cL, .slice A.pC A.C.length A.cC] 38)))
    have HOA : Hid (∀ b, (Value.slice po out.length co).ownBlock = some b → b < wr.heap.size) := Lib.hid (fun b hb => (K.out.own.lt b hb).2)
    clear hA gal K
    go_upto_region 6 with fail
    clear a0 a1 a2 a3 a4
    generalize hw : wr.alloc _ = wy at *
    generalize wr.heap.size = X at *
    clear hw
    obtain ⟨d0, d1, d2, d3, d4⟩ := row5 KB.out.2
    obtain ⟨t0, t1⟩ := row_cells KB.out.1.t
    go_wp2_with fail
    refine (tcap_any T A.r _ wy KB.out.1.tg HTL.out).mono ?_
    rw [HT.out A]
    rintro e w5 ⟨rfl, hg⟩
    have KC := Lib.hid (And.intro (KB.out.1.keep hg) (kept_row KB.out.2 hg (by simp)))
    clear hg KB d0 d1 d2 d3 d4 t0 t1
    obtain ⟨cp, hcp⟩ : ∃ cp, cpV l r A = cp := ⟨_, rfl⟩
    have HCP := Lib.hid hcp
    rw [hcp]
    rw [hcp] at HST
    clear hcp
    cases cp with
    | false =>
      have HN : Hid (((l.take (k + 1)).filter (cpV l r)).flatMap clA = out) := Lib.hid (by rw [HST.out, if_neg (by decide), List.append_nil]; exact HI.out)
      have KN := Lib.hid KC.out.1
      clear KC HST HI
      go_wp2_with fail
      exact ⟨⟨k + 1, out, by omega, congrArg _ (by omega), by omega, HN, KN⟩, by simp only [RowKit.intOf]; omega⟩
    | true =>
      have HN : Hid (((l.take (k + 1)).filter (cpV l r)).flatMap clA = out ++ clA A) := Lib.hid (by rw [HST.out, if_pos rfl, HI.out])
      have hc8 : A.C.length ≤ 8 := vAd_cl ((okD_OkD (cpV_ok HCP.out)).v A HAM.out)
      clear HST HI
      obtain ⟨d0, d1, d2, d3, d4⟩ := row5 KC.out.2
      go_wp2_with fail
      clear d0 d1 d2 d3 d4
      go_loopw [6, 29] (fun v x wq => ∃ (j : Nat) (o2 : List Ow), j ≤ A.C.length ∧ x = .int .i64 (j : Int) ∧ o2.length ≤ out.length + j ∧ Hid (out ++ (A.C.take j).map (Ow.mk A.r) = o2) ∧ Hid (CG w l (some ⟨b1, off1, none⟩) c (Bx + 1) Bx T v o2 wq ∧ wq.heap[X]? = some (.cells #[.int .i64 A.r, .int .i64 A.q, .bool A.cp, .slice A.pL A.L.length A.cL, .slice A.pC A.C.length A.cC] 38 (0, 0)) ∧ v.ownBlock ≠ some X)) (fun _ x _ => A.C.length - (RowKit.intOf x).toNat)
      case atStart => exact ⟨0, out, Nat.zero_le _, rfl, Nat.le_refl _, Lib.hid (by simp), Lib.hid ⟨KC.out.1, KC.out.2, fun e => by have := HOA.out X e; omega⟩⟩
      case round =>
      obtain ⟨j, o2, hj, rfl, ho2l, HO, C⟩ := hrel
      clear KC HOA
      obtain ⟨po2, co2, rfl, -, -⟩ := own_shape C.out.1.own
      by_cases hlt2 : j < A.C.length
      · have hac := (C.out.1.db.ok A HAM.out).c
        obtain ⟨-, b3, off3, hpc, -, -⟩ := rd3_cells hac (by omega)
        obtain ⟨x, hx⟩ : ∃ x, A.C[j]? = some x := ⟨_, List.getElem?_eq_getElem hlt2⟩
        rw [hpc] at hac
        obtain ⟨a0, a1, a2⟩ := rd3_at hac hx
        have HOS := Lib.hid (cla_take hx)
        have gal := World.grownBy_alloc wr (.cells #[.int .i64 x.a, .int .i64 x.b, .int .i64 x.c] 62) none
        have C1 := Lib.hid (And.intro (C.out.1.keep gal) (And.intro (kept_row C.out.2.1 gal (by simp)) (And.intro (heap_alloc_new wr (.cells #[.int .i64 x.a, .int .i64 x.b, .int .i64 x.c] 62)) C.out.2.2)))
        have HXlt := Lib.hid (World.lt_of_row' C.out.2.1)
        clear hx hac gal C
        rw [hpc]
        go_upto_region 10 with fail
        clear a0 a1 a2
        generalize hw : wr.alloc _ = wz at *
        generalize wr.heap.size = Y at *
        clear hw
        rw [hpc] at C1
        obtain ⟨d0, d1, d2, d3, d4⟩ := row5 C1.out.2.1
        obtain ⟨e0, e1, e2⟩ := row3 C1.out.2.2.1
        have g4 := World.grownBy_alloc wz (.cells #[.int .i64 A.r, .int .i64 x.a, .int .i64 x.b, .int .i64 x.c] 64) none
        have C2 := Lib.hid (And.intro (C1.out.1.keep g4) (kept_row C1.out.2.1 g4 (by simp)))
        have HNB := Lib.hid C1.out.2.2.2
        have hXz : X < wz.heap.size := World.lt_of_row' C1.out.2.1
        clear g4 C1
        go_wp2_with (at_builtin; refine hold_on ?_)
        refine Lib.hid ?_
        refine wpList_append_own_at _ rfl _ _ 53 rfl (Bx + 1) 64 io (.agg #[.int .i64 0, .int .i64 0, .int .i64 0, .int .i64 0]) 4 32 Try.underlying53 hio ho0 ho1 ho2 rfl (by decide) (.slice po2 o2.length co2) o2.length (o2.flatMap owC) (by rfl) C2.out.1.own ⟨wz.heap.size, 0, none⟩ 1 1 (owC ⟨A.r, x⟩) (by rfl) rfl (cells4V _ _ _ _ _ _) (ow_one _) (by unfold maxLen; omega) (by omega) C2.out.1.lo.2.2 ?_
        intro v' w9 hown hg _ hat
        have hfl : o2.flatMap owC ++ owC (⟨A.r, x⟩ : Ow) = (o2 ++ [(⟨A.r, x⟩ : Ow)]).flatMap owC := by rw [List.flatMap_append, List.flatMap_cons, List.flatMap_nil, List.append_nil]
        have hOl : (o2 ++ [(⟨A.r, x⟩ : Ow)]).length = o2.length + 1 := by rw [List.length_append]; rfl
        obtain ⟨p5, c5, rfl, -, -⟩ := own_shape hown
        have hown2 : w9.ownsRow (Bx + 1) 64 4 (.slice p5 (o2.length + 1) c5) (o2 ++ [(⟨A.r, x⟩ : Ow)]).length ((o2 ++ [(⟨A.r, x⟩ : Ow)]).flatMap owC) := by rw [hOl, ← hfl]; exact hown
        have C3 := Lib.hid (And.intro (C2.out.1.app hown2 hg) (And.intro (kept_row C2.out.2 hg (fun e => HNB.out e.symm)) (show (Value.slice p5 (o2.length + 1) c5).ownBlock ≠ some X from fun e => by
          rcases hat with h1 | h1
          · exact HNB.out (h1.symm.trans e)
          · have := Option.some.inj (h1.symm.trans e)
            have h2 : wz.heap.size ≤ (wz.alloc (.cells #[.int .i64 A.r, .int .i64 x.a, .int .i64 x.b, .int .i64 x.c] 64)).heap.size := (World.grownBy_alloc wz _ none).size
            omega)))
        have HO2 : Hid (out ++ (A.C.take (j + 1)).map (Ow.mk A.r) = o2 ++ [⟨A.r, x⟩]) := Lib.hid (by rw [HOS.out, ← List.append_assoc, HO.out])
        clear hown hown2 hg hat hfl C2 HNB HOS HO d0 d1 d2 d3 d4 e0 e1 e2
        go_wp2_with fail
        exact ⟨⟨j + 1, _, by omega, congrArg _ (by omega), by rw [hOl]; omega, HO2, by first | exact C3 | (rw [hpc]; exact C3)⟩, by simp only [RowKit.intOf]; omega⟩
      · obtain rfl : j = A.C.length := by omega
        have hO9 := HO.out
        rw [List.take_length] at hO9
        have HN2 : Hid (((l.take (k + 1)).filter (cpV l r)).flatMap clA = o2) := Lib.hid (by rw [HN.out, ← hO9]; rfl)
        have KN := Lib.hid C.out.1
        clear C HO hO9 HN
        go_wp2_with fail
        exact ⟨⟨k + 1, o2, by omega, congrArg _ (by omega), by omega, HN2, KN⟩, by simp only [RowKit.intOf]; omega⟩
  · obtain rfl : k = l.length := by omega
    have hI := HI.out
    rw [List.take_length] at hI
    have hI2 : clmV l r = out := hI
    have HF : Hid (ClPost l r w (.returned (.slice po out.length co)) wr) := Lib.hid ⟨po, co, by rw [hI2], by rw [hI2]; exact (rdf_of_own K.out.own).mono (fun b hb => by have := K.out.lo; omega), K.out.gr⟩
    clear hI hI2 K HI
    go_wp2_with fail
    go_ret
    exact HF.out
end Go.Proofs.Ytnpkihioklpnmaa

/- The reference's Check of databases. -/
namespace Go.Proofs.Ytnpkihioklpnmaa
open Go.RowKit Bs
set_option maxRecDepth 100000 in
theorem asc_start {l : List Ad} (hv : ∀ A ∈ l, vAd A = true) (h : 1 ≤ l.length) : ascD (lastD l 1) (l.drop 1) = ascD 0 l := by
  cases l with
  | nil => simp at h
  | cons A t =>
    have h1 := (VA.of (hv A List.mem_cons_self)).r.1
    show ascD (lastD (A :: t) 1) t = _
    rw [lastD_succ (k := 0) (x := A) rfl, ascD, decide_eq_true (show (0 : Int) < A.r by omega), Bool.true_and]
set_option maxRecDepth 100000 in
set_option maxHeartbeats 6400000 in
theorem rcheck8_any (l : List Ad) (p : Option Addr) (c : Nat) (q : Nat → Prop) (w : World) (hR : RdA w q (.slice p l.length c) l) (hm : l.length ≤ 9223372036854775807) :
    Calls Try.prog 15 #[.agg #[.slice p l.length c]] w fun e w' => e = .returned (.int .i64 (chkD l)) ∧ w.grownBy w' none := by
  have H0 := Lib.hid (d1_start hR)
  clear hR
  obtain ⟨X, hX⟩ : ∃ X, chkD l = X := ⟨_, rfl⟩
  have HX := Lib.hid hX
  rw [hX]
  clear hX
  go_enter Try.func15, Try.ntmps15
  go_upto_region 1 with fail
  generalize w.alloc _ = wa at *
  have c0 : wa.cell? ⟨w.heap.size, 0, none⟩ = some (.slice p l.length c) := cell_of_row _ _ _ _ _ _ H0.out.d
  by_cases h99 : (99 : Int) < (l.length : Int)
  · obtain rfl : X = 3 := by rw [← HX.out]; unfold chkD; rw [if_pos (by omega)]
    go_wp2_with fail
    go_ret
    exact ⟨rfl, H0.out.gr⟩
  have h99n : ¬ 99 < l.length := by omega
  have H99 := Lib.hid h99n
  clear h99n
  go_wp2_with fail
  clear c0
  go_loopw [3] (fun a wr => ∃ k : Nat, k ≤ l.length ∧ a = .int .i64 (k : Int) ∧ Hid ((l.take k).any notV = false) ∧ Hid (D1 w l p c wr)) (fun a _ => l.length - (RowKit.intOf a).toNat)
  case atStart => exact ⟨0, Nat.zero_le _, rfl, Lib.hid rfl, H0⟩
  case round =>
  obtain ⟨k, hk, rfl, HN, K⟩ := hrel
  clear H0
  have c0 : wr.cell? ⟨w.heap.size, 0, none⟩ = some (.slice p l.length c) := cell_of_row _ _ _ _ _ _ K.out.d
  by_cases hlt : k < l.length
  · have hltI : (k : Int) < (l.length : Int) := by omega
    obtain ⟨-, b, off, rfl, -, -⟩ := rda_cells K.out.db (by omega)
    obtain ⟨A, hA⟩ : ∃ A, l[k]? = some A := ⟨_, List.getElem?_eq_getElem hlt⟩
    obtain ⟨a0, a1, a2, a3, a4⟩ := rda_at K.out.db hA
    have HA := Lib.hid (And.intro hA (List.mem_of_getElem? hA))
    clear hA
    go_wp2_with fail
    refine (rvalidA_any A _ wr (K.out.db.ok A HA.out.2)).mono ?_
    rintro e w1 ⟨rfl, hg⟩
    have K2 := Lib.hid (K.out.keep hg)
    obtain ⟨v, hv⟩ : ∃ v, vAd A = v := ⟨_, rfl⟩
    rw [hv]
    cases v with
    | false =>
      obtain rfl : X = 1 := by rw [← HX.out]; unfold chkD; rw [if_neg H99.out, if_pos (anyD_hit HA.out.1 (by unfold notV; rw [hv]; rfl))]
      clear hv hg K a0 a1 a2 a3 a4 c0
      go_wp2_with fail
      go_ret
      exact ⟨rfl, K2.out.gr⟩
    | true =>
      have HN2 := Lib.hid (anyD_take HN.out HA.out.1 (P := notV) (by unfold notV; rw [hv]; rfl))
      clear hv hg K a0 a1 a2 a3 a4 c0
      go_wp2_with fail
      exact ⟨⟨k + 1, by omega, congrArg _ (by omega), HN2, K2⟩, by simp only [RowKit.intOf]; omega⟩
  · obtain rfl : k = l.length := by omega
    have hN := HN.out
    rw [List.take_length] at hN
    have HVV : Hid (∀ A ∈ l, vAd A = true) := Lib.hid (fun A hA => by have := List.any_eq_false.1 hN A hA; unfold notV at this; simpa using this)
    have HXX : Hid (X = if ascD 0 l = false then 25 else 0) := Lib.hid (by rw [← HX.out]; unfold chkD; rw [if_neg H99.out, hN, if_neg (by decide)])
    clear hN HN hlt hk
    go_wp2_with fail
    clear c0
    go_loopw [4] (fun a wr => ∃ k : Nat, 1 ≤ k ∧ (k ≤ l.length ∨ k = 1) ∧ a = .int .i64 (k : Int) ∧ Hid (1 ≤ l.length → ascD (lastD l k) (l.drop k) = ascD 0 l) ∧ Hid (D1 w l p c wr)) (fun a _ => l.length - (RowKit.intOf a).toNat)
    case atStart => exact ⟨1, by omega, Or.inr rfl, rfl, Lib.hid (asc_start HVV.out), K⟩
    case round =>
    clear K
    obtain ⟨k, hk1, hk, rfl, HI, K⟩ := hrel
    have c0 : wr.cell? ⟨w.heap.size, 0, none⟩ = some (.slice p l.length c) := cell_of_row _ _ _ _ _ _ K.out.d
    by_cases hlt : k < l.length
    · obtain ⟨j, rfl⟩ : ∃ j, k = j + 1 := ⟨k - 1, by omega⟩
      obtain ⟨-, b, off, rfl, -, -⟩ := rda_cells K.out.db (by omega)
      obtain ⟨x, hx⟩ : ∃ x, l[j]? = some x := ⟨_, List.getElem?_eq_getElem (by omega)⟩
      obtain ⟨y, hy⟩ : ∃ y, l[j + 1]? = some y := ⟨_, List.getElem?_eq_getElem hlt⟩
      obtain ⟨a0, a1, a2, a3, a4⟩ := rda_at K.out.db hx
      obtain ⟨b0, b1, b2, b3, b4⟩ := rda_at K.out.db hy
      have HS : Hid (ascD 0 l = (decide (x.r < y.r) && ascD (lastD l (j + 1 + 1)) (l.drop (j + 1 + 1)))) := Lib.hid (by
        rw [← HI.out (by omega), ascD_step hy, lastD_succ hx])
      have ew1 : ((j : Int) + 1 - 1) = (j : Int) := by omega
      have ew2 : IntKind.i64.wrap ((j : Int) + 1 - 1) = (j : Int) := by rw [ew1, IntWalk.i64_in _ (by omega)]
      have ew3 : IntKind.i64.wrap (j : Int) = (j : Int) := IntWalk.i64_in _ (by omega)
      have j0 : (0 : Int) ≤ (j : Int) := by omega
      have j1 : (0 : Int) ≤ (j : Int) + 1 := by omega
      have j2 : (j : Int) < (l.length : Int) := by omega
      have j3 : (j : Int) + 1 < (l.length : Int) := by omega
      have j4 : ((j : Int) + 1).toNat = j + 1 := by omega
      have hcast : ((j + 1 : Nat) : Int) = (j : Int) + 1 := by omega
      clear hx hy HI
      rw [hcast]
      by_cases hge : y.r ≤ x.r
      · obtain rfl : X = 25 := by rw [HXX.out, HS.out, decide_eq_false (by omega), Bool.false_and, if_pos rfl]
        go_wp2_with fail
        go_region
        go_wp2_with fail
        go_ret
        exact ⟨rfl, (K.out.keep (grown_drew (grown_refl _ none))).gr⟩
      · have HI2 : Hid (1 ≤ l.length → ascD (lastD l (j + 1 + 1)) (l.drop (j + 1 + 1)) = ascD 0 l) := Lib.hid (fun _ => by rw [HS.out, decide_eq_true (by omega), Bool.true_and])
        go_wp2_with fail
        go_region
        have K2 := Lib.hid (K.out.keep (grown_drew (grown_refl wr none)))
        go_wp2_with fail
        exact ⟨⟨j + 1 + 1, by omega, Or.inl (by omega), congrArg _ (by omega), HI2, K2⟩, by simp only [RowKit.intOf]; omega⟩
    · have hltI : ¬ (k : Int) < (l.length : Int) := by omega
      obtain rfl : X = 0 := by
        rw [HXX.out]
        by_cases h0 : l.length = 0
        · rw [List.eq_nil_of_length_eq_zero h0]; rfl
        · rw [← HI.out (by omega), List.drop_of_length_le (by omega)]; rfl
      go_wp2_with fail
      go_ret
      exact ⟨rfl, K.out.gr⟩
end Go.Proofs.Ytnpkihioklpnmaa

/- The reference's Has and Named; Same of equal topologies. -/
namespace Go.Proofs.Ytnpkihioklpnmaa
open Go.RowKit Bs
set_option maxRecDepth 100000 in
set_option maxHeartbeats 1600000 in
theorem rhas4_any (X : List Int) (x : Int) (p : Option Addr) (c : Nat) (q : Nat → Prop) (w : World) (hR : Rd w q (.slice p X.length c) (X.map tv)) (hm : X.length ≤ 9223372036854775807) :
    Calls Try.prog 44 #[.slice p X.length c, .int .i64 x] w fun e w' => e = .returned (.bool (hasI X x)) ∧ w = w' := by
  have HR := Lib.hid hR
  have HN0 : Hid ((X.take 0).any (fun y => decide (y = x)) = false) := Lib.hid rfl
  clear hR
  go_enter Try.func44, Try.ntmps44
  go_wp2_with fail
  go_loopw [5] (fun a wr => ∃ k : Nat, k ≤ X.length ∧ a = .int .i64 (k : Int) ∧ Hid ((X.take k).any (fun y => decide (y = x)) = false) ∧ wr = w) (fun a _ => X.length - (RowKit.intOf a).toNat)
  case atStart => exact ⟨0, Nat.zero_le _, rfl, HN0, rfl⟩
  case round =>
    obtain ⟨k, hk, rfl, HN, rfl⟩ := hrel
    by_cases hlt : k < X.length
    · obtain ⟨-, b, off, rfl, -, hc⟩ := rdi_at HR.out (by omega)
      obtain ⟨y, hy⟩ : ∃ y, X[k]? = some y := ⟨_, List.getElem?_eq_getElem hlt⟩
      have d0 := hc k y hy
      have HY := Lib.hid hy
      clear hc hy HN0
      by_cases hyx : y = x
      · have HT : Hid (hasI X x = true) := Lib.hid (any_at HY.out (decide_eq_true hyx))
        subst hyx
        go_wp2_with fail
        go_ret
        rw [HT.out]
        exact ⟨rfl, rfl⟩
      · have HN2 := Lib.hid (any_take HN.out HY.out (decide_eq_false hyx))
        have h' : (y == x) = false := by simpa using hyx
        go_wp2_with fail
        exact ⟨⟨k + 1, by omega, congrArg _ (by omega), HN2, (by first | rfl | trivial)⟩, by simp only [RowKit.intOf]; omega⟩
    · have HT : Hid (hasI X x = false) := Lib.hid (any_end HN.out (by omega))
      obtain rfl : k = X.length := by omega
      go_wp2_with fail
      go_ret
      rw [HT.out]
      exact ⟨rfl, rfl⟩
end Go.Proofs.Ytnpkihioklpnmaa

/- Parts of the proof, packed: DbVM, DbPlc, DbCln, ToUnt2. -/
import Derived.Test.YtnpkihioklpnmaaDo6
import Derived.Test.YtnpkihioklpnmaaDo2
import Derived.Test.YtnpkihioklpnmaaDo5
import Derived.Deep.CutBlock
import Derived.Lib.SliceRun
/- What View says: look-ups, linked routers, the routers that are reached, the topology. The mathematics. -/
namespace Go.Proofs.Ytnpkihioklpnmaa
open Go.RowKit Bs
def isR (r : Int) (A : Ad) : Bool := decide (A.r = r)
def fndA (l : List Ad) (r : Int) : Option Ad := l.find? (isR r)
def isN (r : Int) (x : T3) : Bool := decide (x.a = r)
def rcA (A : Ad) (r : Int) : Option T3 := A.L.find? (isN r)
def rcV (A : Ad) (r : Int) : T3 := (rcA A r).getD ⟨0, 0, 0⟩
/-- The advert that a link leads to, if it leads back. -/
def lk1 (l : List Ad) (A : Ad) (x : T3) : List Ad := match fndA l x.a with
  | some B => if (rcA B A.r).isSome = true then [B] else []
  | none => []
/-- The adverts of the routers that are linked with A's. -/
def lnk (l : List Ad) (A : Ad) : List Ad := A.L.flatMap (lk1 l A)
set_option maxRecDepth 100000 in
theorem fndA_some {l : List Ad} {r : Int} {B : Ad} (h : fndA l r = some B) : B ∈ l ∧ B.r = r := by
  have h2 : isR r B = true := List.find?_some h
  exact ⟨List.mem_of_find?_eq_some h, of_decide_eq_true h2⟩
set_option maxRecDepth 100000 in
theorem lnk_mem {l : List Ad} {A B : Ad} (h : B ∈ lnk l A) : B ∈ l := by
  unfold lnk at h
  obtain ⟨x, _, hx⟩ := List.mem_flatMap.1 h
  unfold lk1 at hx
  cases hf : fndA l x.a with
  | none => rw [hf] at hx; cases hx
  | some C =>
    rw [hf] at hx
    simp only at hx
    split at hx
    · rw [List.mem_singleton] at hx; subst hx; exact (fndA_some hf).1
    · cases hx
set_option maxRecDepth 100000 in
theorem lnk_len (l : List Ad) (A : Ad) : (lnk l A).length ≤ A.L.length := by
  unfold lnk
  generalize A.L = M
  induction M with
  | nil => simp
  | cons x M ih =>
    rw [List.flatMap_cons, List.length_append, List.length_cons]
    have : (lk1 l A x).length ≤ 1 := by
      unfold lk1
      cases fndA l x.a with
      | none => simp
      | some C => simp only; split <;> simp
    omega
set_option maxRecDepth 100000 in
theorem lnk_snoc {l : List Ad} {A : Ad} {k : Nat} {x : T3} (h : A.L[k]? = some x) : (A.L.take (k + 1)).flatMap (lk1 l A) = (A.L.take k).flatMap (lk1 l A) ++ lk1 l A x := by
  rw [List.take_add_one, h, List.flatMap_append]
  simp
def inS (S : List Int) (r : Int) : Bool := S.any (fun x => decide (x = r))
set_option maxRecDepth 100000 in
theorem inS_app (S T : List Int) (r : Int) : inS (S ++ T) r = (inS S r || inS T r) := by unfold inS; rw [List.any_append]
set_option maxRecDepth 100000 in
theorem inS_one (x r : Int) : inS [x] r = decide (x = r) := by unfold inS; simp
/-- One linked router is met: what has been reached, and what has still to be looked at. -/
def addA (st : List Int × List Ad) (B : Ad) : List Int × List Ad := if inS st.1 B.r = true then st else (st.1 ++ [B.r], st.2 ++ [B])
/-- How many adverts' routers have not been reached. -/
def unv (l : List Ad) (S : List Int) : Nat := (l.filter (fun A => !inS S A.r)).length
def bfs (l : List Ad) : Nat → List Int → List Ad → List Int
  | 0, S, _ => S
  | _ + 1, S, [] => S
  | n + 1, S, A :: W => bfs l n ((lnk l A).foldl addA (S, W)).1 ((lnk l A).foldl addA (S, W)).2
set_option maxRecDepth 100000 in
theorem bfs_nil (l : List Ad) (n : Nat) (S : List Int) : bfs l n S [] = S := by cases n <;> rfl
set_option maxRecDepth 100000 in
theorem unv_add {l : List Ad} (hp : l.Pairwise (fun A B => A.r < B.r)) {S : List Int} {B : Ad} (hB : B ∈ l) (h : inS S B.r = false) : unv l (S ++ [B.r]) + 1 = unv l S := by
  unfold unv
  induction l with
  | nil => cases hB
  | cons A t ih =>
    obtain ⟨h1, h2⟩ := List.pairwise_cons.1 hp
    rw [List.filter_cons, List.filter_cons, inS_app, inS_one]
    rcases List.mem_cons.1 hB with e | hB
    · subst e
      have hne : t.filter (fun A => !inS (S ++ [B.r]) A.r) = t.filter (fun A => !inS S A.r) := by
        refine List.filter_congr fun A hA => ?_
        have := h1 A hA
        rw [inS_app, inS_one, decide_eq_false (by omega), Bool.or_false]
      rw [hne, h]
      simp
    · have := h1 B hB
      rw [decide_eq_false (show ¬ B.r = A.r by omega), Bool.or_false]
      have ih := ih h2 hB
      cases inS S A.r
      · simp only [Bool.not_false, if_true, List.length_cons]; omega
      · simp only [Bool.not_true]; exact ih
set_option maxRecDepth 100000 in
theorem add_keep {l : List Ad} (hp : l.Pairwise (fun A B => A.r < B.r)) : ∀ (M : List Ad), (∀ B ∈ M, B ∈ l) → ∀ st : List Int × List Ad, unv l (M.foldl addA st).1 + (M.foldl addA st).2.length = unv l st.1 + st.2.length
  | [], _, st => rfl
  | B :: M, hM, st => by
    rw [List.foldl_cons, add_keep hp M (fun C hC => hM C (List.mem_cons_of_mem _ hC))]
    unfold addA
    split
    · rfl
    · rename_i h
      have := unv_add hp (S := st.1) (hM B List.mem_cons_self) (by simpa using h)
      simp only [List.length_append, List.length_singleton]
      omega
/-- The routers that are reached from one. -/
def reS (l : List Ad) (r : Int) : List Int := match fndA l r with
  | none => []
  | some A => bfs l (unv l [r] + 1) [r] [A]
set_option maxRecDepth 100000 in
theorem bfs_step {l : List Ad} (hp : l.Pairwise (fun A B => A.r < B.r)) {S : List Int} {A : Ad} {W : List Ad} : bfs l (unv l S + (A :: W).length) S (A :: W) = bfs l (unv l ((lnk l A).foldl addA (S, W)).1 + ((lnk l A).foldl addA (S, W)).2.length) ((lnk l A).foldl addA (S, W)).1 ((lnk l A).foldl addA (S, W)).2 := by
  rw [add_keep hp (lnk l A) (fun B hB => lnk_mem hB) (S, W)]
  show bfs l (unv l S + W.length + 1) S (A :: W) = _
  rw [bfs]
set_option maxRecDepth 100000 in
/-- What is to be looked at comes from the database. -/
theorem add_from {l : List Ad} : ∀ (M : List Ad), (∀ B ∈ M, B ∈ l) → ∀ st : List Int × List Ad, (∀ B ∈ st.2, B ∈ l) → ∀ B ∈ (M.foldl addA st).2, B ∈ l
  | [], _, st, h, B, hB => h B hB
  | C :: M, hM, st, h, B, hB => by
    rw [List.foldl_cons] at hB
    refine add_from M (fun D hD => hM D (List.mem_cons_of_mem _ hD)) (addA st C) (fun D hD => ?_) B hB
    unfold addA at hD
    split at hD
    · exact h D hD
    · rcases List.mem_append.1 hD with hD | hD
      · exact h D hD
      · rw [List.mem_singleton] at hD; subst hD; exact hM D List.mem_cons_self
/-- The link between two linked routers. -/
def btw (A B : Ad) : Lk := ⟨A.r, B.r, (rcV A B.r).b, (rcV B A.r).b, min (rcV A B.r).c (rcV B A.r).c⟩
def ltA (A B : Ad) : Bool := decide (A.r < B.r)
/-- The links of one router to greater ones. -/
def vL1 (l : List Ad) (A : Ad) : List Lk := ((lnk l A).filter (ltA A)).map (btw A)
def inV (S : List Int) (A : Ad) : Bool := inS S A.r
def toR (A : Ad) : Rt := ⟨A.r, A.cp⟩
def vwR (l : List Ad) (S : List Int) : List Rt := (l.filter (inV S)).map toR
def vwL (l : List Ad) (S : List Int) : List Lk := (l.filter (inV S)).flatMap (vL1 l)
/-- The view. -/
def viewV (l : List Ad) (r : Int) : List Rt × List Lk :=
  if okD l = true then (if chk (vwR l (reS l r)) (vwL l (reS l r)) = 0 then (vwR l (reS l r), vwL l (reS l r)) else ([], [])) else ([], [])
end Go.Proofs.Ytnpkihioklpnmaa

/- database: where the advert of a router is (place); what an advert says of a router (reach); the link between two. -/
namespace Go.Proofs.Ytnpkihioklpnmaa
open Go.RowKit Bs
/-- Where the search for a router ends. -/
structure PlP (l : List Ad) (t : Int) (i : Nat) (b : Bool) : Prop where
  le : i ≤ l.length
  lo : ∀ x, 0 < i → l[i - 1]? = some x → x.r < t
  hi : ∀ x, l[i]? = some x → t ≤ x.r
  eq : b = (match l[i]? with | some x => decide (x.r = t) | none => false)
set_option maxRecDepth 100000 in
/-- In ascending adverts: it finds what there is. -/
theorem PlP.fnd {l : List Ad} (hp : l.Pairwise (fun A B => A.r < B.r)) {t : Int} {i : Nat} {b : Bool} (h : PlP l t i b) : (b = true → l[i]? = fndA l t ∧ (fndA l t).isSome = true) ∧ (b = false → fndA l t = none) := by
  have hlt : ∀ (a c : Nat) (x y : Ad), l[a]? = some x → l[c]? = some y → a < c → x.r < y.r := fun a c x y ha hc hac => by
    obtain ⟨h1, rfl⟩ := List.getElem?_eq_some_iff.1 ha
    obtain ⟨h2, rfl⟩ := List.getElem?_eq_some_iff.1 hc
    exact List.pairwise_iff_getElem.1 hp a c h1 h2 hac
  have heq := h.eq
  constructor
  · intro hb
    cases hx : l[i]? with
    | none => rw [hx] at heq; rw [heq] at hb; cases hb
    | some x =>
      rw [hx] at heq
      simp only at heq
      rw [hb] at heq
      have hxr : x.r = t := of_decide_eq_true heq.symm
      cases hf : fndA l t with
      | none =>
        have := List.find?_eq_none.1 hf x (List.mem_of_getElem? hx)
        unfold isR at this
        rw [decide_eq_true hxr] at this
        exact absurd rfl this
      | some B =>
        obtain ⟨h1, h2⟩ := fndA_some hf
        obtain ⟨j, hj⟩ := List.mem_iff_getElem?.1 h1
        refine ⟨congrArg some ?_, rfl⟩
        rcases Nat.lt_trichotomy i j with h3 | h3 | h3
        · have := hlt i j x B hx hj h3; omega
        · subst h3; rw [hx] at hj; exact Option.some.inj hj
        · have := hlt j i B x hj hx h3; omega
  · intro hb
    cases hf : fndA l t with
    | none => rfl
    | some B =>
      obtain ⟨h1, h2⟩ := fndA_some hf
      obtain ⟨j, hj⟩ := List.mem_iff_getElem?.1 h1
      exfalso
      rcases Nat.lt_trichotomy i j with h3 | h3 | h3
      · have hil : i < l.length := by have := (List.getElem?_eq_some_iff.1 hj).1; omega
        have hxi : l[i]? = some l[i] := List.getElem?_eq_getElem hil
        have h4 := hlt i j _ B hxi hj h3
        have h5 := h.hi _ hxi
        omega
      · subst h3
        rw [hj] at heq
        simp only at heq
        rw [hb, decide_eq_true h2] at heq
        cases heq
      · have hil : i - 1 < l.length := by have := h.le; omega
        have hxi : l[i - 1]? = some l[i - 1] := List.getElem?_eq_getElem hil
        have h5 := h.lo _ (by omega) hxi
        rcases Nat.lt_or_ge j (i - 1) with h6 | h6
        · have := hlt j (i - 1) B _ hj hxi h6; omega
        · have : j = i - 1 := by omega
          subst this
          rw [hj] at hxi
          have := Option.some.inj hxi
          rw [← this] at h5
          omega
def PlPost (l : List Ad) (t : Int) (w : World) (e : Ending) (w' : World) : Prop := ∃ (i : Nat) (b : Bool), e = .returned (.tuple #[.int .i64 (i : Int), .bool b]) ∧ PlP l t i b ∧ w.grownBy w' none
set_option maxRecDepth 100000 in
theorem dpl1_any (A : Ad) (t : Int) (w : World) :
    Calls Try.prog 119 #[.agg #[.int .i64 A.r, .int .i64 A.q, .bool A.cp, .slice A.pL A.L.length A.cL, .slice A.pC A.C.length A.cC], .int .i64 t] w fun e w' => e = .returned (.int .i64 (cmpV A.r t)) ∧ w.grownBy w' none := by
  obtain ⟨k1, k2⟩ := tone_box w #[.int .i64 A.r, .int .i64 A.q, .bool A.cp, .slice A.pL A.L.length A.cL, .slice A.pC A.C.length A.cC] 38
  have HB := Lib.hid (And.intro k1 k2)
  clear k1 k2
  go_enter Try.func119, Try.ntmps119
  go_upto_region 1 with fail
  generalize w.alloc _ = wa at *
  obtain ⟨c0, c1, c2, c3, c4⟩ := row5 HB.out.1
  go_wp2_with fail
  refine (tcmp_any _ _ _).mono ?_
  rintro e w1 ⟨rfl, rfl⟩
  go_wp2_with fail
  go_ret
  exact ⟨rfl, HB.out.2⟩
set_option maxRecDepth 100000 in
set_option maxHeartbeats 3200000 in
theorem dbs_any (l : List Ad) (t : Int) (p : Option Addr) (c : Nat) (q : Nat → Prop) (w : World) (hR : RdA w q (.slice p l.length c) l) (hm : l.length ≤ 1000000) :
    Calls Try.prog 118 #[.slice p l.length c, .int .i64 t, .func (.func 119) #[] #[]] w fun e w' => PlPost l t w e w' := by
  have eg : EnterF 119 := enters_of Try.func119 (by kernel_rfl) rfl
  have HR := Lib.hid hR
  clear hR
  have GZ : Hid (w.grownBy w none) := Lib.hid (grown_refl _ _)
  go_enter Try.func118, Try.ntmps118
  go_wp2_with fail
  go_loopw [9, 10] (fun vi vj wr => ∃ I J : Nat, I ≤ J ∧ J ≤ l.length ∧ vi = .int .i64 (I : Int) ∧ vj = .int .i64 (J : Int) ∧ Hid ((∀ x, 0 < I → l[I - 1]? = some x → x.r < t) ∧ ∀ x, l[J]? = some x → t ≤ x.r) ∧ Hid (w.grownBy wr none)) (fun vi vj _ => ((RowKit.intOf vj) - (RowKit.intOf vi)).toNat)
  case atStart => exact ⟨0, l.length, Nat.zero_le _, Nat.le_refl _, rfl, rfl, Lib.hid ⟨fun x h => by omega, fun x h => by rw [List.getElem?_eq_none (Nat.le_refl _)] at h; cases h⟩, GZ⟩
  case round =>
  obtain ⟨I, J, hIJ, hJ, rfl, rfl, HI, G⟩ := hrel
  clear GZ
  by_cases hlt : I < J
  · have hlt' : (I : Int) < (J : Int) := by omega
    obtain ⟨h, hh⟩ : ∃ h, (I + J) / 2 = h := ⟨_, rfl⟩
    have h1 : I ≤ h := by omega
    have h2 : h < J := by omega
    have hsum : (I : Int) + (J : Int) ≤ 2000000 := by omega
    go_upto_region 4 with fail
    go_cut [11] from 18 to 23 (fun v wx => v = .int .i64 (h : Int) ∧ wr = wx)
    case first =>
      go_wp2_with fail
      go_meet
      exact ⟨congrArg _ (by omega), rfl⟩
    case rest =>
    obtain ⟨rfl, rfl⟩ := hcut
    clear hh hsum
    obtain ⟨-, b, off, rfl, -, hc⟩ := rda_cells (HR.out.keep G.out) (by omega)
    obtain ⟨y, hy⟩ : ∃ y, l[h]? = some y := ⟨_, List.getElem?_eq_getElem (by omega)⟩
    obtain ⟨a0, a1, a2, a3, a4⟩ := hc h y hy
    have HY := Lib.hid hy
    have i0 : (0 : Int) ≤ (h : Int) := by omega
    have i1 : (h : Int) < (l.length : Int) := by omega
    obtain ⟨z, hz⟩ : ∃ z, cmpV y.r t = z := ⟨_, rfl⟩
    have hcall := dpl1_any y t wr
    rw [hz] at hcall
    have HZ := Lib.hid hz
    clear hc hy hz
    by_cases hzn : z < 0
    · have hzd : decide (z < 0) = true := decide_eq_true hzn
      go_wp2_with fail
      refine hcall.mono ?_
      rintro e w' ⟨rfl, hg⟩
      have H9 := Lib.hid (grown_trans G.out hg)
      clear hg a0 a1 a2 a3 a4
      go_wp2_with fail
      exact ⟨⟨h + 1, J, by omega, hJ, congrArg _ (by omega), rfl, Lib.hid ⟨fun x _ hx => by rw [Nat.add_sub_cancel, HY.out] at hx; obtain rfl := Option.some.inj hx; exact cmpV_lt.1 (by rw [HZ.out]; exact hzn), HI.out.2⟩, H9⟩, by simp only [RowKit.intOf]; omega⟩
    · have hzd : decide (z < 0) = false := decide_eq_false hzn
      go_wp2_with fail
      refine hcall.mono ?_
      rintro e w' ⟨rfl, hg⟩
      have H9 := Lib.hid (grown_trans G.out hg)
      clear hg a0 a1 a2 a3 a4
      go_wp2_with fail
      exact ⟨⟨I, h, h1, by omega, rfl, rfl, Lib.hid ⟨HI.out.1, fun x hx => by rw [HY.out] at hx; obtain rfl := Option.some.inj hx; exact cmpV_ge.1 (by rw [HZ.out]; omega)⟩, H9⟩, by simp only [RowKit.intOf]; omega⟩
  · obtain rfl : I = J := by omega
    have hnl : ¬ ((I : Int) < (I : Int)) := by omega
    by_cases hn : I < l.length
    · obtain ⟨-, b, off, rfl, -, hc⟩ := rda_cells (HR.out.keep G.out) (by omega)
      obtain ⟨y, hy⟩ : ∃ y, l[I]? = some y := ⟨_, List.getElem?_eq_getElem hn⟩
      obtain ⟨a0, a1, a2, a3, a4⟩ := hc I y hy
      have HY := Lib.hid hy
      have i0 : (0 : Int) ≤ (I : Int) := by omega
      have i1 : (I : Int) < (l.length : Int) := by omega
      have i2 : decide ((I : Int) < (l.length : Int)) = true := decide_eq_true i1
      obtain ⟨z, hz⟩ : ∃ z, cmpV y.r t = z := ⟨_, rfl⟩
      have hcall := dpl1_any y t wr
      rw [hz] at hcall
      have HZ := Lib.hid hz
      clear hc hy hz
      go_wp2_with fail
      refine hcall.mono ?_
      rintro e w' ⟨rfl, hg⟩
      have H9 := Lib.hid (grown_trans G.out hg)
      clear hg a0 a1 a2 a3 a4
      go_wp2_with fail
      go_ret2
      refine ⟨I, _, rfl, ⟨hJ, HI.out.1, HI.out.2, ?_⟩, H9.out⟩
      rw [HY.out]
      simp only
      rw [← HZ.out, Bool.eq_iff_iff, beq_iff_eq, decide_eq_true_eq]
      exact cmpV_eq
    · obtain rfl : I = l.length := by omega
      have hn' : decide ((l.length : Int) < (l.length : Int)) = false := decide_eq_false (by omega)
      go_wp2_with fail
      go_ret2
      refine ⟨l.length, _, rfl, ⟨hJ, HI.out.1, HI.out.2, ?_⟩, G.out⟩
      rw [List.getElem?_eq_none (Nat.le_refl _)]
set_option maxRecDepth 100000 in
theorem dplace_any (l : List Ad) (t : Int) (p : Option Addr) (c : Nat) (q : Nat → Prop) (w : World) (hR : RdA w q (.slice p l.length c) l) (hm : l.length ≤ 1000000) :
    Calls Try.prog 88 #[.slice p l.length c, .int .i64 t] w fun e w' => PlPost l t w e w' := by
  have HR := Lib.hid hR
  clear hR
  go_enter Try.func88, Try.ntmps88
  go_wp2_with fail
  refine (dbs_any l t p c q w HR.out hm).mono ?_
  rintro e w1 ⟨i, b, rfl, hP, hg⟩
  have HP := Lib.hid (And.intro hP hg)
  clear hP hg
  go_wp2_with fail
  go_ret2
  exact ⟨i, b, rfl, HP.out.1, HP.out.2⟩
set_option maxRecDepth 100000 in
theorem re_size : (Try.prog.info? 73).map (·.size) = some 3 := by kernel_rfl
set_option maxRecDepth 100000 in
theorem res_re_b {fn : Func} {p u : Tmp} (h : fn.results = #[.cell p 73, .tmp u]) (tmps : Array Value) (w : World) (g : Nat) (x y z : Value) (hp : tmps.getD p undef = .pointer (some ⟨g, 0, none⟩)) (hg : w.heap[g]? = some (.cells #[x, y, z] 73 (0, 0))) :
    (results fn tmps).run Try.prog w = .ok (.tuple #[.agg #[x, y, z], tmps.getD u undef]) w := by
  have hp' : tmps[p]?.getD undef = .pointer (some ⟨g, 0, none⟩) := by simpa using hp
  rw [results_cell_tmp h]
  simp [hp', asAddr, run_loadVar_row w g _ _ _ _ _ hg Try.underlying73 rfl re_size, Result.andThen]
set_option maxRecDepth 100000 in
theorem store3r {w : World} {g : Nat} {x0 x1 x2 : Value} {t : TypeId} (u0 u1 u2 : Value) (h : w.heap[g]? = some (.cells #[x0, x1, x2] t (0, 0))) :
    (((w.setCell ⟨g, 0, none⟩ u0).setCell ⟨g, 1, none⟩ u1).setCell ⟨g, 2, none⟩ u2).heap[g]? = some (.cells #[u0, u1, u2] t (0, 0)) ∧ w.grownBy (((w.setCell ⟨g, 0, none⟩ u0).setCell ⟨g, 1, none⟩ u1).setCell ⟨g, 2, none⟩ u2) (some g) := by
  have h0 : TRow w g t [x0, x1, x2] := h
  have S : ∀ (u : World) (j : Nat) (x : Value), u.grownBy (u.setCell ⟨g, j, none⟩ x) (some g) := fun u j x => grown_setCell u ⟨g, j, none⟩ x
  exact ⟨(((h0.set 0 u0).set 1 u1).set 2 u2), grown_trans (grown_trans (S _ _ _) (S _ _ _)) (S _ _ _)⟩
set_option maxRecDepth 100000 in
theorem rc_take {A : Ad} {r : Int} {k : Nat} {x : T3} (h : (A.L.take k).find? (isN r) = none) (hx : A.L[k]? = some x) : (A.L.take (k + 1)).find? (isN r) = if x.a = r then some x else none := by
  rw [List.take_add_one, hx, List.find?_append, h]
  unfold isN
  by_cases e : x.a = r <;> simp [e]
set_option maxRecDepth 100000 in
theorem rc_hit {A : Ad} {r : Int} {k : Nat} {x : T3} (h : (A.L.take k).find? (isN r) = none) (hx : A.L[k]? = some x) (e : x.a = r) : rcA A r = some x := by
  unfold rcA
  have h2 := rc_take h hx
  rw [if_pos e] at h2
  rw [← List.take_append_drop (k + 1) A.L, List.find?_append, h2]
  rfl
set_option maxRecDepth 100000 in
set_option maxHeartbeats 3200000 in
theorem dreach_any (A : Ad) (t : Int) (q : Nat → Prop) (w : World) (hA : AdOk w q A) :
    Calls Try.prog 97 #[.agg #[.int .i64 A.r, .int .i64 A.q, .bool A.cp, .slice A.pL A.L.length A.cL, .slice A.pC A.C.length A.cC], .int .i64 t] w fun e w' => e = .returned (.tuple #[.agg #[.int .i64 (rcV A t).a, .int .i64 (rcV A t).b, .int .i64 (rcV A t).c], .bool (rcA A t).isSome]) ∧ w.grownBy w' none := by
  obtain ⟨k1, k2, k3, k4⟩ := two_boxes w #[.int .i64 A.r, .int .i64 A.q, .bool A.cp, .slice A.pL A.L.length A.cL, .slice A.pC A.C.length A.cC] #[.int .i64 0, .int .i64 0, .int .i64 0] 38 73
  have HB := Lib.hid (And.intro k1 (And.intro k2 (And.intro k3 (hA.keep k3))))
  have hml : A.L.length ≤ 9223372036854775807 := Nat.le_trans hA.hl.1 hA.hl.2
  clear k1 k2 k3 k4 hA
  obtain ⟨r, q2, cp, L, C, pL, cL, pC, cC⟩ := A
  simp only at HB hml ⊢
  obtain ⟨O, hO⟩ : ∃ O, rcA ⟨r, q2, cp, L, C, pL, cL, pC, cC⟩ t = O := ⟨_, rfl⟩
  unfold rcV
  rw [hO]
  have HO := Lib.hid hO
  clear hO
  go_enter Try.func97, Try.ntmps97
  go_upto_region 1 with fail
  generalize (w.alloc _).alloc _ = wa at *
  obtain ⟨c0, c1, c2, c3, c4⟩ := row5 HB.out.1
  go_wp2_with fail
  go_loopw [11] (fun a wr => ∃ k : Nat, k ≤ L.length ∧ a = .int .i64 (k : Int) ∧ Hid ((L.take k).find? (isN t) = none) ∧ Hid (wa.grownBy wr none)) (fun a _ => L.length - (RowKit.intOf a).toNat)
  case atStart => exact ⟨0, Nat.zero_le _, rfl, Lib.hid rfl, Lib.hid (grown_refl _ _)⟩
  case round =>
    obtain ⟨k, hk, rfl, HN, G⟩ := hrel
    clear c0 c1 c2 c3 c4
    by_cases hlt : k < L.length
    · obtain ⟨-, b, off, rfl, hq, hc⟩ := rd3_cells (HB.out.2.2.2.keep G.out).l (show 0 < L.length by omega)
      obtain ⟨x, hx⟩ : ∃ x, L[k]? = some x := ⟨_, List.getElem?_eq_getElem hlt⟩
      obtain ⟨a0, a1, a2⟩ := hc k x hx
      have HX := Lib.hid hx
      have gal := World.grownBy_alloc wr (.cells #[.int .i64 x.a, .int .i64 x.b, .int .i64 x.c] 73) none
      have HL := Lib.hid (And.intro (heap_alloc_new wr (.cells #[.int .i64 x.a, .int .i64 x.b, .int .i64 x.c] 73)) (And.intro (kept_row HB.out.2.1 (grown_trans G.out gal) (by simp)) (grown_trans G.out gal)))
      clear hc hx gal
      go_upto_region 4 with fail
      clear a0 a1 a2
      generalize wr.alloc _ = wy at *
      obtain ⟨d0, d1, d2⟩ := row3 HL.out.1
      by_cases e : x.a = t
      · have e' : (x.a == t) = true := by simpa using e
        obtain rfl : some x = O := by rw [← HO.out]; exact (rc_hit (A := ⟨r, q2, cp, L, C, some ⟨b, off, none⟩, cL, pC, cC⟩) HN.out HX.out e).symm
        obtain ⟨z0, z1, z2⟩ := row3 HL.out.2.1
        have f0 := frozen_of_row _ _ 0 _ _ HL.out.2.1
        have f1 := frozen_of_row _ _ 1 _ _ HL.out.2.1
        have f2 := frozen_of_row _ _ 2 _ _ HL.out.2.1
        have HT := Lib.hid (store3r (.int .i64 x.a) (.int .i64 x.b) (.int .i64 x.c) HL.out.2.1)
        have HG := Lib.hid (grown_trans HB.out.2.2.1 HL.out.2.2)
        clear HL HB e
        go_wp2_with fail
        refine bodyPost_ret (res_re_b rfl _ _ (w.heap.size + 1) _ _ _ rfl HT.out.1) rfl ?_
        exact ⟨rfl, grown_new HG.out HT.out.2 (by omega)⟩
      · have e' : (x.a == t) = false := by simpa using e
        have HN2 : Hid ((L.take (k + 1)).find? (isN t) = none) := Lib.hid (by rw [rc_take (A := ⟨r, q2, cp, L, C, some ⟨b, off, none⟩, cL, pC, cC⟩) HN.out HX.out, if_neg e])
        clear e
        go_wp2_with fail
        exact ⟨⟨k + 1, by omega, congrArg _ (by omega), HN2, Lib.hid HL.out.2.2⟩, by simp only [RowKit.intOf]; omega⟩
    · obtain rfl : k = L.length := by omega
      obtain rfl : none = O := by rw [← HO.out]; unfold rcA; have := HN.out; rw [List.take_length] at this; exact this.symm
      have HZ := Lib.hid (kept_row HB.out.2.1 G.out (by simp))
      obtain ⟨z0, z1, z2⟩ := row3 HZ.out
      have f0 := frozen_of_row _ _ 0 _ _ HZ.out
      have f1 := frozen_of_row _ _ 1 _ _ HZ.out
      have f2 := frozen_of_row _ _ 2 _ _ HZ.out
      have HT := Lib.hid (store3r (.int .i64 0) (.int .i64 0) (.int .i64 0) HZ.out)
      have HG := Lib.hid (grown_trans HB.out.2.2.1 G.out)
      clear HZ HB G
      go_wp2_with fail
      refine bodyPost_ret (res_re_b rfl _ _ (w.heap.size + 1) _ _ _ rfl HT.out.1) rfl ?_
      exact ⟨rfl, grown_new HG.out HT.out.2 (by omega)⟩
end Go.Proofs.Ytnpkihioklpnmaa

/- slices.Clone of links, of claims and of adverts. -/
namespace Go.Proofs.Ytnpkihioklpnmaa
open Go.RowKit Bs
set_option maxRecDepth 100000 in
theorem info_ad5 : (Try.prog.info? 38).map (fun i => (i.zero, i.size, i.bytes)) = some (some (.agg #[.int .i64 0, .int .i64 0, .bool false, .slice none 0 0, .slice none 0 0]), 5, 72) := by kernel_rfl
set_option maxRecDepth 100000 in
set_option maxHeartbeats 1600000 in
theorem dclR_any (C : List T3) (p : Option Addr) (c : Nat) (q : Nat → Prop) (w : World) (hR : RdF w q (.slice p C.length c) C.length (C.flatMap t3C)) (hn : p = none → c = 0) (hc : C.length ≤ c ∧ c ≤ 9223372036854775807) (hm : C.length ≤ 1000) :
    Calls Try.prog 85 #[.slice p C.length c] w fun e w' => ∃ v, e = .returned v ∧ w'.ownsRow w.heap.size 73 3 v C.length (C.flatMap t3C) ∧ w.grownBy w' none := by
  obtain ⟨ii, hii, hi0, hi1, hi2⟩ := info_parts info_re
  cases p with
  | none =>
    obtain rfl := hn rfl
    have h0 : C.length = 0 := by omega
    obtain rfl := List.eq_nil_of_length_eq_zero h0
    clear hR
    have heq : ∀ w : World, (binOp .eql 35 (.slice none 0 0) (.slice none 0 0)).run Try.prog w = .ok (.bool true) w := fun w => Lib.run_eql_slice_nil w _ _ none 0 0 0 0 Try.underlying35
    go_enter Try.func85, Try.ntmps85
    go_wp2_with fail
    go_ret
    exact ⟨_, rfl, World.ownsRow_nil _ _ _ _, grown_refl _ _⟩
  | some ad =>
    have k0 := World.grownBy_alloc w (.cells #[] 73) none
    have hlit : (w.alloc (.cells #[] 73)).ownsRow w.heap.size 73 3 (.slice (some ⟨w.heap.size, 0, none⟩) 0 0) 0 (([] : List T3).flatMap t3C) := World.ownsRow_lit w #[] 0 (Nat.le_refl _) (by decide) rfl
    have HL := Lib.hid (And.intro hlit (And.intro k0 (hR.grown k0 (fun _ _ => by simp))))
    clear hlit k0 hR
    have heq : ∀ w : World, (binOp .eql 35 (.slice (some ad) C.length c) (.slice none 0 0)).run Try.prog w = .ok (.bool false) w := fun w => Lib.run_eql_slice_nil w _ _ (some ad) C.length c 0 0 Try.underlying35
    go_enter Try.func85, Try.ntmps85
    go_wp2_with (at_builtin; refine hold_on ?_)
    refine Lib.hid ?_
    refine wpList_append_f t3C 3 24 (by decide) (fun _ => rfl) t3_one 73 35 ii _ Try.underlying35 hii hi0 hi1 hi2 rfl (by decide) rfl _ _ rfl w.heap.size _ [] 0 rfl rfl HL.out.1 _ _ _ C rfl rfl (fun h => by cases h) q HL.out.2.2 hc.1 (by omega) (by simp) ?_
    intro v' w1 hown hg
    rw [List.nil_append] at hown
    have HO := Lib.hid (And.intro hown (old_grow HL.out.2.1 HL.out.1 (Nat.le_refl _) hg))
    clear hown hg
    go_wp2_with fail
    go_ret
    exact ⟨v', rfl, HO.out.1, HO.out.2⟩
set_option maxRecDepth 100000 in
set_option maxHeartbeats 1600000 in
theorem dclC_any (C : List T3) (p : Option Addr) (c : Nat) (q : Nat → Prop) (w : World) (hR : RdF w q (.slice p C.length c) C.length (C.flatMap t3C)) (hn : p = none → c = 0) (hc : C.length ≤ c ∧ c ≤ 9223372036854775807) (hm : C.length ≤ 1000) :
    Calls Try.prog 86 #[.slice p C.length c] w fun e w' => ∃ v, e = .returned v ∧ w'.ownsRow w.heap.size 62 3 v C.length (C.flatMap t3C) ∧ w.grownBy w' none := by
  obtain ⟨ii, hii, hi0, hi1, hi2⟩ := info_parts info_cm
  cases p with
  | none =>
    obtain rfl := hn rfl
    have h0 : C.length = 0 := by omega
    obtain rfl := List.eq_nil_of_length_eq_zero h0
    clear hR
    have heq : ∀ w : World, (binOp .eql 36 (.slice none 0 0) (.slice none 0 0)).run Try.prog w = .ok (.bool true) w := fun w => Lib.run_eql_slice_nil w _ _ none 0 0 0 0 Try.underlying36
    go_enter Try.func86, Try.ntmps86
    go_wp2_with fail
    go_ret
    exact ⟨_, rfl, World.ownsRow_nil _ _ _ _, grown_refl _ _⟩
  | some ad =>
    have k0 := World.grownBy_alloc w (.cells #[] 62) none
    have hlit : (w.alloc (.cells #[] 62)).ownsRow w.heap.size 62 3 (.slice (some ⟨w.heap.size, 0, none⟩) 0 0) 0 (([] : List T3).flatMap t3C) := World.ownsRow_lit w #[] 0 (Nat.le_refl _) (by decide) rfl
    have HL := Lib.hid (And.intro hlit (And.intro k0 (hR.grown k0 (fun _ _ => by simp))))
    clear hlit k0 hR
    have heq : ∀ w : World, (binOp .eql 36 (.slice (some ad) C.length c) (.slice none 0 0)).run Try.prog w = .ok (.bool false) w := fun w => Lib.run_eql_slice_nil w _ _ (some ad) C.length c 0 0 Try.underlying36
    go_enter Try.func86, Try.ntmps86
    go_wp2_with (at_builtin; refine hold_on ?_)
    refine Lib.hid ?_
    refine wpList_append_f t3C 3 24 (by decide) (fun _ => rfl) t3_one 62 36 ii _ Try.underlying36 hii hi0 hi1 hi2 rfl (by decide) rfl _ _ rfl w.heap.size _ [] 0 rfl rfl HL.out.1 _ _ _ C rfl rfl (fun h => by cases h) q HL.out.2.2 hc.1 (by omega) (by simp) ?_
    intro v' w1 hown hg
    rw [List.nil_append] at hown
    have HO := Lib.hid (And.intro hown (old_grow HL.out.2.1 HL.out.1 (Nat.le_refl _) hg))
    clear hown hg
    go_wp2_with fail
    go_ret
    exact ⟨v', rfl, HO.out.1, HO.out.2⟩
set_option maxRecDepth 100000 in
set_option maxHeartbeats 1600000 in
theorem dclA_any (C : List Ad) (p : Option Addr) (c : Nat) (q : Nat → Prop) (w : World) (hR : RdF w q (.slice p C.length c) C.length (C.flatMap adL)) (hn : p = none → c = 0) (hc : C.length ≤ c ∧ c ≤ 9223372036854775807) (hm : C.length ≤ 1000) :
    Calls Try.prog 87 #[.slice p C.length c] w fun e w' => ∃ v, e = .returned v ∧ w'.ownsRow w.heap.size 38 5 v C.length (C.flatMap adL) ∧ w.grownBy w' none := by
  obtain ⟨ii, hii, hi0, hi1, hi2⟩ := info_parts info_ad5
  cases p with
  | none =>
    obtain rfl := hn rfl
    have h0 : C.length = 0 := by omega
    obtain rfl := List.eq_nil_of_length_eq_zero h0
    clear hR
    have heq : ∀ w : World, (binOp .eql 23 (.slice none 0 0) (.slice none 0 0)).run Try.prog w = .ok (.bool true) w := fun w => Lib.run_eql_slice_nil w _ _ none 0 0 0 0 Try.underlying23
    go_enter Try.func87, Try.ntmps87
    go_wp2_with fail
    go_ret
    exact ⟨_, rfl, World.ownsRow_nil _ _ _ _, grown_refl _ _⟩
  | some ad =>
    have k0 := World.grownBy_alloc w (.cells #[] 38) none
    have hlit : (w.alloc (.cells #[] 38)).ownsRow w.heap.size 38 5 (.slice (some ⟨w.heap.size, 0, none⟩) 0 0) 0 (([] : List Ad).flatMap adL) := World.ownsRow_lit w #[] 0 (Nat.le_refl _) (by decide) rfl
    have HL := Lib.hid (And.intro hlit (And.intro k0 (hR.grown k0 (fun _ _ => by simp))))
    clear hlit k0 hR
    have heq : ∀ w : World, (binOp .eql 23 (.slice (some ad) C.length c) (.slice none 0 0)).run Try.prog w = .ok (.bool false) w := fun w => Lib.run_eql_slice_nil w _ _ (some ad) C.length c 0 0 Try.underlying23
    go_enter Try.func87, Try.ntmps87
    go_wp2_with (at_builtin; refine hold_on ?_)
    refine Lib.hid ?_
    refine wpList_append_f adL 5 72 (by decide) (fun _ => rfl) ad_one 38 23 ii _ Try.underlying23 hii hi0 hi1 hi2 rfl (by decide) rfl _ _ rfl w.heap.size _ [] 0 rfl rfl HL.out.1 _ _ _ C rfl rfl (fun h => by cases h) q HL.out.2.2 hc.1 (by omega) (by simp) ?_
    intro v' w1 hown hg
    rw [List.nil_append] at hown
    have HO := Lib.hid (And.intro hown (old_grow HL.out.2.1 HL.out.1 (Nat.le_refl _) hg))
    clear hown hg
    go_wp2_with fail
    go_ret
    exact ⟨v', rfl, HO.out.1, HO.out.2⟩
end Go.Proofs.Ytnpkihioklpnmaa

/- As until: what is not late keeps what holds. -/
namespace Go.Proofs.Ytnpkihioklpnmaa
open Go
section
variable {P : Program} {ops : Array Oper} {Q : Exit → Act → World → Prop} {md : Region.Mode} {S : World → Prop} {late : Nat → Bool}
/-- Any order from here on; S holds behind whatever is not late. -/
def anyV (P : Program) (md : Region.Mode) (ops : Array Oper) (Q : Exit → Act → World → Prop) (S : World → Prop) (late : Nat → Bool) : Nat → Array Bool → Act → World → Prop
  | 0, seen, a, w => Region.ready md ops seen = [] ∧ Q .normal a w
  | n + 1, seen, a, w => (Region.ready md ops seen = [] → Q .normal a w) ∧
      ∀ k, k ∈ Region.ready md ops seen → wpOp P ops Q k (fun b v => (late k = false → S w → S v) ∧ anyV P md ops Q S late n (seen.setIfInBounds k true) b v) a w
set_option maxRecDepth 100000 in
theorem anyV_any (n : Nat) : ∀ (seen : Array Bool) (a : Act) (w : World), anyV P md ops Q S late n seen a w → wpAny P md ops Q n seen a w := by
  induction n with
  | zero => intro seen a w h; exact h
  | succ n ih => intro seen a w h; exact ⟨h.1, fun k hk => wpOp_mono (fun b v hb => ih _ b v hb.2) (h.2 k hk)⟩
set_option maxRecDepth 100000 in
theorem anyV_first {i : Nat} {oi : Oper} {v : Value} (hi : ops[i]? = some oi) (hsel : ∀ (j : Nat) (o : Oper) cs b, ops[j]? = some o → o.op ≠ .select cs b)
    (hQ : ∀ c a w, Q (.panic c) (a.put oi.dst v) w → Q (.panic c) a w) (hw : waits md ops late i = true) (n : Nat) :
    ∀ (seen : Array Bool) (a : Act) (w : World),
      (∀ j oj, ops[j]? = some oj → j ≠ i → seen.getD j true = false → (∀ e ∈ oj.after, Region.binds md e = true → e.on ≠ i) → oi.apart ops oj = true) →
      Shut1 md ops seen → i ∈ Region.ready md ops seen → YieldsIf P ops S oi v a → S w → anyV P md ops Q S late n (seen.setIfInBounds i true) (a.put oi.dst v) w → anyV P md ops Q S late (n + 1) seen a w := by
  have now : ∀ (m : Nat) (seen : Array Bool) (a : Act) (w : World), YieldsIf P ops S oi v a → S w → anyV P md ops Q S late m (seen.setIfInBounds i true) (a.put oi.dst v) w →
      wpOp P ops Q i (fun b u => (late i = false → S w → S u) ∧ anyV P md ops Q S late m (seen.setIfInBounds i true) b u) a w := fun m seen a w hy hS h => hy.wpOp hi hS ⟨fun _ _ => hS, h⟩
  induction n with
  | zero =>
    intro seen a w _ _ hr hy hS h
    refine ⟨fun e => (by rw [e] at hr; cases hr), fun j hj => ?_⟩
    by_cases e : j = i
    · exact e ▸ now 0 seen a w hy hS h
    · have := ready_mono hj e
      rw [h.1] at this
      cases this
  | succ n ih =>
    intro seen a w hf hc hr hy hS h
    refine ⟨fun e => (by rw [e] at hr; cases hr), fun j hj => ?_⟩
    by_cases e : j = i
    · exact e ▸ now (n + 1) seen a w hy hS h
    obtain ⟨hun, oj, hoj, hall⟩ := mem_ready.1 hj
    have hno : ∀ e ∈ oj.after, Region.binds md e = true → e.on ≠ i := fun e he hb hei => by
      have h1 := hall e he hb
      have h0 := (mem_ready.1 hr).1
      rw [hei] at h1
      by_cases hlt : i < seen.size
      · simp [hlt] at h0 h1
        rw [h0] at h1
        cases h1
      · simp [Array.getElem?_eq_none (Nat.le_of_not_lt hlt)] at h1
    have hl : late j = false := by
      cases hl : late j with
      | false => rfl
      | true =>
        have h1 := waits_seen hw hc hj hl
        have h0 := (mem_ready.1 hr).1
        by_cases hlt : i < seen.size
        · simp [hlt] at h0 h1
          rw [h0] at h1
          cases h1
        · simp [Array.getElem?_eq_none (Nat.le_of_not_lt hlt)] at h1
    refine wpOp_mono (fun b u hb => ⟨hb.2.1, ih _ b u (fun k ok hk hki hsk hnk => hf k ok hk hki ?_ hnk) (hc.step hj) (ready_mono hr (Ne.symm e)) hb.1 (hb.2.1 hl hS) (by rw [Array.setIfInBounds_comm _ _ e]; exact hb.2.2)⟩)
      (wpOp_putIf hoj (hf j oj hoj e hun hno) (fun cs b => hsel i oi cs b hi) (fun cs b => hsel j oj cs b hoj) hQ hy (h.2 j (ready_mono hj e)))
    by_cases hjk : j = k
    · exact hjk ▸ hun
    · rwa [getD_set_ne true hjk] at hsk
set_option maxRecDepth 100000 in
theorem anyV_take {i : Nat} {oi : Oper} {v : Value} {n : Nat} {seen : Array Bool} {a : Act} {w : World} (hi : ops[i]? = some oi) (hw : waits md ops late i = true)
    (hc : shut1 md ops seen = true) (hs : Region.noSelect ops = true) (hf : Region.free md ops seen i = true) (hr : (Region.ready md ops seen).contains i = true)
    (hQ : ∀ c a w, Q (.panic c) (a.put oi.dst v) w → Q (.panic c) a w) (hy : YieldsIf P ops S oi v a) (hS : S w)
    (h : anyV P md ops Q S late n (seen.setIfInBounds i true) (a.put oi.dst v) w) : anyV P md ops Q S late (n + 1) seen a w :=
  anyV_first hi (Region.noSelect_spec hs) hQ hw n seen a w (Region.free_spec hi hf) (shut1_spec hc) (by simpa using hr) hy hS h
/-- Each of some operations comes up next. -/
def EachV (P : Program) (md : Region.Mode) (ops : Array Oper) (Q : Exit → Act → World → Prop) (S : World → Prop) (late : Nat → Bool) (n : Nat) (seen : Array Bool) (a : Act) (w : World) (rs : List Nat) : Prop :=
  ∀ k ∈ rs, wpOp P ops Q k (fun b v => (late k = false → S w → S v) ∧ anyV P md ops Q S late n (seen.setIfInBounds k true) b v) a w
set_option maxRecDepth 100000 in
theorem EachV.nil {n : Nat} {seen : Array Bool} {a : Act} {w : World} : EachV P md ops Q S late n seen a w [] := fun _ h => by cases h
set_option maxRecDepth 100000 in
theorem EachV.cons {n : Nat} {seen : Array Bool} {a : Act} {w : World} {i : Nat} {o : Oper} {rs : List Nat} (ho : ops[i]? = some o)
    (h : ∀ K : Act → World → Prop, Shut (∀ b v, (late i = false → S w → S v) → ((late i = false → S w → S v) → anyV P md ops Q S late n (seen.setIfInBounds i true) b v) → K b v) → if Region.wanted o (yielded ops a.tmps) = true then Oper.wp P o a w K Q else K (a.put o.dst undef) w)
    (hs : EachV P md ops Q S late n seen a w rs) : EachV P md ops Q S late n seen a w (i :: rs) := fun j hj => by
  rcases List.mem_cons.1 hj with rfl | hj
  · exact wpOp_step ho (fun K hK => h K (fun b v hS hW => hK b v ⟨hS, hW hS⟩))
  · exact hs j hj
set_option maxRecDepth 100000 in
theorem anyV_ready {rs : List Nat} {n : Nat} {seen : Array Bool} {a : Act} {w : World} (hr : Region.ready md ops seen = rs) (hne : rs ≠ []) (h : EachV P md ops Q S late n seen a w rs) : anyV P md ops Q S late (n + 1) seen a w :=
  ⟨fun e => absurd (hr ▸ e) hne, hr ▸ h⟩
set_option maxRecDepth 100000 in
theorem anyV_done {seen : Array Bool} {a : Act} {w : World} (hr : Region.ready md ops seen = []) (h : Q .normal a w) (n : Nat) : anyV P md ops Q S late n seen a w := by
  cases n with
  | zero => exact ⟨hr, h⟩
  | succ n => exact ⟨fun _ => h, by rw [hr]; intro k hk; cases hk⟩
set_option maxRecDepth 100000 in
theorem region_until2 {id : Nat} {a : Act} {w : World} (late : Nat → Bool) (hm : P.follows .mixedOrders = true) (hS : S w.drew) (h : S w.drew → anyV P .any ops Q S late ops.size (Array.replicate ops.size false) a w.drew) :
    (Code.region id ops true).wp P Q a w := wp_region_any hm (anyV_any _ _ _ _ (h hS))
end
end Go.Proofs.Ytnpkihioklpnmaa

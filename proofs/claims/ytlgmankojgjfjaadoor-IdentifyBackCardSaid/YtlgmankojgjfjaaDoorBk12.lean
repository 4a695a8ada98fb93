/- Parts of the proof, packed: IdBkLaw. -/
import Derived.Test.YtlgmankojgjfjaaDoorBk6
import Derived.Test.YtlgmankojgjfjaaDoorBk11
import Derived.Test.YtlgmankojgjfjaaDoorBk3
/- The law IdentifyBack. -/
namespace Go.Proofs.YtlgmankojgjfjaaDoor
open Go.RowKit Bs
/-- The names of the first i sets. -/
def bkK (n : Int) (L : List Sb) (i : Nat) : List Int := (L.take i).flatMap fun x => nmL x.s n x.b
set_option maxRecDepth 100000 in
theorem bkK_at {n : Int} {L : List Sb} {i : Nat} {x : Sb} (hx : L[i]? = some x) : bkK n L (i + 1) = bkK n L i ++ nmL x.s n x.b := by
  unfold bkK
  rw [List.take_add_one, hx, List.flatMap_append]
  simp
set_option maxRecDepth 100000 in
theorem bkK_end (n : Int) (L : List Sb) : bkK n L L.length = L.flatMap fun x => nmL x.s n x.b := by unfold bkK; rw [List.take_length]
set_option maxRecDepth 100000 in
theorem bkK_len (n : Int) (L : List Sb) : ∀ i, (bkK n L i).length ≤ 64 * i
  | 0 => by simp [bkK]
  | i + 1 => by
    have ih := bkK_len n L i
    cases hx : L[i]? with
    | none =>
      have e : bkK n L (i + 1) = bkK n L i := by unfold bkK; rw [List.take_add_one, hx]; simp
      rw [e]; omega
    | some x =>
      rw [bkK_at hx, List.length_append, nmL_len]
      have := bl_length_le x.b
      omega
set_option maxRecDepth 100000 in
theorem nm_src {w : World} {base : Nat} {p : Option Addr} {c : Nat} {X : List Int} (h : w.ownsRow base 3 1 (.slice p X.length c) X.length (X.map tv)) : X.length ≤ c ∧ (p = none → c = 0) ∧ RdF w (fun _ => True) (.slice p X.length c) X.length (X.flatMap ivC) := by
  have e : X.flatMap ivC = X.map tv := flat_iv X
  obtain ⟨p1, c1, e1, hc1, -⟩ := own_shape h
  injection e1 with a1 a2 a3
  subst a1; subst a3
  refine ⟨hc1, ?_, by rw [e]; exact (rdf_of_own h).mono (fun _ _ => trivial)⟩
  rintro rfl
  rcases h.2 with ⟨e2, h0⟩ | ⟨g, cap, cur, e2, _⟩
  · injection e2
  · injection e2 with e3; cases e3
/-- What the law keeps in memory. -/
structure SB (W w1 : World) (a P : Nat) (sub n : Int) (E : List Ed) (pE : Option Addr) (cE : Nat) (w : World) : Prop where
  hp : w.heap[P]? = some (.cells #[.int .i64 sub, .int .i64 n, .slice pE E.length cE] 30 (0, 0))
  rd : RdF w (fun b => b ≠ a ∧ b < P) (.slice pE E.length cE) E.length (E.flatMap edC)
  gr : W.grownBy w none
  st : St a w1 w
  lo : W.heap.size ≤ a ∧ a < w1.heap.size ∧ w1.heap.size ≤ P ∧ P < w.heap.size
section
variable {W w w1 w2 : World} {a P : Nat} {sub n : Int} {E : List Ed} {pE : Option Addr} {cE : Nat}
set_option maxRecDepth 100000 in
theorem SB.keep (h : SB W w1 a P sub n E pE cE w) (g : w.grownBy w2 none) : SB W w1 a P sub n E pE cE w2 :=
  ⟨kept_row h.hp g (by simp), h.rd.keep g, grown_trans h.gr g, h.st.none_ g, h.lo.1, h.lo.2.1, h.lo.2.2.1, Nat.lt_of_lt_of_le h.lo.2.2.2 g.size⟩
set_option maxRecDepth 100000 in
theorem SB.tape (h : SB W w1 a P sub n E pE cE w) (k : St a w w2) : SB W w1 a P sub n E pE cE w2 := by
  have hlo := h.lo
  have hn : ∀ b, b ≠ a → some b ≠ some a := fun b hb e => hb (Option.some.inj e)
  exact ⟨kept_row h.hp k.1 (hn _ (by omega)), h.rd.grown k.1 (fun b hb => hn b hb.1), grown_new h.gr k.1 (by omega), h.st.trans k, h.lo.1, h.lo.2.1, h.lo.2.2.1, Nat.lt_of_lt_of_le h.lo.2.2.2 k.1.size⟩
set_option maxRecDepth 100000 in
theorem SB.row {base m : Nat} {e : TypeId} {v : Value} {xs2 : List Value} (h : SB W w1 a P sub n E pE cE w) (ho : w.ownsRow base e 1 v m xs2) (hb : P < base) (g : w.grownBy w2 v.ownBlock) : SB W w1 a P sub n E pE cE w2 := by
  have hlo := h.lo
  have hne : ∀ b, b ≤ P → some b ≠ v.ownBlock := fun b hb2 e => by have := (ho.lt b e.symm).1; omega
  exact ⟨kept_row h.hp g (hne _ (by omega)), h.rd.grown g (fun b hb2 => hne b (by omega)), grown_any h.gr g (fun b hb2 => hne b (by omega)), h.st.rowT ho (by omega) hlo.2.1 g, h.lo.1, h.lo.2.1, h.lo.2.2.1, Nat.lt_of_lt_of_le h.lo.2.2.2 g.size⟩
/-- While the names come back. -/
structure BB (W w1 : World) (a P C : Nat) (sub n : Int) (E : List Ed) (pE : Option Addr) (cE : Nat) (M : List Int) (q : Option Addr) (d : Nat) (LL : List Sb) (pl : Option Addr) (cl : Nat) (i : Nat) (vb : Value) (w : World) : Prop where
  sb : SB W w1 a P sub n E pE cE w
  rm : Rd w (fun b => b < C) (.slice q M.length d) (M.map tv)
  rl : RdF w (fun b => b < C) (.slice pl LL.length cl) LL.length (LL.flatMap sbC)
  own : w.ownsRow C 3 1 vb (bkK n LL i).length ((bkK n LL i).flatMap ivC)
  lo : C ≤ w.heap.size
  hc : P < C
variable {C d cl i : Nat} {M : List Int} {q pl : Option Addr} {LL : List Sb} {vb v' : Value}
set_option maxRecDepth 100000 in
theorem BB.keep (h : BB W w1 a P C sub n E pE cE M q d LL pl cl i vb w) (g : w.grownBy w2 none) : BB W w1 a P C sub n E pE cE M q d LL pl cl i vb w2 :=
  ⟨h.sb.keep g, h.rm.keep g, h.rl.keep g, h.own.kept g (by cases vb.ownBlock <;> simp), Nat.le_trans h.lo g.size, h.hc⟩
set_option maxRecDepth 100000 in
theorem BB.put {i2 : Nat} (h : BB W w1 a P C sub n E pE cE M q d LL pl cl i vb w) (hown : w2.ownsRow C 3 1 v' (bkK n LL i2).length ((bkK n LL i2).flatMap ivC)) (g : w.grownBy w2 vb.ownBlock) : BB W w1 a P C sub n E pE cE M q d LL pl cl i2 v' w2 := by
  have hne : ∀ b, b < C → some b ≠ vb.ownBlock := fun b hb2 e => by have := (h.own.lt b e.symm).1; omega
  exact ⟨h.sb.row h.own h.hc g, h.rm.grown g hne, h.rl.grown g hne, hown, Nat.le_trans h.lo g.size, h.hc⟩
end
set_option maxRecDepth 100000 in
set_option maxHeartbeats 51200000 in
theorem back_walk (v : Value) (w : World) (hv : IntsIn w v) (hT : Tb w) :
    Calls Tryd.prog 4 #[v] w fun e w' => e = .returned (.bool true) ∧ w.grownBy w' none := by
  obtain ⟨ii, hi, hi0, hi1, hi2⟩ := info_parts info_int
  have HV := Lib.hid hv
  have HTB := Lib.hid hT
  clear hv hT
  go_enter Tryd.func4, Tryd.ntmps4
  go_wp2_with fail
  refine (new_any v w HV.out).mono ?_
  rintro e w1 ⟨rfl, hg1, hT1⟩
  have H1 := Lib.hid (And.intro hT1 (And.intro hg1 hT1.lt))
  clear hg1 hT1 HV
  obtain ⟨a, ha⟩ : ∃ a, w.heap.size = a := ⟨_, rfl⟩
  have HA := Lib.hid ha
  rw [ha] at H1 ⊢
  clear ha
  have hne : ∀ b, b < a → some b ≠ some a := fun b hb e => by have := Option.some.inj e; omega
  have haw := H1.out.2.2
  go_wp2_with fail
  refine (topo_any a 8 0 (by omega) (by omega) (by unfold I64; omega) _ H1.out.1).mono ?_
  rintro e w4 ⟨R, L, vR, vL, rfl, hoR, hoL, -, hTo, hs⟩
  obtain ⟨pR, cR, rfl, -, -⟩ := own_shape hoR
  obtain ⟨pL, cL, rfl, -, -⟩ := own_shape hoL
  have hR40 : R.length ≤ 40 := by have := hTo.2.2.1; omega
  have hRR : RdR w4 (fun b => b ≠ a ∧ b < w4.heap.size) (.slice pR R.length cR) R := (rdf_of_own2 hoR).mono (fun b hb => ⟨by have := hb.1; omega, hb.2⟩)
  go_wp2_with fail
  refine (tplan_any a 0 (by unfold I64; omega) R pR pL cR L.length cL hR40 w4 hs.2 hRR).mono ?_
  rintro e w5 ⟨sub, n, E, pE, cE, rfl, hoE, hEl, hpe, hs5⟩
  have hs2 := hs.trans hs5
  have hEl2 : E.length ≤ 41 := by omega
  have HVP : Hid (vPl sub n E = true) := Lib.hid (by
    obtain ⟨h1, h2, O, i, id, h3, h4⟩ := hpe (by omega)
    have h5 : inV sub 0 7 = true := by
      unfold inV at h1 ⊢
      have := of_decide_eq_true h1
      exact decide_eq_true (by omega)
    exact (h4.valid (hTo.2.2.2.2 (by omega)).1 h3 h5 h2).1)
  obtain ⟨n1k, n2k⟩ := tone_box w5 #[.int .i64 sub, .int .i64 n, .slice pE E.length cE] 30
  have S0 : Hid (SB w w1 a w5.heap.size sub n E pE cE (w5.alloc (.cells #[.int .i64 sub, .int .i64 n, .slice pE E.length cE] 30))) := Lib.hid ⟨n1k, ((rdf_of_own2 hoE).mono (fun b hb => ⟨by have := hb.1; have := hs.1.size; omega, hb.2⟩)).keep n2k, grown_trans (grown_new H1.out.2.1 hs2.1 (Nat.le_of_eq HA.out)) n2k, hs2.none_ n2k, Nat.le_of_eq HA.out, haw, hs2.1.size, by simp⟩
  clear hs hs2 hs5 hoE hoR hoL hTo hRR hEl hne H1 n1k n2k hpe haw
  go_upto_region 3 with fail
  generalize w5.alloc _ = w6 at *
  generalize w5.heap.size = P at *
  have O0 : Hid (w6.ownsRow (P + 1) 3 1 (.slice none 0 0) 0 []) := Lib.hid (World.ownsRow_nil _ _ _ _)
  go_wp2_with fail
  go_loopw [5, 7] (fun v x wr => ∃ (k : Nat) (M : List Int) (q : Option Addr) (d : Nat), k ≤ E.length ∧ x = .int .i64 (k : Int) ∧ v = .slice q M.length d ∧ M.length ≤ k ∧ Hid (M.Sublist ((E.take k).map Ed.i)) ∧ Hid (SB w w1 a P sub n E pE cE wr ∧ wr.ownsRow (P + 1) 3 1 (.slice q M.length d) M.length (M.map tv))) (fun _ x _ => E.length - (RowKit.intOf x).toNat)
  case atStart => exact ⟨0, [], none, 0, Nat.zero_le _, rfl, rfl, Nat.zero_le _, Lib.hid (List.nil_sublist _), Lib.hid ⟨S0.out, O0.out⟩⟩
  case round =>
  clear S0 O0
  obtain ⟨k, M, q, d, hk, rfl, rfl, hMk, HS, S1⟩ := hrel
  obtain ⟨w7, hw7⟩ : ∃ w7, w7 = wr := ⟨_, rfl⟩
  rw [← hw7] at S1 ⊢
  clear hw7
  obtain ⟨⟨d0, d1, d2⟩, -⟩ := row3i S1.out.1.hp
  by_cases hlt : k < E.length
  case pos =>
    have hlt' : (k : Int) < (E.length : Int) := by omega
    go_wp2_with fail
    refine (next_any a 3 (by unfold I64; omega) _ S1.out.1.st.2).mono ?_
    rintro e w8 ⟨y, rfl, -, hs⟩
    have S2 := Lib.hid (And.intro (S1.out.1.tape hs) (own_other S1.out.2 hs.1 (by have := S1.out.1.lo; omega)))
    clear hs S1 d0 d1 d2
    obtain ⟨x, hx⟩ : ∃ x, E[k]? = some x := ⟨_, List.getElem?_eq_getElem hlt⟩
    have hE1 : (E.take (k + 1)).map Ed.i = (E.take k).map Ed.i ++ [x.i] := by rw [List.take_add_one, hx, List.map_append]; rfl
    by_cases hy : 0 < y
    case neg =>
      have HS2 : Hid (M.Sublist ((E.take (k + 1)).map Ed.i)) := Lib.hid (by rw [hE1]; exact HS.out.trans (List.sublist_append_left _ _))
      clear hE1 hx
      go_wp2_with fail
      exact ⟨⟨k + 1, M, q, d, by omega, congrArg _ (by omega), rfl, by omega, HS2, S2⟩, by simp only [RowKit.intOf]; omega⟩
    have HS2 : Hid ((M ++ [x.i]).Sublist ((E.take (k + 1)).map Ed.i)) := Lib.hid (by rw [hE1]; exact List.Sublist.append HS.out (List.Sublist.refl _))
    obtain ⟨⟨d0, d1, d2⟩, -⟩ := row3i S2.out.1.hp
    obtain ⟨-, b, off, rfl, -, hcc⟩ := ed_cells S2.out.1.rd (by omega)
    obtain ⟨-, a1⟩ := hcc k x hx
    clear hcc hx hE1 HS
    have HO2 := Lib.hid S2.out.2
    have hsz : P < w8.heap.size := S2.out.1.lo.2.2.2
    go_wp2_with (at_builtin; refine hold_on ?_)
    refine Lib.hid ?_
    refine wpList_append_lies _ rfl _ _ 22 rfl (P + 1) 3 ii (.int .i64 0) 1 8 Tryd.underlying22 hi hi0 hi1 hi2 rfl (by decide) (.slice q M.length d) M.length (M.map tv) rfl (HO2.out.alloc _) ⟨w8.heap.size, 0, none⟩ 1 1 [.int .i64 x.i] rfl rfl (int_row w8 x.i _) (int_one x.i) (by decide) (by unfold maxLen; omega) (by omega) (by simp; omega) _ rfl ?_
    intro g cap w9 hown hgrow hat hlt9
    have S3 := Lib.hid (And.intro ((S2.out.1.keep (World.grownBy_alloc _ _ none)).row (S2.out.2.alloc _) (by omega) hgrow) (show w9.ownsRow (P + 1) 3 1 (.slice (some ⟨g, 0, none⟩) (M ++ [x.i]).length cap) (M ++ [x.i]).length ((M ++ [x.i]).map tv) by rw [List.length_append, List.map_append]; simpa [tv] using hown))
    have hl2 : (M ++ [x.i]).length ≤ k + 1 := by rw [List.length_append]; simp; omega
    have hl3 : M.length + 1 = (M ++ [x.i]).length := by rw [List.length_append]; rfl
    rw [hl3]
    obtain ⟨M2, hM2⟩ : ∃ M2, M ++ [x.i] = M2 := ⟨_, rfl⟩
    rw [hM2] at S3 hl2 HS2 ⊢
    clear hown hgrow hat hlt9 HO2 S2 hl3 hM2 d0 d1 d2 a1 hsz
    go_wp2_with fail
    exact ⟨⟨k + 1, M2, some ⟨g, 0, none⟩, cap, by omega, congrArg _ (by omega), rfl, hl2, HS2, S3⟩, by simp only [RowKit.intOf]; omega⟩
  case neg =>
  obtain rfl : k = E.length := by omega
  have hnl : ¬ (E.length : Int) < (E.length : Int) := by omega
  rw [List.take_length] at HS
  have HBL := Lib.hid (bk_law HVP.out HS.out)
  have hEm : E.length ≤ 9223372036854775807 := by omega
  go_wp2_with fail
  refine (isets_any sub n E pE cE M q d w7 S1.out.1.rd.old hEm (rd_of_own S1.out.2).old (by omega)).mono ?_
  rintro e w9 ⟨pl, cl, rfl, ho, hg⟩
  rw [HBL.out.1, HBL.out.2.1]
  rw [HBL.out.2.1] at ho
  have hlen : (seL n M).length ≤ 41 := by
    have := seL_len n M []
    unfold seL
    simp only [List.length_nil] at this
    omega
  obtain ⟨LL, hLL⟩ : ∃ LL, seL n M = LL := ⟨_, rfl⟩
  rw [hLL] at ho hlen ⊢
  have HLU : Hid (∀ y ∈ LL, U64 y.b) := Lib.hid (by rw [← hLL]; exact seL_u n M)
  have HLB : Hid (BkI n M LL ∧ ∀ x ∈ LL, nmX sub n E x.s x.b = 0 ∧ nmO sub n E x.s x.b = nmL x.s n x.b) := Lib.hid (by rw [← hLL]; exact HBL.out.2.2)
  have B0 : Hid (BB w w1 a P w9.heap.size sub n E pE cE M q d LL pl cl 0 (.slice none 0 0) w9) := Lib.hid ⟨S1.out.1.keep hg, ((rd_of_own S1.out.2).keep hg).old, (rdf_of_own ho).old, World.ownsRow_nil _ _ _ _, Nat.le_refl _, Nat.lt_of_lt_of_le S1.out.1.lo.2.2.2 hg.size⟩
  clear ho hg S1 d0 d1 d2 hnl hLL HBL HS
  generalize w9.heap.size = C at *
  go_wp2_with fail
  go_loopw [6, 10] (fun v x wr => ∃ (i : Nat) (pb : Option Addr) (cb : Nat), i ≤ LL.length ∧ x = .int .i64 (i : Int) ∧ v = .slice pb (bkK n LL i).length cb ∧ Hid (BB w w1 a P C sub n E pE cE M q d LL pl cl i (.slice pb (bkK n LL i).length cb) wr)) (fun _ x _ => LL.length - (RowKit.intOf x).toNat)
  case atStart => exact ⟨0, none, 0, Nat.zero_le _, rfl, rfl, B0⟩
  case round =>
  clear B0
  obtain ⟨i, pb, cb, hiL, rfl, rfl, S10⟩ := hrel
  obtain ⟨w10, hw10⟩ : ∃ w10, w10 = wr := ⟨_, rfl⟩
  rw [← hw10] at S10 ⊢
  clear hw10
  by_cases hlt2 : i < LL.length
  case neg =>
    obtain rfl : i = LL.length := by omega
    have hnl : ¬ (LL.length : Int) < (LL.length : Int) := by omega
    have HEQ : Hid (bkK n LL LL.length = M) := Lib.hid ((bkK_end n LL).trans HLB.out.1.all)
    rw [HEQ.out] at S10 ⊢
    have hown : w10.ownsRow C 3 1 (.slice pb M.length cb) M.length (M.flatMap ivC) := by
      have := S10.out.own
      rw [HEQ.out] at this
      exact this
    have HB : Hid (Rd w10 (fun _ => True) (.slice pb M.length cb) (M.map fun z => Value.int .i64 z)) := Lib.hid (by rw [← flat_iv M]; exact (rd_of_own hown).mono (fun _ _ => trivial))
    clear hown
    go_wp2_with fail
    refine (iints_any M pb q cb d _ _ w10 HB.out S10.out.rm (by omega)).mono ?_
    rintro e w11 ⟨rfl, hg⟩
    have G := Lib.hid (grown_trans S10.out.sb.gr hg)
    clear hg S10 HB HEQ
    go_wp2_with fail
    refine (iawake_any w11).mono ?_
    rintro e w12 ⟨rfl, hg⟩
    have G2 := Lib.hid (grown_trans G.out hg)
    clear hg G
    go_wp2_with fail
    go_ret
    exact ⟨rfl, G2.out⟩
  case pos =>
  have hlt2' : (i : Int) < (LL.length : Int) := by omega
  have hi00 : (0 : Int) ≤ (i : Int) := by omega
  obtain ⟨x, hx⟩ : ∃ x, LL[i]? = some x := ⟨_, List.getElem?_eq_getElem hlt2⟩
  have hxm := List.mem_of_getElem? hx
  have hxu := HLU.out x hxm
  obtain ⟨-, bL, oL, rfl, -, hcL⟩ := RdF.cells (f := sbC) (k := 2) (fun _ => rfl) (by decide) S10.out.rl (by omega)
  have HC := Lib.hid (And.intro (show w10.cell? ⟨bL, oL + i * 2, none⟩ = some (.int .i64 x.s) by have := hcL i x hx 0 _ rfl; rwa [Nat.add_zero] at this) (hcL i x hx 1 _ rfl))
  have HX := Lib.hid hx
  have HB2 : Hid (bkK n LL (i + 1) = bkK n LL i ++ nmL x.s n x.b) := Lib.hid (bkK_at hx)
  have HNX := Lib.hid (HLB.out.2 x hxm)
  have HNE := Lib.hid (HLB.out.1.ne x hxm)
  have HF := Lib.hid (And.intro S10.out.sb trivial)
  have GZ : Hid (w10.grownBy w10 none) := Lib.hid (grown_refl _ _)
  clear hx hxm hcL
  go_upto_region 13 with fail
  refine wp_region_held_drew (S := fun w' => Hid (w10.grownBy w' none)) (by kernel_rfl) (hid_drew GZ) (fun hHeld => ?_)
  refine wpAnyH_take (i := 0) (oi := { dst := some 51, op := Op.load 30 (Operand.tmp 4), type := 30, pos := "law.go:212", after := #[], guard := none }) (v := ?_) rfl (by kernel_rfl) (by kernel_rfl) (by kernel_rfl) (fun _ _ _ h => h) (Or.inl ⟨by rfl, ?_⟩) hHeld ?_
  rotate_left 1
  · intro u hSu
    obtain ⟨⟨d0, d1, d2⟩, -⟩ := row3i (kept_row HF.out.1.hp hSu.out (by simp))
    have cs0 := hSu.out.cell HC.out.1 (by simp)
    have cs1 := hSu.out.cell HC.out.2 (by simp)
    go_simp
    first | done | with_reducible rfl
  (try simp only [Act.put, List.setIfInBounds_toArray, List.set_cons_zero, List.set_cons_succ])
  refine wpAnyH_take (i := 1) (oi := { dst := some 52, op := Op.move (Operand.tmp 8), type := 43, pos := "law.go:212", after := #[], guard := none }) (v := ?_) rfl (by kernel_rfl) (by kernel_rfl) (by kernel_rfl) (fun _ _ _ h => h) (Or.inl ⟨by rfl, ?_⟩) hHeld ?_
  rotate_left 1
  · intro u hSu
    obtain ⟨⟨d0, d1, d2⟩, -⟩ := row3i (kept_row HF.out.1.hp hSu.out (by simp))
    have cs0 := hSu.out.cell HC.out.1 (by simp)
    have cs1 := hSu.out.cell HC.out.2 (by simp)
    go_simp
    first | done | with_reducible rfl
  (try simp only [Act.put, List.setIfInBounds_toArray, List.set_cons_zero, List.set_cons_succ])
  refine wpAnyH_take (i := 2) (oi := { dst := some 53, op := Op.move (Operand.tmp 10), type := 3, pos := "law.go:212", after := #[], guard := none }) (v := ?_) rfl (by kernel_rfl) (by kernel_rfl) (by kernel_rfl) (fun _ _ _ h => h) (Or.inl ⟨by rfl, ?_⟩) hHeld ?_
  rotate_left 1
  · intro u hSu
    obtain ⟨⟨d0, d1, d2⟩, -⟩ := row3i (kept_row HF.out.1.hp hSu.out (by simp))
    have cs0 := hSu.out.cell HC.out.1 (by simp)
    have cs1 := hSu.out.cell HC.out.2 (by simp)
    go_simp
    first | done | with_reducible rfl
  (try simp only [Act.put, List.setIfInBounds_toArray, List.set_cons_zero, List.set_cons_succ])
  refine wpAnyH_take (i := 3) (oi := { dst := some 54, op := Op.indexAddr 43 (Operand.tmp 52) (Operand.tmp 53), type := 0, pos := "law.go:212", after := #[{ on := 1, ground := Ground.data }, { on := 2, ground := Ground.data }], guard := none }) (v := ?_) rfl (by kernel_rfl) (by kernel_rfl) (by kernel_rfl) (fun _ _ _ h => h) (Or.inl ⟨by rfl, ?_⟩) hHeld ?_
  rotate_left 1
  · intro u hSu
    obtain ⟨⟨d0, d1, d2⟩, -⟩ := row3i (kept_row HF.out.1.hp hSu.out (by simp))
    have cs0 := hSu.out.cell HC.out.1 (by simp)
    have cs1 := hSu.out.cell HC.out.2 (by simp)
    go_simp
    first | done | with_reducible rfl
  (try simp only [Act.put, List.setIfInBounds_toArray, List.set_cons_zero, List.set_cons_succ])
  refine wpAnyH_take (i := 4) (oi := { dst := some 55, op := Op.load 25 (Operand.tmp 54), type := 25, pos := "law.go:212", after := #[{ on := 3, ground := Ground.data }], guard := none }) (v := ?_) rfl (by kernel_rfl) (by kernel_rfl) (by kernel_rfl) (fun _ _ _ h => h) (Or.inl ⟨by rfl, ?_⟩) hHeld ?_
  rotate_left 1
  · intro u hSu
    obtain ⟨⟨d0, d1, d2⟩, -⟩ := row3i (kept_row HF.out.1.hp hSu.out (by simp))
    have cs0 := hSu.out.cell HC.out.1 (by simp)
    have cs1 := hSu.out.cell HC.out.2 (by simp)
    go_simp
    first | done | with_reducible rfl
  (try simp only [Act.put, List.setIfInBounds_toArray, List.set_cons_zero, List.set_cons_succ])
  refine wpAnyH_ready (rs := [5]) (by kernel_rfl) (by simp) ?_
  refine AllReadyH.cons (o := { dst := some 56, op := Op.call { callee := Callee.value (Operand.func 15), args := #[Operand.tmp 51, Operand.tmp 55], argTypes := #[30, 25] }, type := 48, pos := "law.go:212", after := #[{ on := 0, ground := Ground.data }, { on := 4, ground := Ground.data }], guard := none }) rfl (fun Kz hK => ?_) AllReadyH.nil
  go_simp
  go_at_call 15
  refine (inames_any sub n E pE cE x.s x.b hxu _ (HF.out.1.rd.keep hHeld.out).old hEm (HTB.out.keep (grown_trans HF.out.1.gr hHeld.out))).mono ?_
  rintro e w11 ⟨p2, c2, rfl, ho, hg⟩
  have Hn : Hid (w10.grownBy _ none) := Lib.hid (grown_trans hHeld.out hg)
  have hol := Lib.hid (nm_src ho)
  clear hg ho
  refine hK.out _ _ (Hn) (fun hH2 => ?_)
  clear hK Kz hHeld
  have hHeld := hH2
  clear hH2
  (try simp only [Act.put, List.setIfInBounds_toArray, List.set_cons_zero, List.set_cons_succ])
  refine wpAnyH_take (i := 6) (oi := { dst := some 50, op := Op.move (Operand.tmp 56), type := 48, pos := "law.go:212", after := #[{ on := 5, ground := Ground.data }], guard := none }) (v := ?_) rfl (by kernel_rfl) (by kernel_rfl) (by kernel_rfl) (fun _ _ _ h => h) (Or.inl ⟨by rfl, ?_⟩) hHeld ?_
  rotate_left 1
  · intro u hSu
    obtain ⟨⟨d0, d1, d2⟩, -⟩ := row3i (kept_row HF.out.1.hp hSu.out (by simp))
    have cs0 := hSu.out.cell HC.out.1 (by simp)
    have cs1 := hSu.out.cell HC.out.2 (by simp)
    go_simp
    first | done | with_reducible rfl
  (try simp only [Act.put, List.setIfInBounds_toArray, List.set_cons_zero, List.set_cons_succ])
  refine wpAnyH_take (i := 7) (oi := { dst := some 57, op := Op.extract (Operand.tmp 50) 0, type := 22, pos := "law.go:212", after := #[{ on := 6, ground := Ground.data }], guard := none }) (v := ?_) rfl (by kernel_rfl) (by kernel_rfl) (by kernel_rfl) (fun _ _ _ h => h) (Or.inl ⟨by rfl, ?_⟩) hHeld ?_
  rotate_left 1
  · intro u hSu
    obtain ⟨⟨d0, d1, d2⟩, -⟩ := row3i (kept_row HF.out.1.hp hSu.out (by simp))
    have cs0 := hSu.out.cell HC.out.1 (by simp)
    have cs1 := hSu.out.cell HC.out.2 (by simp)
    go_simp
    first | done | with_reducible rfl
  (try simp only [Act.put, List.setIfInBounds_toArray, List.set_cons_zero, List.set_cons_succ])
  refine wpAnyH_take (i := 8) (oi := { dst := some 58, op := Op.extract (Operand.tmp 50) 1, type := 44, pos := "law.go:212", after := #[{ on := 6, ground := Ground.data }, { on := 9, ground := Ground.gcOnly Departure.lateStores }], guard := none }) (v := ?_) rfl (by kernel_rfl) (by kernel_rfl) (by kernel_rfl) (fun _ _ _ h => h) (Or.inl ⟨by rfl, ?_⟩) hHeld ?_
  rotate_left 1
  · intro u hSu
    obtain ⟨⟨d0, d1, d2⟩, -⟩ := row3i (kept_row HF.out.1.hp hSu.out (by simp))
    have cs0 := hSu.out.cell HC.out.1 (by simp)
    have cs1 := hSu.out.cell HC.out.2 (by simp)
    go_simp
    first | done | with_reducible rfl
  (try simp only [Act.put, List.setIfInBounds_toArray, List.set_cons_zero, List.set_cons_succ])
  refine wpAnyH_take (i := 9) (oi := { dst := some 11, op := Op.assign (Operand.tmp 57), type := 22, pos := "law.go:212", after := #[{ on := 7, ground := Ground.data }, { on := 5, ground := Ground.chain }, { on := 0, ground := Ground.phase }, { on := 1, ground := Ground.phase }, { on := 2, ground := Ground.phase }, { on := 3, ground := Ground.phase }, { on := 4, ground := Ground.phase }, { on := 5, ground := Ground.phase }, { on := 6, ground := Ground.phase }, { on := 7, ground := Ground.phase }, { on := 8, ground := Ground.textOnly Departure.lateStores }], guard := none }) (v := ?_) rfl (by kernel_rfl) (by kernel_rfl) (by kernel_rfl) (fun _ _ _ h => h) (Or.inl ⟨by rfl, ?_⟩) hHeld ?_
  rotate_left 1
  · intro u hSu
    obtain ⟨⟨d0, d1, d2⟩, -⟩ := row3i (kept_row HF.out.1.hp hSu.out (by simp))
    have cs0 := hSu.out.cell HC.out.1 (by simp)
    have cs1 := hSu.out.cell HC.out.2 (by simp)
    go_simp
    first | done | with_reducible rfl
  (try simp only [Act.put, List.setIfInBounds_toArray, List.set_cons_zero, List.set_cons_succ])
  refine wpAnyH_take (i := 10) (oi := { dst := some 12, op := Op.assign (Operand.tmp 58), type := 44, pos := "law.go:212", after := #[{ on := 8, ground := Ground.data }, { on := 9, ground := Ground.chain }, { on := 0, ground := Ground.phase }, { on := 1, ground := Ground.phase }, { on := 2, ground := Ground.phase }, { on := 3, ground := Ground.phase }, { on := 4, ground := Ground.phase }, { on := 5, ground := Ground.phase }, { on := 6, ground := Ground.phase }, { on := 7, ground := Ground.phase }, { on := 8, ground := Ground.phase }, { on := 9, ground := Ground.phase }], guard := none }) (v := ?_) rfl (by kernel_rfl) (by kernel_rfl) (by kernel_rfl) (fun _ _ _ h => h) (Or.inl ⟨by rfl, ?_⟩) hHeld ?_
  rotate_left 1
  · intro u hSu
    obtain ⟨⟨d0, d1, d2⟩, -⟩ := row3i (kept_row HF.out.1.hp hSu.out (by simp))
    have cs0 := hSu.out.cell HC.out.1 (by simp)
    have cs1 := hSu.out.cell HC.out.2 (by simp)
    go_simp
    first | done | with_reducible rfl
  (try simp only [Act.put, List.setIfInBounds_toArray, List.set_cons_zero, List.set_cons_succ])
  refine wpAnyH_done (by kernel_rfl) ?_ _
  have H11 := Lib.hid (And.intro hHeld.out hol.out)
  clear hHeld GZ hol
  rw [HNX.out.2] at H11
  rw [HNX.out.1, HNX.out.2]
  obtain ⟨NL, hNL⟩ : ∃ NL, nmL x.s n x.b = NL := ⟨_, rfl⟩
  rw [hNL] at H11 HNE HB2 ⊢
  have HNL : Hid (NL.length ≤ 64) := Lib.hid (by rw [← hNL, nmL_len]; exact bl_length_le _)
  have hnz : ((NL.length : Int) == 0) = false := beq_eq_false_iff_ne.2 (by
    have h1 := List.length_pos_iff.2 HNE.out
    omega)
  have S11 := Lib.hid (S10.out.keep H11.out.1)
  have HR := Lib.hid H11.out.2
  have HC11 := Lib.hid (And.intro (H11.out.1.cell HC.out.1 (by simp)) (H11.out.1.cell HC.out.2 (by simp)))
  have GZ : Hid (w11.grownBy w11 none) := Lib.hid (grown_refl _ _)
  clear H11 S10 HC HF hNL HNX HNE
  go_upto_region 14 with fail
  by_cases hiz : i = 0
  case pos =>
    have hgt : ¬ (0 : Int) < (i : Int) := by omega
    clear hiz
    refine wp_region_held_drew (S := fun w' => Hid (w11.grownBy w' none)) (by kernel_rfl) (hid_drew GZ) (fun hHeld => ?_)
    refine wpAnyH_take (i := 0) (oi := { dst := some 59, op := Op.move (Operand.tmp 12), type := 44, pos := "law.go:213", after := #[], guard := none }) (v := ?_) rfl (by kernel_rfl) (by kernel_rfl) (by kernel_rfl) (fun _ _ _ h => h) (Or.inl ⟨by rfl, ?_⟩) hHeld ?_
    rotate_left 1
    · intro u hSu
      skip
      go_simp
      first | done | with_reducible rfl
    (try simp only [Act.put, List.setIfInBounds_toArray, List.set_cons_zero, List.set_cons_succ])
    refine wpAnyH_take (i := 1) (oi := { dst := some 60, op := Op.binOp BinOp.neq 44 (Operand.tmp 59) (Operand.const (Value.int IntKind.i64 0)) 44, type := 4, pos := "law.go:213", after := #[{ on := 0, ground := Ground.data }], guard := none }) (v := ?_) rfl (by kernel_rfl) (by kernel_rfl) (by kernel_rfl) (fun _ _ _ h => h) (Or.inl ⟨by rfl, ?_⟩) hHeld ?_
    rotate_left 1
    · intro u hSu
      skip
      go_simp
      first | done | with_reducible rfl
    (try simp only [Act.put, List.setIfInBounds_toArray, List.set_cons_zero, List.set_cons_succ])
    refine wpAnyH_take (i := 2) (oi := { dst := some 61, op := Op.move (Operand.tmp 60), type := 4, pos := "law.go:213", after := #[{ on := 1, ground := Ground.data }], guard := none }) (v := ?_) rfl (by kernel_rfl) (by kernel_rfl) (by kernel_rfl) (fun _ _ _ h => h) (Or.inl ⟨by rfl, ?_⟩) hHeld ?_
    rotate_left 1
    · intro u hSu
      skip
      go_simp
      first | done | with_reducible rfl
    (try simp only [Act.put, List.setIfInBounds_toArray, List.set_cons_zero, List.set_cons_succ])
    refine wpAnyH_take (i := 3) (oi := { dst := some 62, op := Op.move (Operand.tmp 11), type := 22, pos := "law.go:213", after := #[{ on := 2, ground := Ground.guard }], guard := some (2, false) }) (v := ?_) rfl (by kernel_rfl) (by kernel_rfl) (by kernel_rfl) (fun _ _ _ h => h) (Or.inl ⟨by rfl, ?_⟩) hHeld ?_
    rotate_left 1
    · intro u hSu
      skip
      go_simp
      first | done | with_reducible rfl
    (try simp only [Act.put, List.setIfInBounds_toArray, List.set_cons_zero, List.set_cons_succ])
    refine wpAnyH_take (i := 4) (oi := { dst := some 63, op := Op.call { callee := Callee.builtin Builtin.len, args := #[Operand.tmp 62], argTypes := #[22] }, type := 3, pos := "law.go:213", after := #[{ on := 3, ground := Ground.data }, { on := 2, ground := Ground.guard }], guard := some (2, false) }) (v := ?_) rfl (by kernel_rfl) (by kernel_rfl) (by kernel_rfl) (fun _ _ _ h => h) (Or.inl ⟨by rfl, ?_⟩) hHeld ?_
    rotate_left 1
    · intro u hSu
      skip
      go_simp
      first | done | with_reducible rfl
    (try simp only [Act.put, List.setIfInBounds_toArray, List.set_cons_zero, List.set_cons_succ])
    refine wpAnyH_take (i := 5) (oi := { dst := some 64, op := Op.binOp BinOp.eql 3 (Operand.tmp 63) (Operand.const (Value.int IntKind.i64 0)) 3, type := 4, pos := "law.go:213", after := #[{ on := 4, ground := Ground.data }, { on := 2, ground := Ground.guard }], guard := some (2, false) }) (v := .bool false) rfl (by kernel_rfl) (by kernel_rfl) (by kernel_rfl) (fun _ _ _ h => h) (Or.inl ⟨by rfl, ?_⟩) hHeld ?_
    · intro u hSu
      skip
      go_simp
      try simp
      try omega
    (try simp only [Act.put, List.setIfInBounds_toArray, List.set_cons_zero, List.set_cons_succ])
    refine wpAnyH_take (i := 6) (oi := { dst := some 65, op := Op.pick (Operand.tmp 61) (Operand.const (Value.bool true)) (Operand.tmp 64), type := 4, pos := "law.go:213", after := #[{ on := 2, ground := Ground.data }, { on := 5, ground := Ground.data }], guard := none }) (v := ?_) rfl (by kernel_rfl) (by kernel_rfl) (by kernel_rfl) (fun _ _ _ h => h) (Or.inl ⟨by rfl, ?_⟩) hHeld ?_
    rotate_left 1
    · intro u hSu
      skip
      go_simp
      first | done | with_reducible rfl
    (try simp only [Act.put, List.setIfInBounds_toArray, List.set_cons_zero, List.set_cons_succ])
    refine wpAnyH_take (i := 7) (oi := { dst := some 66, op := Op.move (Operand.tmp 65), type := 4, pos := "law.go:213", after := #[{ on := 6, ground := Ground.data }, { on := 2, ground := Ground.chain }], guard := none }) (v := ?_) rfl (by kernel_rfl) (by kernel_rfl) (by kernel_rfl) (fun _ _ _ h => h) (Or.inl ⟨by rfl, ?_⟩) hHeld ?_
    rotate_left 1
    · intro u hSu
      skip
      go_simp
      first | done | with_reducible rfl
    (try simp only [Act.put, List.setIfInBounds_toArray, List.set_cons_zero, List.set_cons_succ])
    refine wpAnyH_take (i := 8) (oi := { dst := some 67, op := Op.move (Operand.tmp 10), type := 3, pos := "law.go:213", after := #[{ on := 7, ground := Ground.guard }], guard := some (7, false) }) (v := ?_) rfl (by kernel_rfl) (by kernel_rfl) (by kernel_rfl) (fun _ _ _ h => h) (Or.inl ⟨by rfl, ?_⟩) hHeld ?_
    rotate_left 1
    · intro u hSu
      skip
      go_simp
      first | done | with_reducible rfl
    (try simp only [Act.put, List.setIfInBounds_toArray, List.set_cons_zero, List.set_cons_succ])
    refine wpAnyH_take (i := 9) (oi := { dst := some 68, op := Op.binOp BinOp.gtr 3 (Operand.tmp 67) (Operand.const (Value.int IntKind.i64 0)) 3, type := 4, pos := "law.go:213", after := #[{ on := 8, ground := Ground.data }, { on := 7, ground := Ground.guard }], guard := some (7, false) }) (v := .bool false) rfl (by kernel_rfl) (by kernel_rfl) (by kernel_rfl) (fun _ _ _ h => h) (Or.inl ⟨by rfl, ?_⟩) hHeld ?_
    · intro u hSu
      skip
      go_simp
      try simp
      try omega
    (try simp only [Act.put, List.setIfInBounds_toArray, List.set_cons_zero, List.set_cons_succ])
    refine wpAnyH_take (i := 10) (oi := { dst := some 69, op := Op.move (Operand.tmp 68), type := 4, pos := "law.go:213", after := #[{ on := 9, ground := Ground.data }, { on := 7, ground := Ground.chain }, { on := 7, ground := Ground.guard }], guard := some (7, false) }) (v := ?_) rfl (by kernel_rfl) (by kernel_rfl) (by kernel_rfl) (fun _ _ _ h => h) (Or.inl ⟨by rfl, ?_⟩) hHeld ?_
    rotate_left 1
    · intro u hSu
      skip
      go_simp
      first | done | with_reducible rfl
    (try simp only [Act.put, List.setIfInBounds_toArray, List.set_cons_zero, List.set_cons_succ])
    refine wpAnyH_take (i := 11) (oi := { dst := some 70, op := Op.move (Operand.tmp 8), type := 43, pos := "law.go:213", after := #[{ on := 10, ground := Ground.guard }], guard := some (10, true) }) (v := undef) rfl (by kernel_rfl) (by kernel_rfl) (by kernel_rfl) (fun _ _ _ h => h) (Or.inr ⟨by rfl, rfl⟩) hHeld ?_
    (try simp only [Act.put, List.setIfInBounds_toArray, List.set_cons_zero, List.set_cons_succ])
    refine wpAnyH_take (i := 12) (oi := { dst := some 71, op := Op.move (Operand.tmp 10), type := 3, pos := "law.go:213", after := #[{ on := 10, ground := Ground.guard }], guard := some (10, true) }) (v := undef) rfl (by kernel_rfl) (by kernel_rfl) (by kernel_rfl) (fun _ _ _ h => h) (Or.inr ⟨by rfl, rfl⟩) hHeld ?_
    (try simp only [Act.put, List.setIfInBounds_toArray, List.set_cons_zero, List.set_cons_succ])
    refine wpAnyH_take (i := 13) (oi := { dst := some 72, op := Op.binOp BinOp.sub 3 (Operand.tmp 71) (Operand.const (Value.int IntKind.i64 1)) 3, type := 3, pos := "law.go:213", after := #[{ on := 12, ground := Ground.data }, { on := 10, ground := Ground.guard }], guard := some (10, true) }) (v := undef) rfl (by kernel_rfl) (by kernel_rfl) (by kernel_rfl) (fun _ _ _ h => h) (Or.inr ⟨by rfl, rfl⟩) hHeld ?_
    (try simp only [Act.put, List.setIfInBounds_toArray, List.set_cons_zero, List.set_cons_succ])
    refine wpAnyH_take (i := 14) (oi := { dst := some 73, op := Op.indexAddr 43 (Operand.tmp 70) (Operand.tmp 72), type := 0, pos := "law.go:213", after := #[{ on := 11, ground := Ground.data }, { on := 13, ground := Ground.data }, { on := 10, ground := Ground.guard }], guard := some (10, true) }) (v := undef) rfl (by kernel_rfl) (by kernel_rfl) (by kernel_rfl) (fun _ _ _ h => h) (Or.inr ⟨by rfl, rfl⟩) hHeld ?_
    (try simp only [Act.put, List.setIfInBounds_toArray, List.set_cons_zero, List.set_cons_succ])
    refine wpAnyH_take (i := 15) (oi := { dst := some 74, op := Op.fieldAddr 25 (Operand.tmp 73) 0, type := 0, pos := "law.go:213", after := #[{ on := 14, ground := Ground.data }, { on := 10, ground := Ground.guard }], guard := some (10, true) }) (v := undef) rfl (by kernel_rfl) (by kernel_rfl) (by kernel_rfl) (fun _ _ _ h => h) (Or.inr ⟨by rfl, rfl⟩) hHeld ?_
    (try simp only [Act.put, List.setIfInBounds_toArray, List.set_cons_zero, List.set_cons_succ])
    refine wpAnyH_take (i := 16) (oi := { dst := some 75, op := Op.load 3 (Operand.tmp 74), type := 3, pos := "law.go:213", after := #[{ on := 15, ground := Ground.data }, { on := 10, ground := Ground.guard }], guard := some (10, true) }) (v := undef) rfl (by kernel_rfl) (by kernel_rfl) (by kernel_rfl) (fun _ _ _ h => h) (Or.inr ⟨by rfl, rfl⟩) hHeld ?_
    (try simp only [Act.put, List.setIfInBounds_toArray, List.set_cons_zero, List.set_cons_succ])
    refine wpAnyH_take (i := 17) (oi := { dst := some 76, op := Op.move (Operand.tmp 8), type := 43, pos := "law.go:213", after := #[{ on := 10, ground := Ground.guard }], guard := some (10, true) }) (v := undef) rfl (by kernel_rfl) (by kernel_rfl) (by kernel_rfl) (fun _ _ _ h => h) (Or.inr ⟨by rfl, rfl⟩) hHeld ?_
    (try simp only [Act.put, List.setIfInBounds_toArray, List.set_cons_zero, List.set_cons_succ])
    refine wpAnyH_take (i := 18) (oi := { dst := some 77, op := Op.move (Operand.tmp 10), type := 3, pos := "law.go:213", after := #[{ on := 10, ground := Ground.guard }], guard := some (10, true) }) (v := undef) rfl (by kernel_rfl) (by kernel_rfl) (by kernel_rfl) (fun _ _ _ h => h) (Or.inr ⟨by rfl, rfl⟩) hHeld ?_
    (try simp only [Act.put, List.setIfInBounds_toArray, List.set_cons_zero, List.set_cons_succ])
    refine wpAnyH_take (i := 19) (oi := { dst := some 78, op := Op.indexAddr 43 (Operand.tmp 76) (Operand.tmp 77), type := 0, pos := "law.go:213", after := #[{ on := 17, ground := Ground.data }, { on := 18, ground := Ground.data }, { on := 10, ground := Ground.guard }], guard := some (10, true) }) (v := undef) rfl (by kernel_rfl) (by kernel_rfl) (by kernel_rfl) (fun _ _ _ h => h) (Or.inr ⟨by rfl, rfl⟩) hHeld ?_
    (try simp only [Act.put, List.setIfInBounds_toArray, List.set_cons_zero, List.set_cons_succ])
    refine wpAnyH_take (i := 20) (oi := { dst := some 79, op := Op.fieldAddr 25 (Operand.tmp 78) 0, type := 0, pos := "law.go:213", after := #[{ on := 19, ground := Ground.data }, { on := 10, ground := Ground.guard }], guard := some (10, true) }) (v := undef) rfl (by kernel_rfl) (by kernel_rfl) (by kernel_rfl) (fun _ _ _ h => h) (Or.inr ⟨by rfl, rfl⟩) hHeld ?_
    (try simp only [Act.put, List.setIfInBounds_toArray, List.set_cons_zero, List.set_cons_succ])
    refine wpAnyH_take (i := 21) (oi := { dst := some 80, op := Op.load 3 (Operand.tmp 79), type := 3, pos := "law.go:213", after := #[{ on := 20, ground := Ground.data }, { on := 10, ground := Ground.guard }], guard := some (10, true) }) (v := undef) rfl (by kernel_rfl) (by kernel_rfl) (by kernel_rfl) (fun _ _ _ h => h) (Or.inr ⟨by rfl, rfl⟩) hHeld ?_
    (try simp only [Act.put, List.setIfInBounds_toArray, List.set_cons_zero, List.set_cons_succ])
    refine wpAnyH_take (i := 22) (oi := { dst := some 81, op := Op.binOp BinOp.geq 3 (Operand.tmp 75) (Operand.tmp 80) 3, type := 4, pos := "law.go:213", after := #[{ on := 16, ground := Ground.data }, { on := 21, ground := Ground.data }, { on := 10, ground := Ground.guard }], guard := some (10, true) }) (v := undef) rfl (by kernel_rfl) (by kernel_rfl) (by kernel_rfl) (fun _ _ _ h => h) (Or.inr ⟨by rfl, rfl⟩) hHeld ?_
    (try simp only [Act.put, List.setIfInBounds_toArray, List.set_cons_zero, List.set_cons_succ])
    refine wpAnyH_take (i := 23) (oi := { dst := some 82, op := Op.pick (Operand.tmp 69) (Operand.tmp 81) (Operand.const (Value.bool false)), type := 4, pos := "law.go:213", after := #[{ on := 10, ground := Ground.data }, { on := 22, ground := Ground.data }, { on := 7, ground := Ground.guard }], guard := some (7, false) }) (v := ?_) rfl (by kernel_rfl) (by kernel_rfl) (by kernel_rfl) (fun _ _ _ h => h) (Or.inl ⟨by rfl, ?_⟩) hHeld ?_
    rotate_left 1
    · intro u hSu
      skip
      go_simp
      first | done | with_reducible rfl
    (try simp only [Act.put, List.setIfInBounds_toArray, List.set_cons_zero, List.set_cons_succ])
    refine wpAnyH_take (i := 24) (oi := { dst := some 83, op := Op.pick (Operand.tmp 66) (Operand.const (Value.bool true)) (Operand.tmp 82), type := 4, pos := "law.go:213", after := #[{ on := 7, ground := Ground.data }, { on := 23, ground := Ground.data }], guard := none }) (v := ?_) rfl (by kernel_rfl) (by kernel_rfl) (by kernel_rfl) (fun _ _ _ h => h) (Or.inl ⟨by rfl, ?_⟩) hHeld ?_
    rotate_left 1
    · intro u hSu
      skip
      go_simp
      first | done | with_reducible rfl
    (try simp only [Act.put, List.setIfInBounds_toArray, List.set_cons_zero, List.set_cons_succ])
    refine wpAnyH_done (by kernel_rfl) ?_ _
    have S12 := Lib.hid (S11.out.keep hHeld.out)
    have HR12 := Lib.hid (And.intro HR.out.1 (And.intro HR.out.2.1 (HR.out.2.2.keep hHeld.out)))
    clear hHeld S11 HR GZ
    have HOB := Lib.hid S12.out.own
    have hsz : C ≤ w11.drew.heap.size := S12.out.lo
    have hcc : NL.length ≤ c2 := HR12.out.1
    have hbl : (bkK n LL i).length ≤ 64 * i := bkK_len n LL i
    have hnl64 : NL.length ≤ 64 := HNL.out
    go_wp2_with (at_builtin; refine hold_on ?_)
    refine Lib.hid ?_
    refine wpList_append_f ivC 1 8 (by decide) (fun _ => rfl) ivC_one 3 22 ii _ Tryd.underlying22 hi hi0 hi1 hi2 rfl (by decide) rfl _ _ rfl C _ (bkK n LL i) _ ?c0 rfl HOB.out p2 NL.length c2 NL rfl rfl HR12.out.2.1 (fun _ => True) HR12.out.2.2 hcc (by omega) hsz ?_
    try (case c0 => rfl)
    intro v' w13 hown' hg
    have S13 := Lib.hid (S12.out.put (i2 := i + 1) (by rw [HB2.out]; exact hown') hg)
    obtain ⟨pb2, cb2, rfl, -, -⟩ := own_shape S13.out.own
    have hlen2 : Hid ((bkK n LL i ++ NL).length = (bkK n LL (i + 1)).length) := Lib.hid (by rw [HB2.out])
    clear hown' hg HOB S12 HR12 hsz hcc hbl hnl64
    go_wp2_with fail
    exact ⟨⟨i + 1, pb2, cb2, by omega, congrArg _ (by omega), rfl, S13⟩, by simp only [RowKit.intOf]; omega⟩
  case neg =>
    obtain ⟨j, hj⟩ : ∃ j, i = j + 1 := ⟨i - 1, by omega⟩
    obtain ⟨y, hy⟩ : ∃ y, LL[j]? = some y := ⟨_, List.getElem?_eq_getElem (by omega)⟩
    obtain ⟨-, b3, o3, e3, -, hcL⟩ := RdF.cells (f := sbC) (k := 2) (fun _ => rfl) (by decide) S11.out.rl (by omega)
    injection e3 with e3
    injection e3 with e4 e5
    subst e4
    subst e5
    have HE := Lib.hid (And.intro (show w11.cell? ⟨bL, oL + j * 2, none⟩ = some (.int .i64 y.s) by have := hcL j y hy 0 _ rfl; rwa [Nat.add_zero] at this) HC11.out.1)
    have hys : ¬ x.s ≤ y.s := by
      have h1 := List.pairwise_iff_getElem.1 HLB.out.1.asc j i (by omega) hlt2 (by omega)
      have h2 := (List.getElem?_eq_some_iff.1 hy).2
      have h3 := (List.getElem?_eq_some_iff.1 HX.out).2
      rw [h2, h3] at h1
      omega
    have ew1 : ((i : Int) - 1) = (j : Int) := by omega
    have ew2 : IntKind.i64.wrap ((i : Int) - 1) = (j : Int) := by rw [ew1]; exact IntWalk.i64_in _ (by omega)
    have ew3 : IntKind.i64.wrap (j : Int) = (j : Int) := IntWalk.i64_in _ (by omega)
    have j0 : (0 : Int) ≤ (j : Int) := by omega
    have j2 : (j : Int) < (LL.length : Int) := by omega
    have hgt : (0 : Int) < (i : Int) := by omega
    clear hcL hy hj hiz
    refine wp_region_held_drew (S := fun w' => Hid (w11.grownBy w' none)) (by kernel_rfl) (hid_drew GZ) (fun hHeld => ?_)
    refine wpAnyH_take (i := 0) (oi := { dst := some 59, op := Op.move (Operand.tmp 12), type := 44, pos := "law.go:213", after := #[], guard := none }) (v := ?_) rfl (by kernel_rfl) (by kernel_rfl) (by kernel_rfl) (fun _ _ _ h => h) (Or.inl ⟨by rfl, ?_⟩) hHeld ?_
    rotate_left 1
    · intro u hSu
      have e0 := hSu.out.cell HE.out.1 (by simp)
      have e1 := hSu.out.cell HE.out.2 (by simp)
      go_simp
      first | done | with_reducible rfl
    (try simp only [Act.put, List.setIfInBounds_toArray, List.set_cons_zero, List.set_cons_succ])
    refine wpAnyH_take (i := 1) (oi := { dst := some 60, op := Op.binOp BinOp.neq 44 (Operand.tmp 59) (Operand.const (Value.int IntKind.i64 0)) 44, type := 4, pos := "law.go:213", after := #[{ on := 0, ground := Ground.data }], guard := none }) (v := ?_) rfl (by kernel_rfl) (by kernel_rfl) (by kernel_rfl) (fun _ _ _ h => h) (Or.inl ⟨by rfl, ?_⟩) hHeld ?_
    rotate_left 1
    · intro u hSu
      have e0 := hSu.out.cell HE.out.1 (by simp)
      have e1 := hSu.out.cell HE.out.2 (by simp)
      go_simp
      first | done | with_reducible rfl
    (try simp only [Act.put, List.setIfInBounds_toArray, List.set_cons_zero, List.set_cons_succ])
    refine wpAnyH_take (i := 2) (oi := { dst := some 61, op := Op.move (Operand.tmp 60), type := 4, pos := "law.go:213", after := #[{ on := 1, ground := Ground.data }], guard := none }) (v := ?_) rfl (by kernel_rfl) (by kernel_rfl) (by kernel_rfl) (fun _ _ _ h => h) (Or.inl ⟨by rfl, ?_⟩) hHeld ?_
    rotate_left 1
    · intro u hSu
      have e0 := hSu.out.cell HE.out.1 (by simp)
      have e1 := hSu.out.cell HE.out.2 (by simp)
      go_simp
      first | done | with_reducible rfl
    (try simp only [Act.put, List.setIfInBounds_toArray, List.set_cons_zero, List.set_cons_succ])
    refine wpAnyH_take (i := 3) (oi := { dst := some 62, op := Op.move (Operand.tmp 11), type := 22, pos := "law.go:213", after := #[{ on := 2, ground := Ground.guard }], guard := some (2, false) }) (v := ?_) rfl (by kernel_rfl) (by kernel_rfl) (by kernel_rfl) (fun _ _ _ h => h) (Or.inl ⟨by rfl, ?_⟩) hHeld ?_
    rotate_left 1
    · intro u hSu
      have e0 := hSu.out.cell HE.out.1 (by simp)
      have e1 := hSu.out.cell HE.out.2 (by simp)
      go_simp
      first | done | with_reducible rfl
    (try simp only [Act.put, List.setIfInBounds_toArray, List.set_cons_zero, List.set_cons_succ])
    refine wpAnyH_take (i := 4) (oi := { dst := some 63, op := Op.call { callee := Callee.builtin Builtin.len, args := #[Operand.tmp 62], argTypes := #[22] }, type := 3, pos := "law.go:213", after := #[{ on := 3, ground := Ground.data }, { on := 2, ground := Ground.guard }], guard := some (2, false) }) (v := ?_) rfl (by kernel_rfl) (by kernel_rfl) (by kernel_rfl) (fun _ _ _ h => h) (Or.inl ⟨by rfl, ?_⟩) hHeld ?_
    rotate_left 1
    · intro u hSu
      have e0 := hSu.out.cell HE.out.1 (by simp)
      have e1 := hSu.out.cell HE.out.2 (by simp)
      go_simp
      first | done | with_reducible rfl
    (try simp only [Act.put, List.setIfInBounds_toArray, List.set_cons_zero, List.set_cons_succ])
    refine wpAnyH_take (i := 5) (oi := { dst := some 64, op := Op.binOp BinOp.eql 3 (Operand.tmp 63) (Operand.const (Value.int IntKind.i64 0)) 3, type := 4, pos := "law.go:213", after := #[{ on := 4, ground := Ground.data }, { on := 2, ground := Ground.guard }], guard := some (2, false) }) (v := .bool false) rfl (by kernel_rfl) (by kernel_rfl) (by kernel_rfl) (fun _ _ _ h => h) (Or.inl ⟨by rfl, ?_⟩) hHeld ?_
    · intro u hSu
      have e0 := hSu.out.cell HE.out.1 (by simp)
      have e1 := hSu.out.cell HE.out.2 (by simp)
      go_simp
      try simp
      try omega
    (try simp only [Act.put, List.setIfInBounds_toArray, List.set_cons_zero, List.set_cons_succ])
    refine wpAnyH_take (i := 6) (oi := { dst := some 65, op := Op.pick (Operand.tmp 61) (Operand.const (Value.bool true)) (Operand.tmp 64), type := 4, pos := "law.go:213", after := #[{ on := 2, ground := Ground.data }, { on := 5, ground := Ground.data }], guard := none }) (v := ?_) rfl (by kernel_rfl) (by kernel_rfl) (by kernel_rfl) (fun _ _ _ h => h) (Or.inl ⟨by rfl, ?_⟩) hHeld ?_
    rotate_left 1
    · intro u hSu
      have e0 := hSu.out.cell HE.out.1 (by simp)
      have e1 := hSu.out.cell HE.out.2 (by simp)
      go_simp
      first | done | with_reducible rfl
    (try simp only [Act.put, List.setIfInBounds_toArray, List.set_cons_zero, List.set_cons_succ])
    refine wpAnyH_take (i := 7) (oi := { dst := some 66, op := Op.move (Operand.tmp 65), type := 4, pos := "law.go:213", after := #[{ on := 6, ground := Ground.data }, { on := 2, ground := Ground.chain }], guard := none }) (v := ?_) rfl (by kernel_rfl) (by kernel_rfl) (by kernel_rfl) (fun _ _ _ h => h) (Or.inl ⟨by rfl, ?_⟩) hHeld ?_
    rotate_left 1
    · intro u hSu
      have e0 := hSu.out.cell HE.out.1 (by simp)
      have e1 := hSu.out.cell HE.out.2 (by simp)
      go_simp
      first | done | with_reducible rfl
    (try simp only [Act.put, List.setIfInBounds_toArray, List.set_cons_zero, List.set_cons_succ])
    refine wpAnyH_take (i := 8) (oi := { dst := some 67, op := Op.move (Operand.tmp 10), type := 3, pos := "law.go:213", after := #[{ on := 7, ground := Ground.guard }], guard := some (7, false) }) (v := ?_) rfl (by kernel_rfl) (by kernel_rfl) (by kernel_rfl) (fun _ _ _ h => h) (Or.inl ⟨by rfl, ?_⟩) hHeld ?_
    rotate_left 1
    · intro u hSu
      have e0 := hSu.out.cell HE.out.1 (by simp)
      have e1 := hSu.out.cell HE.out.2 (by simp)
      go_simp
      first | done | with_reducible rfl
    (try simp only [Act.put, List.setIfInBounds_toArray, List.set_cons_zero, List.set_cons_succ])
    refine wpAnyH_take (i := 9) (oi := { dst := some 68, op := Op.binOp BinOp.gtr 3 (Operand.tmp 67) (Operand.const (Value.int IntKind.i64 0)) 3, type := 4, pos := "law.go:213", after := #[{ on := 8, ground := Ground.data }, { on := 7, ground := Ground.guard }], guard := some (7, false) }) (v := .bool true) rfl (by kernel_rfl) (by kernel_rfl) (by kernel_rfl) (fun _ _ _ h => h) (Or.inl ⟨by rfl, ?_⟩) hHeld ?_
    · intro u hSu
      have e0 := hSu.out.cell HE.out.1 (by simp)
      have e1 := hSu.out.cell HE.out.2 (by simp)
      go_simp
      try simp
      try omega
    (try simp only [Act.put, List.setIfInBounds_toArray, List.set_cons_zero, List.set_cons_succ])
    refine wpAnyH_take (i := 10) (oi := { dst := some 69, op := Op.move (Operand.tmp 68), type := 4, pos := "law.go:213", after := #[{ on := 9, ground := Ground.data }, { on := 7, ground := Ground.chain }, { on := 7, ground := Ground.guard }], guard := some (7, false) }) (v := ?_) rfl (by kernel_rfl) (by kernel_rfl) (by kernel_rfl) (fun _ _ _ h => h) (Or.inl ⟨by rfl, ?_⟩) hHeld ?_
    rotate_left 1
    · intro u hSu
      have e0 := hSu.out.cell HE.out.1 (by simp)
      have e1 := hSu.out.cell HE.out.2 (by simp)
      go_simp
      first | done | with_reducible rfl
    (try simp only [Act.put, List.setIfInBounds_toArray, List.set_cons_zero, List.set_cons_succ])
    refine wpAnyH_take (i := 11) (oi := { dst := some 70, op := Op.move (Operand.tmp 8), type := 43, pos := "law.go:213", after := #[{ on := 10, ground := Ground.guard }], guard := some (10, true) }) (v := ?_) rfl (by kernel_rfl) (by kernel_rfl) (by kernel_rfl) (fun _ _ _ h => h) (Or.inl ⟨by rfl, ?_⟩) hHeld ?_
    rotate_left 1
    · intro u hSu
      have e0 := hSu.out.cell HE.out.1 (by simp)
      have e1 := hSu.out.cell HE.out.2 (by simp)
      go_simp
      first | done | with_reducible rfl
    (try simp only [Act.put, List.setIfInBounds_toArray, List.set_cons_zero, List.set_cons_succ])
    refine wpAnyH_take (i := 12) (oi := { dst := some 71, op := Op.move (Operand.tmp 10), type := 3, pos := "law.go:213", after := #[{ on := 10, ground := Ground.guard }], guard := some (10, true) }) (v := ?_) rfl (by kernel_rfl) (by kernel_rfl) (by kernel_rfl) (fun _ _ _ h => h) (Or.inl ⟨by rfl, ?_⟩) hHeld ?_
    rotate_left 1
    · intro u hSu
      have e0 := hSu.out.cell HE.out.1 (by simp)
      have e1 := hSu.out.cell HE.out.2 (by simp)
      go_simp
      first | done | with_reducible rfl
    (try simp only [Act.put, List.setIfInBounds_toArray, List.set_cons_zero, List.set_cons_succ])
    refine wpAnyH_take (i := 13) (oi := { dst := some 72, op := Op.binOp BinOp.sub 3 (Operand.tmp 71) (Operand.const (Value.int IntKind.i64 1)) 3, type := 3, pos := "law.go:213", after := #[{ on := 12, ground := Ground.data }, { on := 10, ground := Ground.guard }], guard := some (10, true) }) (v := ?_) rfl (by kernel_rfl) (by kernel_rfl) (by kernel_rfl) (fun _ _ _ h => h) (Or.inl ⟨by rfl, ?_⟩) hHeld ?_
    rotate_left 1
    · intro u hSu
      have e0 := hSu.out.cell HE.out.1 (by simp)
      have e1 := hSu.out.cell HE.out.2 (by simp)
      go_simp
      first | done | with_reducible rfl
    (try simp only [Act.put, List.setIfInBounds_toArray, List.set_cons_zero, List.set_cons_succ])
    refine wpAnyH_take (i := 14) (oi := { dst := some 73, op := Op.indexAddr 43 (Operand.tmp 70) (Operand.tmp 72), type := 0, pos := "law.go:213", after := #[{ on := 11, ground := Ground.data }, { on := 13, ground := Ground.data }, { on := 10, ground := Ground.guard }], guard := some (10, true) }) (v := ?_) rfl (by kernel_rfl) (by kernel_rfl) (by kernel_rfl) (fun _ _ _ h => h) (Or.inl ⟨by rfl, ?_⟩) hHeld ?_
    rotate_left 1
    · intro u hSu
      have e0 := hSu.out.cell HE.out.1 (by simp)
      have e1 := hSu.out.cell HE.out.2 (by simp)
      go_simp
      first | done | with_reducible rfl
    (try simp only [Act.put, List.setIfInBounds_toArray, List.set_cons_zero, List.set_cons_succ])
    refine wpAnyH_take (i := 15) (oi := { dst := some 74, op := Op.fieldAddr 25 (Operand.tmp 73) 0, type := 0, pos := "law.go:213", after := #[{ on := 14, ground := Ground.data }, { on := 10, ground := Ground.guard }], guard := some (10, true) }) (v := ?_) rfl (by kernel_rfl) (by kernel_rfl) (by kernel_rfl) (fun _ _ _ h => h) (Or.inl ⟨by rfl, ?_⟩) hHeld ?_
    rotate_left 1
    · intro u hSu
      have e0 := hSu.out.cell HE.out.1 (by simp)
      have e1 := hSu.out.cell HE.out.2 (by simp)
      go_simp
      first | done | with_reducible rfl
    (try simp only [Act.put, List.setIfInBounds_toArray, List.set_cons_zero, List.set_cons_succ])
    refine wpAnyH_take (i := 16) (oi := { dst := some 75, op := Op.load 3 (Operand.tmp 74), type := 3, pos := "law.go:213", after := #[{ on := 15, ground := Ground.data }, { on := 10, ground := Ground.guard }], guard := some (10, true) }) (v := ?_) rfl (by kernel_rfl) (by kernel_rfl) (by kernel_rfl) (fun _ _ _ h => h) (Or.inl ⟨by rfl, ?_⟩) hHeld ?_
    rotate_left 1
    · intro u hSu
      have e0 := hSu.out.cell HE.out.1 (by simp)
      have e1 := hSu.out.cell HE.out.2 (by simp)
      go_simp
      first | done | with_reducible rfl
    (try simp only [Act.put, List.setIfInBounds_toArray, List.set_cons_zero, List.set_cons_succ])
    refine wpAnyH_take (i := 17) (oi := { dst := some 76, op := Op.move (Operand.tmp 8), type := 43, pos := "law.go:213", after := #[{ on := 10, ground := Ground.guard }], guard := some (10, true) }) (v := ?_) rfl (by kernel_rfl) (by kernel_rfl) (by kernel_rfl) (fun _ _ _ h => h) (Or.inl ⟨by rfl, ?_⟩) hHeld ?_
    rotate_left 1
    · intro u hSu
      have e0 := hSu.out.cell HE.out.1 (by simp)
      have e1 := hSu.out.cell HE.out.2 (by simp)
      go_simp
      first | done | with_reducible rfl
    (try simp only [Act.put, List.setIfInBounds_toArray, List.set_cons_zero, List.set_cons_succ])
    refine wpAnyH_take (i := 18) (oi := { dst := some 77, op := Op.move (Operand.tmp 10), type := 3, pos := "law.go:213", after := #[{ on := 10, ground := Ground.guard }], guard := some (10, true) }) (v := ?_) rfl (by kernel_rfl) (by kernel_rfl) (by kernel_rfl) (fun _ _ _ h => h) (Or.inl ⟨by rfl, ?_⟩) hHeld ?_
    rotate_left 1
    · intro u hSu
      have e0 := hSu.out.cell HE.out.1 (by simp)
      have e1 := hSu.out.cell HE.out.2 (by simp)
      go_simp
      first | done | with_reducible rfl
    (try simp only [Act.put, List.setIfInBounds_toArray, List.set_cons_zero, List.set_cons_succ])
    refine wpAnyH_take (i := 19) (oi := { dst := some 78, op := Op.indexAddr 43 (Operand.tmp 76) (Operand.tmp 77), type := 0, pos := "law.go:213", after := #[{ on := 17, ground := Ground.data }, { on := 18, ground := Ground.data }, { on := 10, ground := Ground.guard }], guard := some (10, true) }) (v := ?_) rfl (by kernel_rfl) (by kernel_rfl) (by kernel_rfl) (fun _ _ _ h => h) (Or.inl ⟨by rfl, ?_⟩) hHeld ?_
    rotate_left 1
    · intro u hSu
      have e0 := hSu.out.cell HE.out.1 (by simp)
      have e1 := hSu.out.cell HE.out.2 (by simp)
      go_simp
      first | done | with_reducible rfl
    (try simp only [Act.put, List.setIfInBounds_toArray, List.set_cons_zero, List.set_cons_succ])
    refine wpAnyH_take (i := 20) (oi := { dst := some 79, op := Op.fieldAddr 25 (Operand.tmp 78) 0, type := 0, pos := "law.go:213", after := #[{ on := 19, ground := Ground.data }, { on := 10, ground := Ground.guard }], guard := some (10, true) }) (v := ?_) rfl (by kernel_rfl) (by kernel_rfl) (by kernel_rfl) (fun _ _ _ h => h) (Or.inl ⟨by rfl, ?_⟩) hHeld ?_
    rotate_left 1
    · intro u hSu
      have e0 := hSu.out.cell HE.out.1 (by simp)
      have e1 := hSu.out.cell HE.out.2 (by simp)
      go_simp
      first | done | with_reducible rfl
    (try simp only [Act.put, List.setIfInBounds_toArray, List.set_cons_zero, List.set_cons_succ])
    refine wpAnyH_take (i := 21) (oi := { dst := some 80, op := Op.load 3 (Operand.tmp 79), type := 3, pos := "law.go:213", after := #[{ on := 20, ground := Ground.data }, { on := 10, ground := Ground.guard }], guard := some (10, true) }) (v := ?_) rfl (by kernel_rfl) (by kernel_rfl) (by kernel_rfl) (fun _ _ _ h => h) (Or.inl ⟨by rfl, ?_⟩) hHeld ?_
    rotate_left 1
    · intro u hSu
      have e0 := hSu.out.cell HE.out.1 (by simp)
      have e1 := hSu.out.cell HE.out.2 (by simp)
      go_simp
      first | done | with_reducible rfl
    (try simp only [Act.put, List.setIfInBounds_toArray, List.set_cons_zero, List.set_cons_succ])
    refine wpAnyH_take (i := 22) (oi := { dst := some 81, op := Op.binOp BinOp.geq 3 (Operand.tmp 75) (Operand.tmp 80) 3, type := 4, pos := "law.go:213", after := #[{ on := 16, ground := Ground.data }, { on := 21, ground := Ground.data }, { on := 10, ground := Ground.guard }], guard := some (10, true) }) (v := .bool false) rfl (by kernel_rfl) (by kernel_rfl) (by kernel_rfl) (fun _ _ _ h => h) (Or.inl ⟨by rfl, ?_⟩) hHeld ?_
    · intro u hSu
      have e0 := hSu.out.cell HE.out.1 (by simp)
      have e1 := hSu.out.cell HE.out.2 (by simp)
      go_simp
      try simp
      try omega
    (try simp only [Act.put, List.setIfInBounds_toArray, List.set_cons_zero, List.set_cons_succ])
    refine wpAnyH_take (i := 23) (oi := { dst := some 82, op := Op.pick (Operand.tmp 69) (Operand.tmp 81) (Operand.const (Value.bool false)), type := 4, pos := "law.go:213", after := #[{ on := 10, ground := Ground.data }, { on := 22, ground := Ground.data }, { on := 7, ground := Ground.guard }], guard := some (7, false) }) (v := ?_) rfl (by kernel_rfl) (by kernel_rfl) (by kernel_rfl) (fun _ _ _ h => h) (Or.inl ⟨by rfl, ?_⟩) hHeld ?_
    rotate_left 1
    · intro u hSu
      have e0 := hSu.out.cell HE.out.1 (by simp)
      have e1 := hSu.out.cell HE.out.2 (by simp)
      go_simp
      first | done | with_reducible rfl
    (try simp only [Act.put, List.setIfInBounds_toArray, List.set_cons_zero, List.set_cons_succ])
    refine wpAnyH_take (i := 24) (oi := { dst := some 83, op := Op.pick (Operand.tmp 66) (Operand.const (Value.bool true)) (Operand.tmp 82), type := 4, pos := "law.go:213", after := #[{ on := 7, ground := Ground.data }, { on := 23, ground := Ground.data }], guard := none }) (v := ?_) rfl (by kernel_rfl) (by kernel_rfl) (by kernel_rfl) (fun _ _ _ h => h) (Or.inl ⟨by rfl, ?_⟩) hHeld ?_
    rotate_left 1
    · intro u hSu
      have e0 := hSu.out.cell HE.out.1 (by simp)
      have e1 := hSu.out.cell HE.out.2 (by simp)
      go_simp
      first | done | with_reducible rfl
    (try simp only [Act.put, List.setIfInBounds_toArray, List.set_cons_zero, List.set_cons_succ])
    refine wpAnyH_done (by kernel_rfl) ?_ _
    have S12 := Lib.hid (S11.out.keep hHeld.out)
    have HR12 := Lib.hid (And.intro HR.out.1 (And.intro HR.out.2.1 (HR.out.2.2.keep hHeld.out)))
    clear hHeld S11 HR GZ
    have HOB := Lib.hid S12.out.own
    have hsz : C ≤ w11.drew.heap.size := S12.out.lo
    have hcc : NL.length ≤ c2 := HR12.out.1
    have hbl : (bkK n LL i).length ≤ 64 * i := bkK_len n LL i
    have hnl64 : NL.length ≤ 64 := HNL.out
    go_wp2_with (at_builtin; refine hold_on ?_)
    refine Lib.hid ?_
    refine wpList_append_f ivC 1 8 (by decide) (fun _ => rfl) ivC_one 3 22 ii _ Tryd.underlying22 hi hi0 hi1 hi2 rfl (by decide) rfl _ _ rfl C _ (bkK n LL i) _ ?c0 rfl HOB.out p2 NL.length c2 NL rfl rfl HR12.out.2.1 (fun _ => True) HR12.out.2.2 hcc (by omega) hsz ?_
    try (case c0 => rfl)
    intro v' w13 hown' hg
    have S13 := Lib.hid (S12.out.put (i2 := i + 1) (by rw [HB2.out]; exact hown') hg)
    obtain ⟨pb2, cb2, rfl, -, -⟩ := own_shape S13.out.own
    have hlen2 : Hid ((bkK n LL i ++ NL).length = (bkK n LL (i + 1)).length) := Lib.hid (by rw [HB2.out])
    clear hown' hg HOB S12 HR12 hsz hcc hbl hnl64
    go_wp2_with fail
    exact ⟨⟨i + 1, pb2, cb2, by omega, congrArg _ (by omega), rfl, S13⟩, by simp only [RowKit.intOf]; omega⟩
end Go.Proofs.YtlgmankojgjfjaaDoor

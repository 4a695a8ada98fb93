/- Parts of the proof, packed: MaRch, MaDvM. -/
import Derived.Test.YtgofadmncgmhoaaDv20
import Derived.Maps.RangeWalk
/- masks: Reach. -/
namespace Go.Proofs.Ytgofadmncgmhoaa
open Go.RowKit Go.Maps Bs
/-- R is all the bits of f. -/
def RcO (f : Int → Option Nat) (R : Nat) : Prop := ∀ j, R.testBit j = true ↔ ∃ u, ((f u).getD 0).testBit j = true
/-- R is the bits of the keys that have been. -/
def RcL (f : Int → Option Nat) (left : Lit → Bool) (R : Nat) : Prop := ∀ j, R.testBit j = true ↔ ∃ u, left (kM u) = false ∧ ((f u).getD 0).testBit j = true
set_option maxRecDepth 100000 in
theorem kM_same {x y : Int} : (kM y).sameKey (kM x) = decide (y = x) := by
  by_cases h : y = x
  · subst h
    rw [decide_eq_true rfl]
    unfold kM
    simp [Lit.sameKey]
  · rw [decide_eq_false h]
    exact sameKey_ne (kM_ne h)
set_option maxRecDepth 100000 in
theorem RcL.start {D : DataW Unit} {f : Int → Option Nat} (h : MU D f) : RcL f (Maps.has D) 0 := by
  intro j
  rw [Nat.zero_testBit]
  constructor
  · intro h0; cases h0
  · rintro ⟨u, h1, h2⟩
    rw [h.hs] at h1
    cases hf : f u with
    | none => rw [hf] at h2; simp at h2
    | some d => rw [hf] at h1; cases h1
set_option maxRecDepth 100000 in
theorem RcL.done {f : Int → Option Nat} {left : Lit → Bool} {R : Nat} (h : RcL f left R) (hl : ∀ z, left z = false) : RcO f R := fun j => (h j).trans ⟨fun ⟨u, _, h2⟩ => ⟨u, h2⟩, fun ⟨u, h2⟩ => ⟨u, hl _, h2⟩⟩
set_option maxRecDepth 100000 in
theorem RcL.step {f : Int → Option Nat} {left : Lit → Bool} {R : Nat} (h : RcL f left R) (x : Int) : RcL f (fun z => left z && !z.sameKey (kM x)) (R ||| (f x).getD 0) := by
  intro j
  rw [Nat.testBit_or, Bool.or_eq_true, h j]
  constructor
  · rintro (⟨u, h1, h2⟩ | h2)
    · exact ⟨u, by simp [h1], h2⟩
    · exact ⟨x, by simp [kM_same], h2⟩
  · rintro ⟨u, h1, h2⟩
    by_cases e : u = x
    · subst e; exact Or.inr h2
    · refine Or.inl ⟨u, ?_, h2⟩
      simpa [kM_same, e] using h1
set_option maxRecDepth 100000 in
set_option maxHeartbeats 6400000 in
theorem mreach_any (r s n : Int) (p : Option Addr) (c : Nat) (L : List Rw) (set : Int) (w : World) (hR : RdW w (· < w.heap.size) p c L) (hm : L.length ≤ 9223372036854775807) :
    Calls Try.prog 14 #[.agg #[.int .i64 r, .int .i64 s, .int .i64 n, .slice p L.length c], .int .i64 set] w fun e w' => ∃ R : Nat, e = .returned (.int .u64 (R : Int)) ∧ RcO (coF r s n L 0 set) R ∧ w.grownBy w' none := by
  have H0 := Lib.hid (bx_start (r := r) (s := s) (n := n) hR)
  clear hR
  go_enter Try.func14, Try.ntmps14
  go_upto_region 1 with fail
  generalize w.alloc _ = w1 at *
  obtain ⟨d0, d1, d2, d3⟩ := row4T H0.out.bx
  go_wp2_with fail
  refine (mcollect_any r s n p c L 0 set w1 H0.out.rd hm).mono ?_
  rintro e w4 ⟨rfl, ⟨N, hN, D, hown, hmf⟩, hg⟩
  have HG := Lib.hid (grown_trans H0.out.gr hg)
  have HW0 : Hid (w.heap.size ≤ w4.heap.size) := Lib.hid HG.out.size
  have HMF := Lib.hid hmf
  obtain ⟨f, hf⟩ : ∃ f, coF r s n L 0 set = f := ⟨_, rfl⟩
  have HF := Lib.hid hf
  have HOK : Hid (ColOk f) := Lib.hid (by rw [← hf]; exact coF_ok r s n L 0 set)
  rw [hf] at HMF hmf
  clear hg H0 d0 d1 d2 d3 hf
  generalize w1.heap.size + 1 = b at *
  have HL0 := Lib.hid (RcL.start hmf)
  clear hmf
  go_wp2_with (first
    | (at_range; refine wpList_range_own _ rfl _ 68 rfl 3 31 lawM Try.underlying68 _ b N _ rfl hown ?_; intro w5 hrg0 hg0 hs0)
    | fail)
  go_frame
  obtain ⟨q, hq⟩ : ∃ q, w4.heap.size = q := ⟨_, rfl⟩
  (try rw [hq] at hrg0)
  (try rw [hq])
  rw [hq] at HW0
  have HG5 := Lib.hid (grown_trans HG.out hg0)
  have HR0 := Lib.hid hrg0
  clear hrg0 hg0 hs0 hown HG hq
  go_loopw [5] (fun o wr => ∃ (left : Lit → Bool) (cn R : Nat), o = .int .u64 (R : Int) ∧ Hid (U64 R ∧ RcL f left R) ∧ Hid (wr.ranges Try.prog 3 (plainElem Try.prog 31) b q N D left cn) ∧ Hid (w.grownBy wr none)) (fun _ wr => wr.rangeLeft b q)
  case atStart => exact ⟨_, _, 0, rfl, Lib.hid ⟨u64_mk (by decide), HL0.out⟩, HR0, HG5⟩
  case round =>
  obtain ⟨w6, rfl⟩ : ∃ w6, w6 = wr := ⟨_, rfl⟩
  obtain ⟨left, cn, R, rfl, HL, HR, HG6⟩ := hrel
  clear HR0 HG5 HL0
  have hrg := HR.out
  have HUR := HL.out.1
  go_wp2_with (first
    | (at_next; refine wpList_next_ranges_ii _ rfl _ rfl 3 31 .i64 .u64 lawM Try.underlying3 Try.underlying31 b q N _ _ _ rfl hrg ?_ ?_)
    | fail)
  · intro hc0 hl0
    have HO := Lib.hid (HL.out.2.done hl0)
    clear hl0 hc0 hrg HR
    go_wp2_with fail
    go_ret
    exact ⟨R, rfl, by rw [HF.out]; exact HO.out, HG6.out⟩
  · intro x d w7 cnt1 hwx hwc hlx hat hrg1 hlt1 hg1 hs1 hen
    obtain rfl : d = (((f x).getD 0 : Nat) : Int) := by
      have h3 := HMF.out.at1_ x
      unfold kM at h3
      rw [hat] at h3
      injection h3 with h3
      injection h3 with _ h3
    have HU := HOK.out.getD x
    have HS := Lib.hid (And.intro (Nat.or_lt_two_pow (n := 64) HUR HU) (HL.out.2.step x))
    have HG7 := Lib.hid (grown_new HG6.out hg1 HW0.out)
    have hmeas : w7.rangeLeft b q < w6.rangeLeft b q := by rw [hrg1.left_eq, hrg.left_eq]; exact hlt1
    have HR7 := Lib.hid hrg1
    have HOR := Lib.hid (orU R ((f x).getD 0) HUR HU)
    clear hat hg1 hs1 hlx hrg hrg1 HR
    go_wp2_with fail
    exact ⟨⟨_, _, R ||| (f x).getD 0, congrArg _ HOR.out, HS, HR7, HG7⟩, hmeas⟩
end Go.Proofs.Ytgofadmncgmhoaa

/- masks: masks divide the bits (mathematics). -/
namespace Go.Proofs.Ytgofadmncgmhoaa
open Go.RowKit Bs
def wantS (n set : Int) (acc : Nat) (x : Rw) : Nat := if plS x.id n = set ∧ 0 < x.nx.length then acc ||| b2 (plB x.id n).toNat else acc
/-- The bits of the IDs of a set that have a next hop. -/
def wantK (n set : Int) (L : List Rw) : Nat := L.foldl (wantS n set) 0
set_option maxRecDepth 100000 in
theorem wantK_take {n set : Int} {L : List Rw} {i : Nat} {x : Rw} (hx : L[i]? = some x) : wantK n set (L.take (i + 1)) = wantS n set (wantK n set (L.take i)) x := by
  unfold wantK
  rw [List.take_add_one, hx, List.foldl_append]; rfl
set_option maxRecDepth 100000 in
theorem wantS_u {n set : Int} {acc : Nat} (h : U64 acc) (x : Rw) : U64 (wantS n set acc x) := by
  unfold wantS
  split
  · exact Nat.or_lt_two_pow (n := 64) h (b2_u64 (plB_lt64 _ _))
  · exact h
set_option maxRecDepth 100000 in
theorem want_bit {n set : Int} (L : List Rw) (j : Nat) : (wantK n set L).testBit j = true ↔ ∃ x ∈ L, plS x.id n = set ∧ 0 < x.nx.length ∧ (plB x.id n).toNat = j := by
  suffices h : ∀ (L : List Rw) (acc : Nat), (L.foldl (wantS n set) acc).testBit j = true ↔ (acc.testBit j = true ∨ ∃ x ∈ L, plS x.id n = set ∧ 0 < x.nx.length ∧ (plB x.id n).toNat = j) by
    refine (h L 0).trans ?_
    simp
  intro L
  induction L with
  | nil => intro acc; simp
  | cons x t ih =>
    intro acc
    rw [List.foldl_cons, ih]
    have hstep : (wantS n set acc x).testBit j = true ↔ (acc.testBit j = true ∨ (plS x.id n = set ∧ 0 < x.nx.length ∧ (plB x.id n).toNat = j)) := by
      unfold wantS
      split
      · rename_i hc
        rw [Nat.testBit_or]
        unfold b2
        rw [Nat.testBit_two_pow]
        simp only [Bool.or_eq_true, decide_eq_true_eq]
        exact ⟨fun h => h.imp id (fun h => ⟨hc.1, hc.2, h⟩), fun h => h.imp id (fun h => h.2.2)⟩
      · rename_i hc
        exact ⟨Or.inl, fun h => h.elim id (fun h => absurd ⟨h.1, h.2.1⟩ hc)⟩
    rw [hstep]
    constructor
    · rintro ((h | h) | ⟨y, hy, h⟩)
      · exact Or.inl h
      · exact Or.inr ⟨x, List.mem_cons_self .., h⟩
      · exact Or.inr ⟨y, List.mem_cons_of_mem _ hy, h⟩
    · rintro (h | ⟨y, hy, h⟩)
      · exact Or.inl (Or.inl h)
      · rcases List.mem_cons.1 hy with rfl | hy
        · exact Or.inl (Or.inr h)
        · exact Or.inr ⟨y, hy, h⟩
def allK (f : Int → Option Nat) (l : List Int) : Nat := l.foldl (fun acc u => acc ||| (f u).getD 0) 0
set_option maxRecDepth 100000 in
theorem allK_take {f : Int → Option Nat} {ts : List Int} {i : Nat} {u : Int} (hu : ts[i]? = some u) : allK f (ts.take (i + 1)) = allK f (ts.take i) ||| (f u).getD 0 := by
  unfold allK
  rw [List.take_add_one, hu, List.foldl_append]; rfl
set_option maxRecDepth 100000 in
theorem all_bit {f : Int → Option Nat} (l : List Int) (j : Nat) : (allK f l).testBit j = true ↔ ∃ u ∈ l, ((f u).getD 0).testBit j = true := by
  suffices h : ∀ (l : List Int) (acc : Nat), (l.foldl (fun acc u => acc ||| (f u).getD 0) acc).testBit j = true ↔ (acc.testBit j = true ∨ ∃ u ∈ l, ((f u).getD 0).testBit j = true) by
    refine (h l 0).trans ?_
    simp
  intro l
  induction l with
  | nil => intro acc; simp
  | cons a t ih =>
    intro acc
    rw [List.foldl_cons, ih, Nat.testBit_or]
    simp only [Bool.or_eq_true, List.mem_cons]
    constructor
    · rintro ((h | h) | ⟨y, hy, h⟩)
      · exact Or.inl h
      · exact Or.inr ⟨a, Or.inl rfl, h⟩
      · exact Or.inr ⟨y, Or.inr hy, h⟩
    · rintro (h | ⟨y, rfl | hy, h⟩)
      · exact Or.inl (Or.inl h)
      · exact Or.inl (Or.inr h)
      · exact Or.inr ⟨y, hy, h⟩
set_option maxRecDepth 100000 in
theorem allK_u {f : Int → Option Nat} (h : ColOk f) : ∀ l : List Int, U64 (allK f l) := by
  suffices h2 : ∀ (l : List Int) (acc : Nat), U64 acc → U64 (l.foldl (fun acc u => acc ||| (f u).getD 0) acc) from fun l => h2 l 0 (u64_mk (by decide))
  intro l
  induction l with
  | nil => exact fun acc ha => ha
  | cons a t ih => exact fun acc ha => ih _ (Nat.or_lt_two_pow (n := 64) ha (h.getD a))
section
variable {r s n set : Int} {L : List Rw}
set_option maxRecDepth 100000 in
theorem coF_eq (h : ckT r s n L = 0) {k : Nat} (hk : k < 8) : coF r s n L (k : Int) set = colL n set k L := by
  unfold coF
  rw [if_pos ⟨by omega, h⟩, Int.toNat_natCast]
set_option maxRecDepth 100000 in
theorem nat_eq_iff {a b : Nat} (h : ∀ j, a.testBit j = true ↔ b.testBit j = true) : a = b := Nat.eq_of_testBit_eq fun j => by rw [Bool.eq_iff_iff]; exact h j
set_option maxRecDepth 100000 in
theorem some_bit {f : Int → Option Nat} {u : Int} {j : Nat} (h : ((f u).getD 0).testBit j = true) : (f u).isSome = true := by
  cases hf : f u with
  | none => rw [hf] at h; simp at h
  | some d => rfl
set_option maxRecDepth 100000 in
/-- Two rows of a set with one bit are one row. -/
theorem row_one (h : ckT r s n L = 0) {x y : Rw} (hx : x ∈ L) (hy : y ∈ L) (h1 : plS x.id n = plS y.id n) (h2 : (plB x.id n).toNat = (plB y.id n).toNat) : x = y := by
  have hb : plB x.id n = plB y.id n := by
    have e1 := plB_nn y.id n
    have e2 := plB_nn x.id n
    omega
  have hid := pl_inj (row_pl h hx) (row_pl h hy) h1 hb
  have f1 := fdW_mem (ck_ok h).2.2.2.2.1 hx
  rw [hid, fdW_mem (ck_ok h).2.2.2.2.1 hy] at f1
  exact (Option.some.inj f1).symm
set_option maxRecDepth 100000 in
theorem dv_apart (h : ckT r s n L = 0) {k : Nat} (hk : k < 8) {ts : List Int} (hA : AscM (coF r s n L (k : Int) set) ts) {i : Nat} {u : Int} (hu : ts[i]? = some u) : allK (coF r s n L (k : Int) set) (ts.take i) &&& (coF r s n L (k : Int) set u).getD 0 = 0 := by
  refine Nat.eq_of_testBit_eq fun j => ?_
  rw [Nat.testBit_and, Nat.zero_testBit]
  cases h1 : (allK (coF r s n L (k : Int) set) (ts.take i)).testBit j with
  | false => rfl
  | true =>
    cases h2 : ((coF r s n L (k : Int) set u).getD 0).testBit j with
    | false => rfl
    | true =>
      exfalso
      obtain ⟨v, hv, h3⟩ := (all_bit _ _).1 h1
      rw [coF_eq h hk] at h2 h3
      obtain ⟨x, hx, x1, x2, -, x4⟩ := (colL_bit L u j).1 h2
      obtain ⟨y, hy, y1, y2, -, y4⟩ := (colL_bit L v j).1 h3
      have := row_one h hx hy (x1.trans y1.symm) (x4.trans y4.symm)
      subst this
      have hvu : v = u := y2.symm.trans x2
      subst hvu
      obtain ⟨q, hq, hz⟩ := List.getElem_of_mem hv
      rw [List.length_take] at hq
      rw [List.getElem_take] at hz
      obtain ⟨hi, hz2⟩ := List.getElem?_eq_some_iff.1 hu
      have := List.pairwise_iff_getElem.1 hA.asc q i (by omega) hi (by omega)
      omega
set_option maxRecDepth 100000 in
theorem dv_some (h : ckT r s n L = 0) {k : Nat} (hk : k < 8) {ts : List Int} (hA : AscM (coF r s n L (k : Int) set) ts) {i : Nat} {u : Int} (hu : ts[i]? = some u) : (coF r s n L (k : Int) set u).getD 0 ≠ 0 ∧ 1 ≤ u ∧ u ≤ 99 := by
  have hs := (hA.mem u).1 (List.mem_of_getElem? hu)
  obtain ⟨d, hd⟩ := Option.isSome_iff_exists.1 hs
  refine ⟨fun h0 => ?_, ((coF_ok r s n L (k : Int) set).u u d hd).2⟩
  rw [coF_eq h hk] at hs h0
  obtain ⟨x, hx, x1, x2, x3⟩ := (colL_some L u).1 hs
  have h3 := (colL_bit L u (plB x.id n).toNat).2 ⟨x, hx, x1, x2, x3, rfl⟩
  rw [h0] at h3
  simp at h3
set_option maxRecDepth 100000 in
theorem dv_full (h : ckT r s n L = 0) {k : Nat} (hk : k < 8) {ts : List Int} (hA : AscM (coF r s n L (k : Int) set) ts) : allK (coF r s n L (k : Int) set) ts = wantK n set L := by
  refine nat_eq_iff fun j => (all_bit _ _).trans (Iff.trans ?_ (want_bit _ _).symm)
  constructor
  · rintro ⟨u, -, h2⟩
    rw [coF_eq h hk] at h2
    obtain ⟨x, hx, x1, x2, x3, x4⟩ := (colL_bit L u j).1 h2
    refine ⟨x, hx, x1, ?_, x4⟩
    rcases Nat.eq_zero_or_pos x.nx.length with h0 | h0
    · exact absurd (x2.symm.trans ((nxI_zero h hx k).1 h0)) x3
    · exact h0
  · rintro ⟨x, hx, x1, x2, x4⟩
    have hn := (nxI_zero h hx k).2 (by omega)
    have h3 := (colL_bit (n := n) (set := set) (k := k) L (nxI x.nx k) j).2 ⟨x, hx, x1, rfl, hn.1, x4⟩
    rw [← coF_eq h hk] at h3
    exact ⟨nxI x.nx k, (hA.mem _).2 (some_bit h3), h3⟩
set_option maxRecDepth 100000 in
theorem dv_reach (h : ckT r s n L = 0) {R : Nat} (hR : RcO (coF r s n L 0 set) R) : R = wantK n set L := by
  refine nat_eq_iff fun j => (hR j).trans (Iff.trans ?_ (want_bit _ _).symm)
  have he := coF_eq (set := set) h (k := 0) (by omega)
  rw [show ((0 : Nat) : Int) = 0 from rfl] at he
  rw [he]
  constructor
  · rintro ⟨u, h2⟩
    obtain ⟨x, hx, x1, x2, x3, x4⟩ := (colL_bit L u j).1 h2
    refine ⟨x, hx, x1, ?_, x4⟩
    rcases Nat.eq_zero_or_pos x.nx.length with h0 | h0
    · exact absurd (x2.symm.trans ((nxI_zero h hx 0).1 h0)) x3
    · exact h0
  · rintro ⟨x, hx, x1, x2, x4⟩
    have hn := (nxI_zero h hx 0).2 (by omega)
    exact ⟨nxI x.nx 0, (colL_bit L _ j).2 ⟨x, hx, x1, rfl, hn.1, x4⟩⟩
set_option maxRecDepth 100000 in
/-- The own mask is the same in each plane. -/
theorem dv_own (h : ckT r s n L = 0) {k : Nat} (hk : k < 8) : (coF r s n L (k : Int) set r).getD 0 = (coF r s n L 0 set r).getD 0 := by
  have he := coF_eq (set := set) h (k := 0) (by omega)
  rw [show ((0 : Nat) : Int) = 0 from rfl] at he
  rw [he, coF_eq h hk]
  have hone : ∀ x ∈ L, ∀ a b : Nat, r ≠ 0 → nxI x.nx a = r → nxI x.nx b = r := fun x hx a b hr ha => by
    have hne : x.nx.length ≠ 0 := fun h0 => hr (ha.symm.trans ((nxI_zero h hx a).1 h0))
    have hm := ((nxI_zero h hx a).2 hne).2
    rw [ha] at hm
    have h1 : x.nx.length = 1 := by
      rcases Nat.lt_or_ge 1 x.nx.length with h1 | h1
      · exact absurd hm ((row_asc h hx).2.2.2.2 h1)
      · omega
    have h2 := nxI_at (X := x.nx) (k := a) hne
    have h3 := nxI_at (X := x.nx) (k := b) hne
    rw [h1, Nat.mod_one] at h2 h3
    rw [h2] at h3
    rw [← Option.some.inj h3]; exact ha
  exact nat_eq_iff fun j => (colL_bit L r j).trans (Iff.trans ⟨fun ⟨x, hx, x1, x2, x3, x4⟩ => ⟨x, hx, x1, hone x hx k 0 x3 x2, x3, x4⟩, fun ⟨x, hx, x1, x2, x3, x4⟩ => ⟨x, hx, x1, hone x hx 0 k x3 x2, x3, x4⟩⟩ (colL_bit L r j).symm)
end
end Go.Proofs.Ytgofadmncgmhoaa

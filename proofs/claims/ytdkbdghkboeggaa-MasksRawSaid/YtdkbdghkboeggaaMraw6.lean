/- Parts of the proof, packed: MaRMk, MaRAl, MaRch, MaMsk, ToBs, ToOrdM, ToWoM, ToLkM, ToLook, ToCln, MaNxt. -/
import Derived.Test.YtdkbdghkboeggaaMraw5
import Derived.Test.YtdkbdghkboeggaaMraw3
import Derived.Maps.RangeWalk
import Derived.Test.YtdkbdghkboeggaaMraw1
import Derived.Deep.CutBlock
import Derived.Lib.SliceRun
/- masks, the reference's functions: Mask, Next, Local. -/
namespace Go.Proofs.Ytdkbdghkboeggaa
open Go.RowKit Go.Maps Bs
/-- What Next returns. -/
def nxO (r s n : Int) (L : List Rw) (id pl : Int) : Int := if vaT r s n L pl = true then hopI L id pl.toNat else 0
set_option maxRecDepth 100000 in
theorem nxO_no {r s n : Int} {L : List Rw} {id pl : Int} (h : vaT r s n L pl = false) : nxO r s n L id pl = 0 := by unfold nxO; rw [h]; rfl
set_option maxRecDepth 100000 in
theorem nxO_yes {r s n : Int} {L : List Rw} {id : Int} {k : Nat} (h : vaT r s n L (k : Int) = true) : nxO r s n L id (k : Int) = hopI L id k := by unfold nxO; rw [if_pos h, Int.toNat_natCast]
set_option maxRecDepth 100000 in
theorem ck_len {r s n : Int} {L : List Rw} (h : ckT r s n L = 0) : 0 ≤ n ∧ n ≤ 64 := by
  have := (ck_ok h).1
  unfold hdT at this
  simp at this
  cases hv : vl n with
  | true => rcases vl_cases hv with rfl | rfl | rfl | rfl <;> omega
  | false => have := (this.2 hv).1; omega
set_option maxRecDepth 100000 in
theorem plS_in (id n : Int) : 0 ≤ plS id n ∧ plS id n ≤ 31 := by
  unfold plS
  split
  · rename_i h
    obtain ⟨hl, h1, h2⟩ := pl_fields h
    rw [Int.tdiv_eq_ediv_of_nonneg (by omega)]
    rcases hl with rfl | rfl | rfl | rfl <;> omega
  · omega
set_option maxRecDepth 100000 in
theorem coF_z1 {r s n : Int} {L : List Rw} {pl set u : Int} (h : ¬ ((0 ≤ pl ∧ pl < 8) ∧ ckT r s n L = 0)) : (coF r s n L pl set u).getD 0 = 0 := by
  unfold coF
  rw [if_neg h]; rfl
set_option maxRecDepth 100000 in
theorem coF_z2 {r s n : Int} {L : List Rw} {pl set u : Int} (h : set < 0 ∨ 31 < set) : (coF r s n L pl set u).getD 0 = 0 := by
  unfold coF
  split
  · refine Nat.eq_of_testBit_eq fun j => ?_
    rw [Nat.zero_testBit, ← Bool.not_eq_true, colL_bit]
    rintro ⟨x, -, h1, -⟩
    have := plS_in x.id n
    omega
  · rfl
set_option maxRecDepth 100000 in
theorem coF_z3 {r s n : Int} {L : List Rw} {pl set u : Int} (h : u < 1 ∨ 99 < u) : (coF r s n L pl set u).getD 0 = 0 := by
  cases hf : coF r s n L pl set u with
  | none => rfl
  | some d => have := ((coF_ok r s n L pl set).u u d hf).2; omega
set_option maxRecDepth 100000 in
theorem coF_in {r s n : Int} {L : List Rw} {k : Nat} {set u : Int} (hk : k < 8) (h : ckT r s n L = 0) : coF r s n L (k : Int) set u = colL n set k L u := by
  unfold coF
  rw [if_pos ⟨⟨by omega, by omega⟩, h⟩, Int.toNat_natCast]
set_option maxRecDepth 100000 in
set_option maxHeartbeats 3200000 in
theorem rmask_any (r s n : Int) (p : Option Addr) (c : Nat) (L : List Rw) (pl set u : Int) (w : World) (hR : RdW w (· < w.heap.size) p c L) (hm : L.length ≤ 9223372036854775807) :
    Calls Try.prog 15 #[.agg #[.int .i64 r, .int .i64 s, .int .i64 n, .slice p L.length c], .int .i64 pl, .int .i64 set, .int .i64 u] w fun e w' => e = .returned (.int .u64 (((coF r s n L pl set u).getD 0 : Nat) : Int)) ∧ w.grownBy w' none := by
  have H0 := Lib.hid (bx_start (r := r) (s := s) (n := n) hR)
  clear hR
  go_enter Try.func15, Try.ntmps15
  go_upto_region 1 with fail
  generalize w.alloc _ = wa at *
  obtain ⟨d0, d1, d2, d3⟩ := row4T H0.out.bx
  go_wp2_with fail
  refine (rck11_any r s n p c L wa H0.out.rd hm).mono ?_
  rintro e w1 ⟨rfl, hg⟩
  have K := Lib.hid (H0.out.keep hg)
  clear hg H0 d0 d1 d2 d3
  by_cases hck : ckT r s n L = 0
  case neg =>
    have hck' : (ckT r s n L != 0) = true := by simpa using hck
    have HZ : Hid ((coF r s n L pl set u).getD 0 = 0) := Lib.hid (coF_z1 fun h => hck h.2)
    clear hck
    go_wp2_with fail
    go_ret
    exact ⟨by rw [HZ.out]; rfl, K.out.gr⟩
  have HCK := Lib.hid hck
  have hck' : (ckT r s n L != 0) = false := by simpa using hck
  clear hck
  go_wp2_with fail
  refine (rpl12_any pl w1).mono ?_
  rintro e w' ⟨rfl, rfl⟩
  cases hp : (decide (0 ≤ pl) && decide (pl < 8))
  case false =>
    have HZ : Hid ((coF r s n L pl set u).getD 0 = 0) := Lib.hid (coF_z1 fun h => by simp [h.1.1, h.1.2] at hp)
    clear hp hck'
    go_wp2_with fail
    go_ret
    exact ⟨by rw [HZ.out]; rfl, K.out.gr⟩
  rw [Bool.and_eq_true, decide_eq_true_eq, decide_eq_true_eq] at hp
  obtain ⟨hp1, hp2⟩ := hp
  obtain ⟨k, rfl⟩ := Int.eq_ofNat_of_zero_le hp1
  have hk : k < 8 := by omega
  clear hck' hp1 hp2
  by_cases hs0 : set < 0
  case pos =>
    have HZ : Hid ((coF r s n L (k : Int) set u).getD 0 = 0) := Lib.hid (coF_z2 (Or.inl hs0))
    go_wp2_with fail
    go_ret
    exact ⟨by rw [HZ.out]; rfl, K.out.gr⟩
  by_cases hs1 : 31 < set
  case pos =>
    have HZ : Hid ((coF r s n L (k : Int) set u).getD 0 = 0) := Lib.hid (coF_z2 (Or.inr hs1))
    go_wp2_with fail
    go_ret
    exact ⟨by rw [HZ.out]; rfl, K.out.gr⟩
  by_cases hu0 : u < 1
  case pos =>
    have HZ : Hid ((coF r s n L (k : Int) set u).getD 0 = 0) := Lib.hid (coF_z3 (Or.inl hu0))
    go_wp2_with fail
    go_ret
    exact ⟨by rw [HZ.out]; rfl, K.out.gr⟩
  by_cases hu1 : 99 < u
  case pos =>
    have HZ : Hid ((coF r s n L (k : Int) set u).getD 0 = 0) := Lib.hid (coF_z3 (Or.inr hu1))
    go_wp2_with fail
    go_ret
    exact ⟨by rw [HZ.out]; rfl, K.out.gr⟩
  obtain ⟨hn0, hn1⟩ := ck_len HCK.out
  obtain ⟨N, rfl⟩ := Int.eq_ofNat_of_zero_le hn0
  have HE : Hid ((coF r s (N : Int) L (k : Int) set u).getD 0 = btA (btP L (N : Int) set u k) N) := Lib.hid (by rw [coF_in hk HCK.out]; exact (mask_eq HCK.out rfl (by omega)).symm)
  have hN : N ≤ 64 := by omega
  obtain ⟨d0, d1, d2, d3⟩ := row4T K.out.bx
  clear hn0 hn1
  go_wp2_with fail
  refine (rbits_any r s N hN p c L k hk set u w1 K.out.rd hm).mono ?_
  rintro e w2 ⟨rfl, hg⟩
  have G := Lib.hid (grown_trans K.out.gr hg)
  clear hg d0 d1 d2 d3
  go_wp2_with fail
  go_ret
  exact ⟨by rw [HE.out]; rfl, G.out⟩
set_option maxRecDepth 100000 in
set_option maxHeartbeats 3200000 in
theorem rnext12_any (r s n : Int) (p : Option Addr) (c : Nat) (L : List Rw) (id pl : Int) (w : World) (hR : RdW w (· < w.heap.size) p c L) (hm : L.length ≤ 9223372036854775807) :
    Calls Try.prog 13 #[.agg #[.int .i64 r, .int .i64 s, .int .i64 n, .slice p L.length c], .int .i64 id, .int .i64 pl] w fun e w' => e = .returned (.int .i64 (nxO r s n L id pl)) ∧ w.grownBy w' none := by
  have H0 := Lib.hid (bx_start (r := r) (s := s) (n := n) hR)
  clear hR
  go_enter Try.func13, Try.ntmps13
  go_upto_region 1 with fail
  generalize w.alloc _ = wa at *
  obtain ⟨d0, d1, d2, d3⟩ := row4T H0.out.bx
  go_wp2_with fail
  refine (rck11_any r s n p c L wa H0.out.rd hm).mono ?_
  rintro e w1 ⟨rfl, hg⟩
  have K := Lib.hid (H0.out.keep hg)
  clear hg H0 d0 d1 d2 d3
  by_cases hck : ckT r s n L = 0
  case neg =>
    have hck' : (ckT r s n L != 0) = true := by simpa using hck
    have HZ : Hid (nxO r s n L id pl = 0) := Lib.hid (nxO_no (by unfold vaT; exact decide_eq_false fun h => hck h.2))
    clear hck
    go_wp2_with fail
    go_ret
    exact ⟨by rw [HZ.out]; rfl, K.out.gr⟩
  have HCK := Lib.hid hck
  have hck' : (ckT r s n L != 0) = false := by simpa using hck
  clear hck
  go_wp2_with fail
  refine (rpl12_any pl w1).mono ?_
  rintro e w' ⟨rfl, rfl⟩
  cases hp : (decide (0 ≤ pl) && decide (pl < 8))
  case false =>
    have HZ : Hid (nxO r s n L id pl = 0) := Lib.hid (nxO_no (by unfold vaT; exact decide_eq_false fun h => by simp [h.1.1, h.1.2] at hp))
    clear hp hck'
    go_wp2_with fail
    go_ret
    exact ⟨by rw [HZ.out]; rfl, K.out.gr⟩
  rw [Bool.and_eq_true, decide_eq_true_eq, decide_eq_true_eq] at hp
  obtain ⟨hp1, hp2⟩ := hp
  obtain ⟨k, rfl⟩ := Int.eq_ofNat_of_zero_le hp1
  have hk : k < 8 := by omega
  have HZ : Hid (nxO r s n L id (k : Int) = hopI L id k) := Lib.hid (nxO_yes (by unfold vaT; exact decide_eq_true ⟨⟨by omega, by omega⟩, HCK.out⟩))
  clear hck' hp1 hp2
  obtain ⟨d0, d1, d2, d3⟩ := row4T K.out.bx
  go_wp2_with fail
  refine (rhop_any r s n p c L id k hk w1 K.out.rd hm).mono ?_
  rintro e w2 ⟨rfl, hg⟩
  have G := Lib.hid (grown_trans K.out.gr hg)
  clear hg d0 d1 d2 d3
  go_wp2_with fail
  go_ret
  exact ⟨by rw [HZ.out]; rfl, G.out⟩
set_option maxRecDepth 100000 in
set_option maxHeartbeats 1600000 in
theorem rlocal_any (r s n : Int) (p : Option Addr) (c : Nat) (L : List Rw) (set : Int) (w : World) (hR : RdW w (· < w.heap.size) p c L) (hm : L.length ≤ 9223372036854775807) :
    Calls Try.prog 19 #[.agg #[.int .i64 r, .int .i64 s, .int .i64 n, .slice p L.length c], .int .i64 set] w fun e w' => e = .returned (.int .u64 (((coF r s n L 0 set r).getD 0 : Nat) : Int)) ∧ w.grownBy w' none := by
  have H0 := Lib.hid (bx_start (r := r) (s := s) (n := n) hR)
  clear hR
  go_enter Try.func19, Try.ntmps19
  go_upto_region 1 with fail
  generalize w.alloc _ = wa at *
  obtain ⟨d0, d1, d2, d3⟩ := row4T H0.out.bx
  go_wp2_with fail
  refine (rmask_any r s n p c L 0 set r wa H0.out.rd hm).mono ?_
  rintro e w1 ⟨rfl, hg⟩
  have G := Lib.hid (grown_trans H0.out.gr hg)
  clear hg H0 d0 d1 d2 d3
  go_wp2_with fail
  go_ret
  exact ⟨rfl, G.out⟩
end Go.Proofs.Ytdkbdghkboeggaa

/- masks, the reference's functions: All. -/
namespace Go.Proofs.Ytdkbdghkboeggaa
open Go.RowKit Go.Maps Bs
/-- The neighbours up to k with a mask. -/
def tsK (f : Int → Option Nat) (k : Nat) : List Int := ((List.range k).map fun i : Nat => (i : Int) + 1).filter fun x => (f x).isSome
set_option maxRecDepth 100000 in
theorem tsK_yes {f : Int → Option Nat} {k : Nat} (h : (f ((k : Int) + 1)).isSome = true) : tsK f (k + 1) = tsK f k ++ [(k : Int) + 1] := by
  unfold tsK
  rw [List.range_succ, List.map_append, List.filter_append]
  congr 1
  simp [h]
set_option maxRecDepth 100000 in
theorem tsK_no {f : Int → Option Nat} {k : Nat} (h : (f ((k : Int) + 1)).isSome = false) : tsK f (k + 1) = tsK f k := by
  unfold tsK
  rw [List.range_succ, List.map_append, List.filter_append]
  simp [h]
set_option maxRecDepth 100000 in
theorem tsK_len (f : Int → Option Nat) (k : Nat) : (tsK f k).length ≤ k := by
  unfold tsK
  refine Nat.le_trans (List.length_filter_le _ _) ?_
  simp
set_option maxRecDepth 100000 in
theorem tsK_asc {f : Int → Option Nat} (h : ColOk f) : AscM f (tsK f 99) := by
  constructor
  · refine List.Pairwise.sublist List.filter_sublist ?_
    rw [List.pairwise_map]
    exact List.pairwise_lt_range.imp (fun h => by omega)
  · intro x
    unfold tsK
    rw [List.mem_filter, List.mem_map]
    constructor
    · exact fun h => h.2
    · intro hx
      obtain ⟨d, hd⟩ := Option.isSome_iff_exists.1 hx
      have hb := (h.u x d hd).2
      exact ⟨⟨(x - 1).toNat, by rw [List.mem_range]; omega, by omega⟩, hx⟩
set_option maxRecDepth 100000 in
/-- A mask that is there is not empty. -/
theorem coF_some {r s n : Int} {L : List Rw} {pl set u : Int} : (coF r s n L pl set u).isSome = true ↔ (coF r s n L pl set u).getD 0 ≠ 0 := by
  constructor
  · intro h h0
    unfold coF at h h0
    split at h
    · rename_i hc
      rw [if_pos hc] at h0
      obtain ⟨x, hx, h1, h2, h3⟩ := (colL_some L u).1 h
      have := (colL_bit L u (plB x.id n).toNat).2 ⟨x, hx, h1, h2, h3, rfl⟩
      rw [h0, Nat.zero_testBit] at this
      cases this
    · cases h
  · intro h
    cases hf : coF r s n L pl set u with
    | none => rw [hf] at h; exact absurd rfl h
    | some d => rfl
/-- While the masks are listed. -/
structure RA (W : World) (C : Nat) (r s n : Int) (p : Option Addr) (c : Nat) (L : List Rw) (v : Value) (M : List Md) (w : World) : Prop where
  bx : w.heap[W.heap.size]? = some (.cells #[.int .i64 r, .int .i64 s, .int .i64 n, .slice p L.length c] 24 (0, 0))
  rd : RdW w (· < C) p c L
  own : w.ownsRow C 47 2 v M.length (M.flatMap mdC)
  gr : W.grownBy w none
  lo : W.heap.size < C ∧ C ≤ w.heap.size
set_option maxRecDepth 100000 in
theorem RA.all {W : World} {C : Nat} {r s n : Int} {p : Option Addr} {c : Nat} {L : List Rw} {v : Value} {M : List Md} {w : World} (h : RA W C r s n p c L v M w) : RdW w (· < w.heap.size) p c L :=
  h.rd.mono (fun b (hb : b < C) => Nat.lt_of_lt_of_le hb h.lo.2)
set_option maxRecDepth 100000 in
theorem RA.keep {W : World} {C : Nat} {r s n : Int} {p : Option Addr} {c : Nat} {L : List Rw} {v : Value} {M : List Md} {w w1 : World} (h : RA W C r s n p c L v M w) (g : w.grownBy w1 none) : RA W C r s n p c L v M w1 :=
  ⟨kept_row h.bx g (by simp), h.rd.keep g, h.own.kept g (by cases v.ownBlock <;> simp), grown_trans h.gr g, h.lo.1, Nat.le_trans h.lo.2 g.size⟩
set_option maxRecDepth 100000 in
theorem RA.put {W : World} {C : Nat} {r s n : Int} {p : Option Addr} {c : Nat} {L : List Rw} {v v' : Value} {M M2 : List Md} {w w1 : World} (h : RA W C r s n p c L v M w) (hown : w1.ownsRow C 47 2 v' M2.length (M2.flatMap mdC)) (g : w.grownBy w1 v.ownBlock) : RA W C r s n p c L v' M2 w1 := by
  have hlo := h.lo
  have hne : ∀ b, b < C → some b ≠ v.ownBlock := fun b hb e => by have := (h.own.lt b e.symm).1; omega
  exact ⟨kept_row h.bx g (hne _ hlo.1), h.rd.grown g hne, hown, grown_any h.gr g (fun b hb => hne b (by omega)), h.lo.1, Nat.le_trans h.lo.2 g.size⟩
set_option maxRecDepth 100000 in
set_option maxHeartbeats 6400000 in
theorem rall12_any (r s n : Int) (p : Option Addr) (c : Nat) (L : List Rw) (pl set : Int) (w : World) (hR : RdW w (· < w.heap.size) p c L) (hm : L.length ≤ 9223372036854775807) :
    Calls Try.prog 17 #[.agg #[.int .i64 r, .int .i64 s, .int .i64 n, .slice p L.length c], .int .i64 pl, .int .i64 set] w fun e w' => AllPost r s n L pl set w e w' := by
  obtain ⟨ie, hie, he0, he1, he2⟩ := info_parts info_md
  have B0 := bx_start (r := r) (s := s) (n := n) hR
  have H0 : Hid (RA w (w.alloc (.cells #[.int .i64 r, .int .i64 s, .int .i64 n, .slice p L.length c] 24)).heap.size r s n p c L (.slice none 0 0) [] _) := Lib.hid ⟨B0.bx, B0.rd, World.ownsRow_nil _ _ _ _, B0.gr, by simp, Nat.le_refl _⟩
  clear hR B0
  go_enter Try.func17, Try.ntmps17
  go_upto_region 1 with fail
  generalize w.alloc _ = wa at *
  generalize wa.heap.size = C at *
  obtain ⟨f, hf⟩ : ∃ f, coF r s n L pl set = f := ⟨_, rfl⟩
  have HF := Lib.hid hf
  have HOK : Hid (ColOk f) := Lib.hid (by rw [← hf]; exact coF_ok r s n L pl set)
  have HSM : Hid (∀ u, (f u).isSome = true ↔ (f u).getD 0 ≠ 0) := Lib.hid (fun u => by rw [← hf]; exact coF_some)
  clear hf
  go_wp2_with fail
  go_loopw [7, 8] (fun vo a wr => ∃ (k : Nat) (po : Option Addr) (co : Nat), k ≤ 99 ∧ a = .int .i64 ((k : Int) + 1) ∧ vo = .slice po (mdL f (tsK f k)).length co ∧ Hid (RA w C r s n p c L (.slice po (mdL f (tsK f k)).length co) (mdL f (tsK f k)) wr)) (fun _ a _ => 100 - (RowKit.intOf a).toNat)
  case atStart => exact ⟨0, none, 0, Nat.zero_le _, rfl, rfl, H0⟩
  case round =>
  clear H0
  obtain ⟨k, po, co, hk, rfl, rfl, A1⟩ := hrel
  obtain ⟨w6, hw6⟩ : ∃ w6, w6 = wr := ⟨_, rfl⟩
  rw [← hw6] at A1 ⊢
  clear hw6
  by_cases hlt : k < 99
  case neg =>
    obtain rfl : k = 99 := by omega
    go_wp2_with fail
    go_ret
    exact ⟨tsK f 99, po, co, by rw [HF.out]; rfl, by rw [HF.out]; exact tsK_asc HOK.out, by rw [HF.out]; exact A1.out.own.mono (Nat.le_of_lt A1.out.lo.1), A1.out.gr⟩
  case pos =>
  have hlt' : (k : Int) + 1 ≤ 99 := by omega
  obtain ⟨d0, d1, d2, d3⟩ := row4T A1.out.bx
  go_wp2_with fail
  refine (rmask_any r s n p c L pl set ((k : Int) + 1) w6 A1.out.all hm).mono ?_
  rintro e w7 ⟨rfl, hg⟩
  rw [HF.out]
  have A2 := Lib.hid (A1.out.keep hg)
  have HS := Lib.hid (HSM.out ((k : Int) + 1))
  clear hg A1 d0 d1 d2 d3
  by_cases hz : (f ((k : Int) + 1)).getD 0 = 0
  case pos =>
    have HE : Hid (tsK f (k + 1) = tsK f k) := Lib.hid (tsK_no (by
      cases hs : (f ((k : Int) + 1)).isSome with
      | false => rfl
      | true => exact absurd hz (HS.out.1 hs)))
    rw [hz]
    clear hz HS
    go_wp2_with fail
    exact ⟨⟨k + 1, po, co, by omega, congrArg _ (by omega), by rw [HE.out], by rw [HE.out]; exact A2⟩, by simp only [RowKit.intOf]; omega⟩
  have hz' : ((((f ((k : Int) + 1)).getD 0 : Nat) : Int) != 0) = true := by simpa using hz
  have HE : Hid (mdL f (tsK f (k + 1)) = mdL f (tsK f k) ++ [⟨(k : Int) + 1, (f ((k : Int) + 1)).getD 0⟩]) := Lib.hid (by
    rw [tsK_yes (HS.out.2 hz)]
    unfold mdL
    rw [List.map_append]; rfl)
  have hMl : (mdL f (tsK f k)).length ≤ 99 := by rw [mdL_len]; exact Nat.le_trans (tsK_len f k) (by omega)
  have HU := Lib.hid (HOK.out.getD ((k : Int) + 1))
  clear hz HS
  obtain ⟨M, hM⟩ : ∃ M, mdL f (tsK f k) = M := ⟨_, rfl⟩
  obtain ⟨M2, hM2⟩ : ∃ M2, mdL f (tsK f (k + 1)) = M2 := ⟨_, rfl⟩
  obtain ⟨d, hd⟩ : ∃ d, (f ((k : Int) + 1)).getD 0 = d := ⟨_, rfl⟩
  obtain ⟨x, hx⟩ : ∃ x, (k : Int) + 1 = x := ⟨_, rfl⟩
  rw [hd] at HE HU hz' ⊢
  rw [hM] at A2 HE hMl ⊢
  rw [hM2] at HE
  rw [hx] at HE ⊢
  have HM2 := Lib.hid hM2
  have HX := Lib.hid hx
  have HO2 := Lib.hid A2.out.own
  have hsz : C ≤ w7.heap.size := A2.out.lo.2
  clear hM hM2 hd hx
  go_wp2_with (at_builtin; refine hold_on ?_)
  refine Lib.hid ?_
  refine wpList_append_lies _ rfl _ _ 34 rfl C 47 ie (.agg #[.int .i64 0, .int .u64 0]) 2 16 Try.underlying34 hie he0 he1 he2 rfl (by decide) (.slice po M.length co) M.length (M.flatMap mdC) rfl (HO2.out.alloc _) ⟨w7.heap.size, 0, none⟩ 1 1 [.int .i64 x, .int .u64 (d : Int)] rfl rfl (md_row w7 x d _) (md_one ⟨x, d⟩) (by decide) (by unfold maxLen; omega) (by omega) (by simp; omega) _ rfl ?_
  intro g cap w8 hown hgrow hat hlt8
  have A3 := Lib.hid ((A2.out.keep (World.grownBy_alloc _ _ none)).put (M2 := M ++ [(⟨x, d⟩ : Md)]) (by rw [List.length_append, List.flatMap_append]; simpa [mdC] using hown) hgrow)
  rw [← HE.out] at A3
  have HL : Hid (M.length + 1 = M2.length) := Lib.hid (by rw [HE.out, List.length_append]; rfl)
  rw [HL.out] at A3 ⊢
  clear hown hgrow hat hlt8 HO2 A2 hsz HL HE HU hMl
  have hx9 : x ≤ 99 := by rw [← HX.out]; exact hlt'
  have hx0 : 1 ≤ x := by rw [← HX.out]; omega
  go_wp2_with fail
  exact ⟨⟨k + 1, some ⟨g, 0, none⟩, cap, by omega, congrArg _ (by rw [← HX.out]; omega), by rw [HM2.out], by rw [HM2.out]; exact A3⟩, by simp only [RowKit.intOf]; have := HX.out; omega⟩
end Go.Proofs.Ytdkbdghkboeggaa

/- masks: Reach. -/
namespace Go.Proofs.Ytdkbdghkboeggaa
open Go.RowKit Go.Maps Bs
/-- R is all the bits of f. -/
def RcO (f : Int → Option Nat) (R : Nat) : Prop := ∀ j, R.testBit j = true ↔ ∃ u, ((f u).getD 0).testBit j = true
set_option maxRecDepth 100000 in
theorem RcO.uniq {f : Int → Option Nat} {R S : Nat} (h : RcO f R) (k : RcO f S) : R = S :=
  Nat.eq_of_testBit_eq fun j => by rw [Bool.eq_iff_iff, h j, k j]
/-- R is the bits of the keys that have been. -/
def RcL (f : Int → Option Nat) (left : Lit → Bool) (R : Nat) : Prop := ∀ j, R.testBit j = true ↔ ∃ u, left (kM u) = false ∧ ((f u).getD 0).testBit j = true
set_option maxRecDepth 100000 in
theorem kM_same {x y : Int} : (kM y).sameKey (kM x) = decide (y = x) := by
  by_cases h : y = x
  · subst h
    rw [decide_eq_true rfl]
    unfold kM
    simp [Lit.sameKey]
  · rw [decide_eq_false h]
    exact sameKey_ne (kM_ne h)
set_option maxRecDepth 100000 in
theorem RcL.start {D : DataW Unit} {f : Int → Option Nat} (h : MU D f) : RcL f (Maps.has D) 0 := by
  intro j
  rw [Nat.zero_testBit]
  constructor
  · intro h0; cases h0
  · rintro ⟨u, h1, h2⟩
    rw [h.hs] at h1
    cases hf : f u with
    | none => rw [hf] at h2; simp at h2
    | some d => rw [hf] at h1; cases h1
set_option maxRecDepth 100000 in
theorem RcL.done {f : Int → Option Nat} {left : Lit → Bool} {R : Nat} (h : RcL f left R) (hl : ∀ z, left z = false) : RcO f R := fun j => (h j).trans ⟨fun ⟨u, _, h2⟩ => ⟨u, h2⟩, fun ⟨u, h2⟩ => ⟨u, hl _, h2⟩⟩
set_option maxRecDepth 100000 in
theorem RcL.step {f : Int → Option Nat} {left : Lit → Bool} {R : Nat} (h : RcL f left R) (x : Int) : RcL f (fun z => left z && !z.sameKey (kM x)) (R ||| (f x).getD 0) := by
  intro j
  rw [Nat.testBit_or, Bool.or_eq_true, h j]
  constructor
  · rintro (⟨u, h1, h2⟩ | h2)
    · exact ⟨u, by simp [h1], h2⟩
    · exact ⟨x, by simp [kM_same], h2⟩
  · rintro ⟨u, h1, h2⟩
    by_cases e : u = x
    · subst e; exact Or.inr h2
    · refine Or.inl ⟨u, ?_, h2⟩
      simpa [kM_same, e] using h1
set_option maxRecDepth 100000 in
set_option maxHeartbeats 6400000 in
theorem mreach_any (r s n : Int) (p : Option Addr) (c : Nat) (L : List Rw) (set : Int) (w : World) (hR : RdW w (· < w.heap.size) p c L) (hm : L.length ≤ 9223372036854775807) :
    Calls Try.prog 20 #[.agg #[.int .i64 r, .int .i64 s, .int .i64 n, .slice p L.length c], .int .i64 set] w fun e w' => ∃ R : Nat, e = .returned (.int .u64 (R : Int)) ∧ RcO (coF r s n L 0 set) R ∧ w.grownBy w' none := by
  have H0 := Lib.hid (bx_start (r := r) (s := s) (n := n) hR)
  clear hR
  go_enter Try.func20, Try.ntmps20
  go_upto_region 1 with fail
  generalize w.alloc _ = w1 at *
  obtain ⟨d0, d1, d2, d3⟩ := row4T H0.out.bx
  go_wp2_with fail
  refine (mcollect_any r s n p c L 0 set w1 H0.out.rd hm).mono ?_
  rintro e w4 ⟨rfl, ⟨N, hN, D, hown, hmf⟩, hg⟩
  have HG := Lib.hid (grown_trans H0.out.gr hg)
  have HW0 : Hid (w.heap.size ≤ w4.heap.size) := Lib.hid HG.out.size
  have HMF := Lib.hid hmf
  obtain ⟨f, hf⟩ : ∃ f, coF r s n L 0 set = f := ⟨_, rfl⟩
  have HF := Lib.hid hf
  have HOK : Hid (ColOk f) := Lib.hid (by rw [← hf]; exact coF_ok r s n L 0 set)
  rw [hf] at HMF hmf
  clear hg H0 d0 d1 d2 d3 hf
  generalize w1.heap.size + 1 = b at *
  have HL0 := Lib.hid (RcL.start hmf)
  clear hmf
  go_wp2_with (first
    | (at_range; refine wpList_range_own _ rfl _ 57 rfl 3 32 lawM Try.underlying57 _ b N _ rfl hown ?_; intro w5 hrg0 hg0 hs0)
    | fail)
  go_frame
  obtain ⟨q, hq⟩ : ∃ q, w4.heap.size = q := ⟨_, rfl⟩
  (try rw [hq] at hrg0)
  (try rw [hq])
  rw [hq] at HW0
  have HG5 := Lib.hid (grown_trans HG.out hg0)
  have HR0 := Lib.hid hrg0
  clear hrg0 hg0 hs0 hown HG hq
  go_loopw [5] (fun o wr => ∃ (left : Lit → Bool) (cn R : Nat), o = .int .u64 (R : Int) ∧ Hid (U64 R ∧ RcL f left R) ∧ Hid (wr.ranges Try.prog 3 (plainElem Try.prog 32) b q N D left cn) ∧ Hid (w.grownBy wr none)) (fun _ wr => wr.rangeLeft b q)
  case atStart => exact ⟨_, _, 0, rfl, Lib.hid ⟨u64_mk (by decide), HL0.out⟩, HR0, HG5⟩
  case round =>
  obtain ⟨w6, rfl⟩ : ∃ w6, w6 = wr := ⟨_, rfl⟩
  obtain ⟨left, cn, R, rfl, HL, HR, HG6⟩ := hrel
  clear HR0 HG5 HL0
  have hrg := HR.out
  have HUR := HL.out.1
  go_wp2_with (first
    | (at_next; refine wpList_next_ranges_ii _ rfl _ rfl 3 32 .i64 .u64 lawM Try.underlying3 Try.underlying32 b q N _ _ _ rfl hrg ?_ ?_)
    | fail)
  · intro hc0 hl0
    have HO := Lib.hid (HL.out.2.done hl0)
    clear hl0 hc0 hrg HR
    go_wp2_with fail
    go_ret
    exact ⟨R, rfl, by rw [HF.out]; exact HO.out, HG6.out⟩
  · intro x d w7 cnt1 hwx hwc hlx hat hrg1 hlt1 hg1 hs1 hen
    obtain rfl : d = (((f x).getD 0 : Nat) : Int) := by
      have h3 := HMF.out.at_ x
      unfold kM at h3
      rw [hat] at h3
      injection h3 with h3
      injection h3 with _ h3
    have HU := HOK.out.getD x
    have HS := Lib.hid (And.intro (Nat.or_lt_two_pow (n := 64) HUR HU) (HL.out.2.step x))
    have HG7 := Lib.hid (grown_new HG6.out hg1 HW0.out)
    have hmeas : w7.rangeLeft b q < w6.rangeLeft b q := by rw [hrg1.left_eq, hrg.left_eq]; exact hlt1
    have HR7 := Lib.hid hrg1
    have HOR := Lib.hid (orU R ((f x).getD 0) HUR HU)
    clear hat hg1 hs1 hlx hrg hrg1 HR
    go_wp2_with fail
    exact ⟨⟨_, _, R ||| (f x).getD 0, congrArg _ HOR.out, HS, HR7, HG7⟩, hmeas⟩
set_option maxRecDepth 100000 in
theorem RcO_list {f : Int → Option Nat} {ts : List Int} (h : AscM f ts) : ∀ k R, (∀ j, R.testBit j = true ↔ ∃ u ∈ ts.take k, ((f u).getD 0).testBit j = true) → k = ts.length → RcO f R := by
  rintro k R hr rfl j
  rw [hr j, List.take_length]
  constructor
  · rintro ⟨u, -, h2⟩; exact ⟨u, h2⟩
  · rintro ⟨u, h2⟩
    refine ⟨u, (h.mem u).2 ?_, h2⟩
    cases hf : f u with
    | none => rw [hf] at h2; simp at h2
    | some d => rfl
set_option maxRecDepth 100000 in
set_option maxHeartbeats 6400000 in
theorem rreach_any (r s n : Int) (p : Option Addr) (c : Nat) (L : List Rw) (set : Int) (w : World) (hR : RdW w (· < w.heap.size) p c L) (hm : L.length ≤ 9223372036854775807) :
    Calls Try.prog 21 #[.agg #[.int .i64 r, .int .i64 s, .int .i64 n, .slice p L.length c], .int .i64 set] w fun e w' => ∃ R : Nat, e = .returned (.int .u64 (R : Int)) ∧ RcO (coF r s n L 0 set) R ∧ w.grownBy w' none := by
  have H0 := Lib.hid (bx_start (r := r) (s := s) (n := n) hR)
  clear hR
  go_enter Try.func21, Try.ntmps21
  go_upto_region 1 with fail
  generalize w.alloc _ = w1 at *
  obtain ⟨d0, d1, d2, d3⟩ := row4T H0.out.bx
  go_wp2_with fail
  refine (rall12_any r s n p c L 0 set w1 H0.out.rd hm).mono ?_
  rintro e w4 ⟨ts, po, co, rfl, hA, hown, hg⟩
  obtain ⟨f, hf⟩ : ∃ f, coF r s n L 0 set = f := ⟨_, rfl⟩
  have HF := Lib.hid hf
  have HOK : Hid (ColOk f) := Lib.hid (by rw [← hf]; exact coF_ok r s n L 0 set)
  rw [hf] at hA hown
  (try rw [hf])
  have hlen := ascM_len hA HOK.out
  have HA := Lib.hid hA
  have HR := Lib.hid (rdf_of_own hown)
  have HG := Lib.hid (grown_trans H0.out.gr hg)
  have HML : Hid ((mdL f ts).length = ts.length) := Lib.hid (mdL_len f ts)
  have hln : (mdL f ts).length ≤ 99 := by rw [HML.out]; exact hlen
  clear hf hA hown hg H0 d0 d1 d2 d3
  obtain ⟨M, hM⟩ : ∃ M, mdL f ts = M := ⟨_, rfl⟩
  have HM := Lib.hid hM
  rw [hM] at HR HML hln ⊢
  clear hM
  go_wp2_with fail
  go_loopw [6, 7] (fun o a wr => ∃ (k R : Nat), k ≤ M.length ∧ a = .int .i64 (k : Int) ∧ o = .int .u64 (R : Int) ∧ Hid (U64 R ∧ ∀ j, R.testBit j = true ↔ ∃ u ∈ ts.take k, ((f u).getD 0).testBit j = true) ∧ Hid (w4.grownBy wr none)) (fun _ a _ => M.length - (RowKit.intOf a).toNat)
  case atStart => exact ⟨0, 0, Nat.zero_le _, rfl, rfl, Lib.hid ⟨u64_mk (by decide), fun j => by simp⟩, Lib.hid (grown_refl _ _)⟩
  case round =>
  obtain ⟨k, R, hk, rfl, rfl, HB, G⟩ := hrel
  obtain ⟨w6, rfl⟩ : ∃ w6, w6 = wr := ⟨_, rfl⟩
  have HUR := HB.out.1
  by_cases hlt : k < M.length
  case neg =>
    obtain rfl : k = M.length := by omega
    have hnl : ¬ (M.length : Int) < (M.length : Int) := by omega
    have HO := Lib.hid (RcO_list HA.out _ R HB.out.2 HML.out)
    go_wp2_with fail
    go_ret
    exact ⟨R, rfl, by rw [HF.out]; exact HO.out, grown_trans HG.out G.out⟩
  have hlt' : (k : Int) < (M.length : Int) := by omega
  obtain ⟨u, hu⟩ : ∃ u, ts[k]? = some u := ⟨_, List.getElem?_eq_getElem (by rw [← HML.out]; exact hlt)⟩
  have hmk : M[k]? = some ⟨u, (f u).getD 0⟩ := by rw [← HM.out]; unfold mdL; rw [List.getElem?_map, hu]; rfl
  obtain ⟨-, b, off, rfl, -, hc⟩ := RdF.cells (f := mdC) (k := 2) (fun _ => rfl) (by decide) HR.out (by omega)
  have a1 := G.out.cell (hc k _ hmk 1 _ rfl) (by simp)
  have HU := HOK.out.getD u
  have HOR := Lib.hid (orU R ((f u).getD 0) HUR HU)
  have HB2 : Hid (U64 (R ||| (f u).getD 0) ∧ ∀ j, (R ||| (f u).getD 0).testBit j = true ↔ ∃ y ∈ ts.take (k + 1), ((f y).getD 0).testBit j = true) := Lib.hid ⟨Nat.or_lt_two_pow (n := 64) HUR HU, fun j => by
    rw [Nat.testBit_or, Bool.or_eq_true, HB.out.2 j, List.take_add_one, hu]
    simp only [Option.toList_some, List.mem_append, List.mem_singleton]
    constructor
    · rintro (⟨y, h1, h2⟩ | h2)
      · exact ⟨y, Or.inl h1, h2⟩
      · exact ⟨u, Or.inr rfl, h2⟩
    · rintro ⟨y, h1 | rfl, h2⟩
      · exact Or.inl ⟨y, h1, h2⟩
      · exact Or.inr h2⟩
  clear hc hu hmk HB
  go_wp2_with fail
  exact ⟨⟨k + 1, R ||| (f u).getD 0, by omega, congrArg _ (by omega), congrArg _ HOR.out, HB2, G⟩, by simp only [RowKit.intOf]; omega⟩
end Go.Proofs.Ytdkbdghkboeggaa

/- masks: Mask, Local. -/
namespace Go.Proofs.Ytdkbdghkboeggaa
open Go.RowKit Go.Maps Bs
set_option maxRecDepth 100000 in
set_option maxHeartbeats 1600000 in
theorem mmask_any (r s n : Int) (p : Option Addr) (c : Nat) (L : List Rw) (pl set u : Int) (hu : I64 u) (w : World) (hR : RdW w (· < w.heap.size) p c L) (hm : L.length ≤ 9223372036854775807) :
    Calls Try.prog 14 #[.agg #[.int .i64 r, .int .i64 s, .int .i64 n, .slice p L.length c], .int .i64 pl, .int .i64 set, .int .i64 u] w fun e w' => e = .returned (.int .u64 (((coF r s n L pl set u).getD 0 : Nat) : Int)) ∧ w.grownBy w' none := by
  obtain ⟨k1, k2⟩ := tone_box w #[.int .i64 r, .int .i64 s, .int .i64 n, .slice p L.length c] 24
  have H0 := Lib.hid (And.intro k1 (And.intro k2 (And.intro ((hR.keep k2).mono (q' := (· < (w.alloc (.cells #[.int .i64 r, .int .i64 s, .int .i64 n, .slice p L.length c] 24)).heap.size)) (fun b (hb : b < w.heap.size) => by show b < _; simp; omega)) (show w.heap.size < (w.alloc (.cells #[.int .i64 r, .int .i64 s, .int .i64 n, .slice p L.length c] 24)).heap.size by simp))))
  clear k1 k2 hR
  go_enter Try.func14, Try.ntmps14
  go_upto_region 1 with fail
  generalize w.alloc _ = w1 at *
  obtain ⟨d0, d1, d2, d3⟩ := row4T H0.out.1
  go_wp2_with fail
  refine (mcollect_any r s n p c L pl set w1 H0.out.2.2.1 hm).mono ?_
  rintro e w2 ⟨rfl, ⟨N, hN, hmp⟩, hg⟩
  have q1 := (hmp.look (x := u) hu).1
  have HG := Lib.hid (grown_trans H0.out.2.1 hg)
  clear hg H0 d0 d1 d2 d3
  go_wp2_with fail
  go_ret
  exact ⟨rfl, HG.out⟩
set_option maxRecDepth 100000 in
set_option maxHeartbeats 1600000 in
theorem mlocal_any (r s n : Int) (hr : I64 r) (p : Option Addr) (c : Nat) (L : List Rw) (set : Int) (w : World) (hR : RdW w (· < w.heap.size) p c L) (hm : L.length ≤ 9223372036854775807) :
    Calls Try.prog 18 #[.agg #[.int .i64 r, .int .i64 s, .int .i64 n, .slice p L.length c], .int .i64 set] w fun e w' => e = .returned (.int .u64 (((coF r s n L 0 set r).getD 0 : Nat) : Int)) ∧ w.grownBy w' none := by
  obtain ⟨k1, k2⟩ := tone_box w #[.int .i64 r, .int .i64 s, .int .i64 n, .slice p L.length c] 24
  have H0 := Lib.hid (And.intro k1 (And.intro k2 ((hR.keep k2).mono (q' := (· < (w.alloc (.cells #[.int .i64 r, .int .i64 s, .int .i64 n, .slice p L.length c] 24)).heap.size)) (fun b (hb : b < w.heap.size) => by show b < _; simp; omega))))
  clear k1 k2 hR
  go_enter Try.func18, Try.ntmps18
  go_upto_region 1 with fail
  generalize w.alloc _ = wa at *
  obtain ⟨d0, d1, d2, d3⟩ := row4T H0.out.1
  go_wp2_with fail
  refine (mmask_any r s n p c L 0 set r hr wa H0.out.2.2 hm).mono ?_
  rintro e w1 ⟨rfl, hg⟩
  have G := Lib.hid (grown_trans H0.out.2.1 hg)
  clear hg H0 d0 d1 d2 d3
  go_wp2_with fail
  go_ret
  exact ⟨rfl, G.out⟩
end Go.Proofs.Ytdkbdghkboeggaa

/- slices.BinarySearchFunc, for routers and for links. -/
namespace Go.Proofs.Ytdkbdghkboeggaa
open Go.RowKit Bs
end Go.Proofs.Ytdkbdghkboeggaa

/- Links in order, and the tape's topologies: the mathematics. -/
namespace Go.Proofs.Ytdkbdghkboeggaa
open Go.RowKit Bs
end Go.Proofs.Ytdkbdghkboeggaa

/- What is left of a valid topology is valid. -/
namespace Go.Proofs.Ytdkbdghkboeggaa
open Go.RowKit Bs
end Go.Proofs.Ytdkbdghkboeggaa

/- What is looked up in a valid topology: the mathematics. -/
namespace Go.Proofs.Ytdkbdghkboeggaa
open Go.RowKit Bs
end Go.Proofs.Ytdkbdghkboeggaa

/- topology: routerAt, linkAt, Has, Capable, Cost, Neighbours. -/
namespace Go.Proofs.Ytdkbdghkboeggaa
open Go.RowKit Bs
end Go.Proofs.Ytdkbdghkboeggaa

/- slices.Clone of links and of routers; linkOf; what Apply makes (the values). -/
namespace Go.Proofs.Ytdkbdghkboeggaa
open Go.RowKit Bs
end Go.Proofs.Ytdkbdghkboeggaa

/- tables: Row; masks: Next. -/
namespace Go.Proofs.Ytdkbdghkboeggaa
open Go.RowKit Go.Maps Bs
def ivF (x : Int) : List Value := [tv x]
set_option maxRecDepth 100000 in
theorem ivF_one (x : Int) : ∀ u ∈ ivF x, u.oneCell' = true := by
  intro u hu
  simp [ivF, tv] at hu
  subst hu; rfl
set_option maxRecDepth 100000 in
theorem flat_ivF : ∀ X : List Int, X.flatMap ivF = X.map tv
  | [] => rfl
  | a :: t => by rw [List.flatMap_cons, flat_ivF t]; rfl
set_option maxRecDepth 100000 in
theorem rdf_ints {w : World} {q : Nat → Prop} {v : Value} {X : List Int} (h : Rd w q v (X.map tv)) : RdF w q v X.length (X.flatMap ivF) := by
  obtain ⟨p, c, h1, h2⟩ := h
  rw [List.length_map] at h1
  exact ⟨p, c, h1, fun hne => by
    rw [flat_ivF] at hne ⊢
    exact h2 hne⟩
set_option maxRecDepth 100000 in
set_option maxHeartbeats 1600000 in
theorem tcloneI_any (X : List Int) (p : Option Addr) (c : Nat) (q : Nat → Prop) (w : World) (hR : Rd w q (.slice p X.length c) (X.map tv)) (hn : p = none → c = 0) (hc : X.length ≤ c ∧ c ≤ 9223372036854775807) (hm : X.length ≤ 1000) :
    Calls Try.prog 77 #[.slice p X.length c] w fun e w' => ∃ v, e = .returned v ∧ w'.ownsRow w.heap.size 3 1 v X.length (X.map tv) ∧ w.grownBy w' none := by
  obtain ⟨ii, hii, hi0, hi1, hi2⟩ := info_parts info_int
  rw [← flat_ivF]
  have hRF := rdf_ints hR
  cases p with
  | none =>
    obtain rfl := hn rfl
    have h0 : X.length = 0 := by omega
    obtain rfl := List.eq_nil_of_length_eq_zero h0
    clear hR hRF
    have heq : ∀ w : World, (binOp .eql 26 (.slice none 0 0) (.slice none 0 0)).run Try.prog w = .ok (.bool true) w := fun w => Lib.run_eql_slice_nil w _ _ none 0 0 0 0 Try.underlying26
    go_enter Try.func77, Try.ntmps77
    go_wp2_with fail
    go_ret
    exact ⟨_, rfl, World.ownsRow_nil _ _ _ _, grown_refl _ _⟩
  | some ad =>
    have k0 := World.grownBy_alloc w (.cells #[] 3) none
    have hlit : (w.alloc (.cells #[] 3)).ownsRow w.heap.size 3 1 (.slice (some ⟨w.heap.size, 0, none⟩) 0 0) 0 (([] : List Int).flatMap ivF) := World.ownsRow_lit w #[] 0 (Nat.le_refl _) (by decide) rfl
    have HL := Lib.hid (And.intro hlit (And.intro k0 (hRF.keep k0)))
    clear hlit k0 hR hRF
    have heq : ∀ w : World, (binOp .eql 26 (.slice (some ad) X.length c) (.slice none 0 0)).run Try.prog w = .ok (.bool false) w := fun w => Lib.run_eql_slice_nil w _ _ (some ad) X.length c 0 0 Try.underlying26
    go_enter Try.func77, Try.ntmps77
    go_wp2_with (at_builtin; refine hold_on ?_)
    refine Lib.hid ?_
    refine wpList_append_f ivF 1 8 (by decide) (fun _ => rfl) ivF_one 3 26 ii _ Try.underlying26 hii hi0 hi1 hi2 rfl (by decide) rfl _ _ rfl w.heap.size _ [] 0 rfl rfl HL.out.1 _ _ _ X rfl rfl (fun h => by cases h) q HL.out.2.2 hc.1 (by omega) (by simp) ?_
    intro v' w1 hown hg
    rw [List.nil_append] at hown
    have HO := Lib.hid (And.intro hown (old_grow HL.out.2.1 HL.out.1 (Nat.le_refl _) hg))
    clear hown hg
    go_wp2_with fail
    go_ret
    exact ⟨v', rfl, HO.out.1, HO.out.2⟩
set_option maxRecDepth 100000 in
theorem lt_rowN {w : World} {b : Nat} {o : Obj} (h : w.heap[b]? = some o) : b < w.heap.size := by
  rcases Nat.lt_or_ge b w.heap.size with hz | hz
  · exact hz
  · rw [Array.getElem?_eq_none hz] at h; cases h
/-- The two boxes of copied. -/
structure CB (W : World) (x : Rw) (w : World) : Prop where
  bx : w.heap[W.heap.size]? = some (.cells (rwC x).toArray 28 (0, 0))
  z : w.heap[W.heap.size + 1]? = some (.cells #[.int .i64 0, .slice none 0 0] 28 (0, 0))
  rd : RwOk w (· < W.heap.size) x
  gr : W.grownBy w none
set_option maxRecDepth 100000 in
theorem CB.keep {W w w1 : World} {x : Rw} (h : CB W x w) (g : w.grownBy w1 none) : CB W x w1 := ⟨kept_row h.bx g (by simp), kept_row h.z g (by simp), h.rd.keep g, grown_trans h.gr g⟩
set_option maxRecDepth 100000 in
theorem res_row1 {fn : Func} {p : Tmp} (h : fn.results = #[.cell p 28]) (tmps : Array Value) (w : World) (g : Nat) (x y : Value) (hp : tmps.getD p undef = .pointer (some ⟨g, 0, none⟩)) (hg : w.heap[g]? = some (.cells #[x, y] 28 (0, 0))) :
    (results fn tmps).run Try.prog w = .ok (.agg #[x, y]) w :=
  results_cell_row h tmps w g _ _ _ _ hp hg Try.underlying28 rfl row_size
set_option maxRecDepth 100000 in
set_option maxHeartbeats 3200000 in
theorem tcopied_any (x : Rw) (w : World) (hx : RwOk w (· < w.heap.size) x) (hn : x.p = none → x.c = 0) (hm : x.nx.length ≤ 1000) :
    Calls Try.prog 53 #[.agg #[.int .i64 x.id, .slice x.p x.nx.length x.c]] w fun e w' => ∃ (p1 : Option Addr) (c1 : Nat), e = .returned (.agg #[.int .i64 x.id, .slice p1 x.nx.length c1]) ∧ RwOk w' (w.heap.size ≤ ·) ⟨x.id, x.nx, p1, c1⟩ ∧ w.grownBy w' none := by
  obtain ⟨k1, k2, k3, k4⟩ := two_boxes w #[.int .i64 x.id, .slice x.p x.nx.length x.c] #[.int .i64 0, .slice none 0 0] 28 28
  have H0 : Hid (CB w x _) := Lib.hid ⟨k1, k2, hx.keep k3, k3⟩
  clear k1 k2 k3 k4 hx
  go_enter Try.func53, Try.ntmps53
  go_upto_region 1 with fail
  generalize (w.alloc _).alloc _ = wa at *
  refine region_until (S := fun w' => Hid (CB w x w')) (fun j => j == 6) (by kernel_rfl) (Lib.hid (H0.out.keep (grown_drew (grown_refl _ none)))) (fun hHeld => ?_)
  refine anyU_take (i := 0) (oi := { dst := some 3, op := Op.fieldAddr 28 (Operand.tmp 1) 0, type := 0, pos := "table.go:193", after := #[], guard := none }) (v := ?_) rfl (by kernel_rfl) (by kernel_rfl) (by kernel_rfl) (by kernel_rfl) (by kernel_rfl) (fun _ _ _ h => h) (Or.inl ⟨by rfl, ?_⟩) hHeld ?_
  rotate_left 1
  · intro u hSu
    obtain ⟨b0, b1⟩ := rowR2 hSu.out.bx
    go_simp
    first | done | with_reducible rfl
  (try simp only [Act.put, List.setIfInBounds_toArray, List.set_cons_zero, List.set_cons_succ])
  refine anyU_take (i := 1) (oi := { dst := some 4, op := Op.load 3 (Operand.tmp 3), type := 3, pos := "table.go:193", after := #[{ on := 0, ground := Ground.data }], guard := none }) (v := ?_) rfl (by kernel_rfl) (by kernel_rfl) (by kernel_rfl) (by kernel_rfl) (by kernel_rfl) (fun _ _ _ h => h) (Or.inl ⟨by rfl, ?_⟩) hHeld ?_
  rotate_left 1
  · intro u hSu
    obtain ⟨b0, b1⟩ := rowR2 hSu.out.bx
    go_simp
    first | done | with_reducible rfl
  (try simp only [Act.put, List.setIfInBounds_toArray, List.set_cons_zero, List.set_cons_succ])
  refine anyU_take (i := 2) (oi := { dst := some 5, op := Op.fieldAddr 28 (Operand.tmp 1) 1, type := 0, pos := "table.go:193", after := #[], guard := none }) (v := ?_) rfl (by kernel_rfl) (by kernel_rfl) (by kernel_rfl) (by kernel_rfl) (by kernel_rfl) (fun _ _ _ h => h) (Or.inl ⟨by rfl, ?_⟩) hHeld ?_
  rotate_left 1
  · intro u hSu
    obtain ⟨b0, b1⟩ := rowR2 hSu.out.bx
    go_simp
    first | done | with_reducible rfl
  (try simp only [Act.put, List.setIfInBounds_toArray, List.set_cons_zero, List.set_cons_succ])
  refine anyU_take (i := 3) (oi := { dst := some 6, op := Op.load 26 (Operand.tmp 5), type := 26, pos := "table.go:193", after := #[{ on := 2, ground := Ground.data }], guard := none }) (v := ?_) rfl (by kernel_rfl) (by kernel_rfl) (by kernel_rfl) (by kernel_rfl) (by kernel_rfl) (fun _ _ _ h => h) (Or.inl ⟨by rfl, ?_⟩) hHeld ?_
  rotate_left 1
  · intro u hSu
    obtain ⟨b0, b1⟩ := rowR2 hSu.out.bx
    go_simp
    first | done | with_reducible rfl
  (try simp only [Act.put, List.setIfInBounds_toArray, List.set_cons_zero, List.set_cons_succ])
  refine anyU_ready (rs := [4]) (by kernel_rfl) (by simp) ?_
  refine EachU.cons (o := { dst := some 7, op := Op.call { callee := Callee.value (Operand.func 77), args := #[Operand.tmp 6], argTypes := #[26] }, type := 26, pos := "table.go:193", after := #[{ on := 3, ground := Ground.data }], guard := none }) rfl (fun Kz hK => ?_) EachU.nil
  go_simp
  go_at_call 77
  refine (tcloneI_any x.nx x.p x.c _ _ hHeld.out.rd.rd hn hHeld.out.rd.hc hm).mono ?_
  rintro e w2 ⟨v, rfl, ho, hg⟩
  obtain ⟨p1, c1, rfl, hc1, hc2⟩ := own_shape ho
  have HO := Lib.hid (And.intro (rd_of_own ho) (And.intro hc1 hc2))
  have HWS := Lib.hid (lt_rowN hHeld.out.z)
  have HN := Lib.hid (hHeld.out.keep hg)
  clear ho hg hc1 hc2
  refine hK.out _ _ (fun _ => HN) (fun hH2 => ?_)
  clear hK Kz hHeld
  have hHeld := hH2 rfl
  clear hH2
  (try simp only [Act.put, List.setIfInBounds_toArray, List.set_cons_zero, List.set_cons_succ])
  refine anyU_take (i := 5) (oi := { dst := some 8, op := Op.build 28 #[(0, Operand.tmp 4), (1, Operand.tmp 7)], type := 28, pos := "table.go:193", after := #[{ on := 1, ground := Ground.data }, { on := 4, ground := Ground.data }], guard := none }) (v := ?_) rfl (by kernel_rfl) (by kernel_rfl) (by kernel_rfl) (by kernel_rfl) (by kernel_rfl) (fun _ _ _ h => h) (Or.inl ⟨by rfl, ?_⟩) hHeld ?_
  rotate_left 1
  · intro u hSu
    obtain ⟨b0, b1⟩ := rowR2 hSu.out.bx
    go_simp
    first | done | with_reducible rfl
  (try simp only [Act.put, List.setIfInBounds_toArray, List.set_cons_zero, List.set_cons_succ])
  refine anyU_ready (rs := [6]) (by kernel_rfl) (by simp) ?_
  refine EachU.cons (o := { dst := none, op := Op.store 28 (Operand.tmp 2) (Operand.tmp 8), type := 0, pos := "table.go:193", after := #[{ on := 5, ground := Ground.data }, { on := 4, ground := Ground.chain }, { on := 0, ground := Ground.phase }, { on := 1, ground := Ground.phase }, { on := 2, ground := Ground.phase }, { on := 3, ground := Ground.phase }, { on := 4, ground := Ground.phase }, { on := 5, ground := Ground.phase }], guard := none }) rfl (fun Kz hK => ?_) EachU.nil
  have H9 := hHeld
  obtain ⟨z0, z1⟩ := rowR2 hHeld.out.z
  have f0 := frozen_of_row _ _ 0 _ _ hHeld.out.z
  have f1 := frozen_of_row _ _ 1 _ _ hHeld.out.z
  go_simp
  refine hK.out _ _ (fun h => by cases h) (fun _ => ?_)
  clear hK Kz
  (try simp only [Act.put, List.setIfInBounds_toArray, List.set_cons_zero, List.set_cons_succ])
  refine anyU_done (by kernel_rfl) ?_ _
  obtain ⟨t1, t2⟩ := storeR (.int .i64 x.id) (.slice p1 x.nx.length c1) H9.out.z
  have HT := Lib.hid (And.intro t1 (And.intro (grown_new H9.out.gr t2 (by omega)) (HO.out.1.grown t2 (fun b hb e => by have := Option.some.inj e; have := HWS.out; omega))))
  clear t1 t2 H9 z0 z1 f0 f1
  go_wp2_with fail
  refine bodyPost_ret (res_row1 rfl _ _ (w.heap.size + 1) _ _ rfl HT.out.1) rfl ?_
  exact ⟨p1, c1, rfl, ⟨HT.out.2.2.mono (fun b hb => by have := HWS.out; omega), HO.out.2.1, HO.out.2.2⟩, HT.out.2.1⟩
set_option maxRecDepth 100000 in
set_option maxHeartbeats 1600000 in
theorem tidxW2_any (g : Nat) (lb : Array Value) (P : Rw → Bool) (eg : EnterF g) (R : List Rw) (p : Option Addr) (c : Nat) (q : Nat → Prop) (w : World) (hR : RdF w q (.slice p R.length c) R.length (R.flatMap rwC)) (hm : R.length ≤ 9223372036854775807)
    (hP : ∀ (r : Rw) (w' : World), r ∈ R → w.grownBy w' none → Calls Try.prog g (#[.agg #[.int .i64 r.id, .slice r.p r.nx.length r.c]] ++ lb) w' fun e w2 => e = .returned (.bool (P r)) ∧ w'.grownBy w2 none) :
    Calls Try.prog 51 #[.slice p R.length c, .func (.func g) #[] lb] w fun e w' => ∃ i : Int, e = .returned (.int .i64 i) ∧ ((i = -1 ∧ (R.take R.length).any P = false) ∨ ∃ (k : Nat) (x : Rw), i = (k : Int) ∧ R[k]? = some x ∧ P x = true ∧ (R.take k).any P = false) ∧ w.grownBy w' none := by
  have HR := Lib.hid hR
  have HP := Lib.hid hP
  clear hR hP
  go_enter Try.func51, Try.ntmps51
  go_wp2_with fail
  go_loopw [8] (fun a wr => ∃ k : Nat, k ≤ R.length ∧ a = .int .i64 (k : Int) ∧ Hid (w.grownBy wr none) ∧ Hid ((R.take k).any P = false)) (fun a _ => R.length - (RowKit.intOf a).toNat)
  case atStart => exact ⟨0, Nat.zero_le _, rfl, Lib.hid (grown_refl _ _), Lib.hid (by simp)⟩
  case round =>
    obtain ⟨k, hk, rfl, G, HN⟩ := hrel
    by_cases hlt : k < R.length
    · obtain ⟨x, hx⟩ : ∃ x, R[k]? = some x := ⟨_, List.getElem?_eq_getElem hlt⟩
      obtain ⟨-, b, off, rfl, hq, hc⟩ := rw_cells (HR.out.keep G.out) (by omega)
      obtain ⟨a0, a1⟩ := hc k x hx
      have HX := Lib.hid hx
      clear hc hx
      have hcall := HP.out x wr (List.mem_of_getElem? HX.out) G.out
      cases hp : P x
      · rw [hp] at hcall
        have HY := Lib.hid hp
        clear hp
        go_wp2_with (go_at_fn g; refine hcall.mono ?_; rintro e w' ⟨rfl, hg⟩; have HG := Lib.hid (grown_trans G.out hg); clear hg)
        exact ⟨⟨k + 1, by omega, congrArg _ (by omega), HG, Lib.hid (any_take HN.out HX.out HY.out)⟩, by simp only [RowKit.intOf]; omega⟩
      · rw [hp] at hcall
        have HY := Lib.hid hp
        clear hp
        go_wp2_with (go_at_fn g; refine hcall.mono ?_; rintro e w' ⟨rfl, hg⟩; have HG := Lib.hid (grown_trans G.out hg); clear hg)
        go_ret
        exact ⟨_, rfl, Or.inr ⟨k, x, rfl, HX.out, HY.out, HN.out⟩, HG.out⟩
    · obtain rfl : k = R.length := by omega
      go_wp2_with fail
      go_ret
      exact ⟨_, rfl, Or.inl ⟨rfl, HN.out⟩, G.out⟩
set_option maxRecDepth 100000 in
theorem trow1_any (x : Rw) (g : Nat) (id : Int) (w : World) (hg : w.cell? ⟨g, 0, none⟩ = some (.int .i64 id)) :
    Calls Try.prog 52 #[.agg #[.int .i64 x.id, .slice x.p x.nx.length x.c], .pointer (some ⟨g, 0, none⟩)] w fun e w' => e = .returned (.bool (isW id x)) ∧ w.grownBy w' none := by
  obtain ⟨k1, k2⟩ := tone_box w #[.int .i64 x.id, .slice x.p x.nx.length x.c] 28
  have HB := Lib.hid (And.intro k1 k2)
  have hg2 := k2.cell hg (by simp)
  have HI : Hid (isW id x = decide (x.id = id)) := Lib.hid rfl
  clear k1 k2 hg
  go_enter Try.func52, Try.ntmps52
  go_upto_region 1 with fail
  generalize w.alloc _ = w1 at *
  obtain ⟨c0, c1⟩ := rowR2 HB.out.1
  by_cases e : x.id = id
  · have e' : (x.id == id) = true := by simpa using e
    have HE : Hid (isW id x = true) := Lib.hid (by rw [HI.out]; exact decide_eq_true e)
    clear e
    go_wp2_with fail
    go_ret
    exact ⟨by rw [HE.out]; rfl, HB.out.2⟩
  · have e' : (x.id == id) = false := by simpa using e
    have HE : Hid (isW id x = false) := Lib.hid (by rw [HI.out]; exact decide_eq_false e)
    clear e
    go_wp2_with fail
    go_ret
    exact ⟨by rw [HE.out]; rfl, HB.out.2⟩
set_option maxRecDepth 100000 in
theorem fw_none {L : List Rw} {id : Int} (h : (L.take L.length).any (isW id) = false) : fdW L id = none := by
  rw [List.take_length] at h
  unfold fdW
  rw [List.find?_eq_none]
  intro x hx hw
  have := List.any_eq_false.1 h x hx
  exact this hw
set_option maxRecDepth 100000 in
theorem fw_some {L : List Rw} {id : Int} {k : Nat} {x : Rw} (h : (L.take k).any (isW id) = false) (hx : L[k]? = some x) (hp : isW id x = true) : fdW L id = some x := by
  refine fw_hit (k := k) ?_ hx (of_decide_eq_true hp)
  rw [List.find?_eq_none]
  intro y hy hw
  exact List.any_eq_false.1 h y hy hw
/-- The boxes of Row. -/
structure TRW (W : World) (r s n : Int) (p : Option Addr) (c : Nat) (L : List Rw) (id : Int) (w : World) : Prop where
  bx : w.heap[W.heap.size]? = some (.cells #[.int .i64 r, .int .i64 s, .int .i64 n, .slice p L.length c] 24 (0, 0))
  ib : w.cell? ⟨W.heap.size + 1, 0, none⟩ = some (.int .i64 id)
  z : w.heap[W.heap.size + 2]? = some (.cells #[.int .i64 0, .slice none 0 0] 28 (0, 0))
  rd : RdW w (· < W.heap.size) p c L
  gr : W.grownBy w none
set_option maxRecDepth 100000 in
theorem TRW.keep {W w w1 : World} {r s n : Int} {p : Option Addr} {c : Nat} {L : List Rw} {id : Int} (h : TRW W r s n p c L id w) (g : w.grownBy w1 none) : TRW W r s n p c L id w1 :=
  ⟨kept_row h.bx g (by simp), g.cell h.ib (by simp), kept_row h.z g (by simp), h.rd.keep g, grown_trans h.gr g⟩
set_option maxRecDepth 100000 in
theorem trw_start {w : World} {r s n : Int} {p : Option Addr} {c : Nat} {L : List Rw} (id : Int) (hR : RdW w (· < w.heap.size) p c L) : TRW w r s n p c L id (((w.alloc (.cells #[.int .i64 r, .int .i64 s, .int .i64 n, .slice p L.length c] 24)).alloc (.cells #[.int .i64 id] 3)).alloc (.cells #[.int .i64 0, .slice none 0 0] 28)) := by
  obtain ⟨k1, k2, k3, k4⟩ := two_boxes w #[.int .i64 r, .int .i64 s, .int .i64 n, .slice p L.length c] #[.int .i64 id] 24 3
  obtain ⟨w2, hw2⟩ : ∃ w2, (w.alloc (.cells #[.int .i64 r, .int .i64 s, .int .i64 n, .slice p L.length c] 24)).alloc (.cells #[.int .i64 id] 3) = w2 := ⟨_, rfl⟩
  rw [hw2] at k1 k2 k3 k4 ⊢
  obtain ⟨m1, m2⟩ := tone_box w2 #[.int .i64 0, .slice none 0 0] 28
  rw [k4] at m1
  exact ⟨kept_row k1 m2 (by simp), m2.cell (cell_of_row _ _ 0 _ _ _ k2) (by simp), m1, (hR.keep k3).keep m2, grown_trans k3 m2⟩
set_option maxRecDepth 100000 in
set_option maxHeartbeats 3200000 in
theorem trow_any (r s n : Int) (p : Option Addr) (c : Nat) (L : List Rw) (id : Int) (w : World) (hR : RdW w (· < w.heap.size) p c L) (hm : L.length ≤ 9223372036854775807) (hN : ∀ x ∈ L, x.p = none → x.c = 0) (hl : ∀ x ∈ L, x.nx.length ≤ 1000) :
    Calls Try.prog 31 #[.agg #[.int .i64 r, .int .i64 s, .int .i64 n, .slice p L.length c], .int .i64 id] w fun e w' => ∃ (p1 : Option Addr) (c1 : Nat), e = .returned (.tuple #[.agg #[.int .i64 ((fdW L id).getD zRw).id, .slice p1 ((fdW L id).getD zRw).nx.length c1], .bool (fdW L id).isSome]) ∧ RwOk w' (w.heap.size ≤ ·) ⟨((fdW L id).getD zRw).id, ((fdW L id).getD zRw).nx, p1, c1⟩ ∧ w.grownBy w' none := by
  have e1 : EnterF 52 := enters_of Try.func52 (by kernel_rfl) rfl
  have H0 := Lib.hid (trw_start (r := r) (s := s) (n := n) id hR)
  have HNL := Lib.hid (And.intro hN hl)
  have EG := Lib.hid e1
  clear hR hN hl e1
  go_enter Try.func31, Try.ntmps31
  go_upto_region 1 with fail
  generalize ((w.alloc _).alloc _).alloc _ = wa at *
  obtain ⟨d0, d1, d2, d3⟩ := row4T H0.out.bx
  go_wp2_with fail
  refine (tidxW2_any 52 #[.pointer (some ⟨w.heap.size + 1, 0, none⟩)] (isW id) EG.out L p c _ wa H0.out.rd.rd hm (fun x w' hx g => trow1_any x (w.heap.size + 1) id w' (g.cell H0.out.ib (by simp)))).mono ?_
  rintro e w2 ⟨i, rfl, hi, hg⟩
  have K := Lib.hid (H0.out.keep hg)
  clear hg H0 d0 d1 d2 d3
  rcases hi with ⟨rfl, hi⟩ | ⟨k, x, rfl, hx, hp, hn⟩
  · have HF := Lib.hid (fw_none hi)
    clear hi
    obtain ⟨z0, z1⟩ := rowR2 K.out.z
    have f0 := frozen_of_row _ _ 0 _ _ K.out.z
    have f1 := frozen_of_row _ _ 1 _ _ K.out.z
    obtain ⟨t1, t2⟩ := storeR (.int .i64 0) (.slice none 0 0) K.out.z
    have HT := Lib.hid (And.intro t1 (grown_new K.out.gr t2 (by omega)))
    clear t1 t2 K
    go_wp2_with fail
    refine bodyPost_ret (res_row_b rfl _ _ (w.heap.size + 2) _ _ rfl HT.out.1) rfl ?_
    exact ⟨none, 0, by rw [HF.out]; rfl, by rw [HF.out]; exact ⟨⟨none, 0, rfl, fun h => absurd rfl h⟩, ⟨Nat.le_refl _, by show (0 : Nat) ≤ _; omega⟩⟩, HT.out.2⟩
  · have HF := Lib.hid (fw_some hn hx hp)
    have hk0 : ¬ (k : Int) < 0 := by omega
    have hk00 : (0 : Int) ≤ (k : Int) := by omega
    have hkl : k < L.length := by
      rcases Nat.lt_or_ge k L.length with h | h
      · exact h
      · rw [List.getElem?_eq_none h] at hx; cases hx
    have hkl' : (k : Int) < (L.length : Int) := by omega
    obtain ⟨-, b, off, rfl, -, hc⟩ := rw_cells K.out.rd.rd (by omega)
    obtain ⟨a0, a1⟩ := hc k x hx
    have HX := Lib.hid (List.mem_of_getElem? hx)
    obtain ⟨d0, d1, d2, d3⟩ := row4T K.out.bx
    clear hc hx hn hp
    go_wp2_with fail
    refine (tcopied_any x w2 ((K.out.rd.ok x HX.out).mono (fun b (hb : b < w.heap.size) => Nat.lt_of_lt_of_le hb K.out.gr.size)) (HNL.out.1 x HX.out) (HNL.out.2 x HX.out)).mono ?_
    rintro e w3 ⟨p1, c1, rfl, hok, hg⟩
    have K2 := Lib.hid (K.out.keep hg)
    have HO := Lib.hid hok
    have HW2 := Lib.hid (lt_rowN K.out.z)
    clear hg hok K d0 d1 d2 d3 a0 a1
    obtain ⟨z0, z1⟩ := rowR2 K2.out.z
    have f0 := frozen_of_row _ _ 0 _ _ K2.out.z
    have f1 := frozen_of_row _ _ 1 _ _ K2.out.z
    obtain ⟨t1, t2⟩ := storeR (.int .i64 x.id) (.slice p1 x.nx.length c1) K2.out.z
    have HT := Lib.hid (And.intro t1 (And.intro (grown_new K2.out.gr t2 (by omega)) (HO.out.grown t2 (fun b hb e => by have := Option.some.inj e; have := HW2.out; omega))))
    clear t1 t2 K2 HO
    go_wp2_with fail
    refine bodyPost_ret (res_row_b rfl _ _ (w.heap.size + 2) _ _ rfl HT.out.1) rfl ?_
    exact ⟨p1, c1, by rw [HF.out]; rfl, by rw [HF.out]; exact HT.out.2.2.mono (fun b hb => by have := HW2.out; omega), HT.out.2.1⟩
set_option maxRecDepth 100000 in
set_option maxHeartbeats 3200000 in
theorem mnxt_any (r s n : Int) (p : Option Addr) (c : Nat) (L : List Rw) (id pl : Int) (w : World) (hR : RdW w (· < w.heap.size) p c L) (hm : L.length ≤ 9223372036854775807) (hN : ∀ x ∈ L, x.p = none → x.c = 0) :
    Calls Try.prog 12 #[.agg #[.int .i64 r, .int .i64 s, .int .i64 n, .slice p L.length c], .int .i64 id, .int .i64 pl] w fun e w' => e = .returned (.int .i64 (nxO r s n L id pl)) ∧ w.grownBy w' none := by
  have H0 := Lib.hid (bx_start (r := r) (s := s) (n := n) hR)
  have HNN := Lib.hid hN
  clear hR hN
  go_enter Try.func12, Try.ntmps12
  go_upto_region 1 with fail
  generalize w.alloc _ = wa at *
  obtain ⟨d0, d1, d2, d3⟩ := row4T H0.out.bx
  go_wp2_with fail
  refine (mvalid_any r s n p c L pl _ wa H0.out.rd hm).mono ?_
  rintro e w1 ⟨rfl, hg⟩
  have K := Lib.hid (H0.out.keep hg)
  clear hg H0 d0 d1 d2 d3
  cases hv : vaT r s n L pl
  case false =>
    have HZ := Lib.hid (nxO_no (id := id) hv)
    clear hv
    go_wp2_with fail
    go_ret
    exact ⟨by rw [HZ.out]; rfl, K.out.gr⟩
  have hv2 : (0 ≤ pl ∧ pl < 8) ∧ ckT r s n L = 0 := by unfold vaT at hv; exact of_decide_eq_true hv
  obtain ⟨k, rfl⟩ := Int.eq_ofNat_of_zero_le hv2.1.1
  have hk : k < 8 := by have := hv2.1.2; omega
  have HZ := Lib.hid (nxO_yes (id := id) hv)
  have HL : Hid (∀ x ∈ L, x.nx.length ≤ 1000) := Lib.hid (fun x hx => by
    have := any_memT (ck_ok hv2.2).2.2.2.1 hx
    unfold lgW at this
    simp at this
    omega)
  clear hv hv2
  obtain ⟨d0, d1, d2, d3⟩ := row4T K.out.bx
  go_wp2_with fail
  refine (trow_any r s n p c L id w1 K.out.rd hm HNN.out HL.out).mono ?_
  rintro e w2 ⟨p1, c1, rfl, hok, hg⟩
  have HH : Hid (hopI L id k = nxI ((fdW L id).getD zRw).nx k) := Lib.hid rfl
  have G2 := Lib.hid (grown_trans K.out.gr hg)
  have HX := Lib.hid hok
  clear hg hok K d0 d1 d2 d3
  generalize (fdW L id).isSome = ob at *
  obtain ⟨X, hX⟩ : ∃ X, ((fdW L id).getD zRw).nx = X := ⟨_, rfl⟩
  obtain ⟨xi, hxi⟩ : ∃ xi, ((fdW L id).getD zRw).id = xi := ⟨_, rfl⟩
  rw [hX, hxi] at HX
  rw [hX] at HH
  rw [hX, hxi]
  clear hX hxi
  obtain ⟨k1, k2⟩ := tone_box w2 #[.int .i64 xi, .slice p1 X.length c1] 28
  have HB := Lib.hid (And.intro k1 (And.intro (grown_trans G2.out k2) (HX.out.keep k2)))
  clear k1 k2 G2 HX
  go_upto_region 4 with fail
  generalize w2.alloc _ = w3 at *
  obtain ⟨c0, c1'⟩ := rowR2 HB.out.1
  go_wp2_with fail
  refine (mnext_any ⟨xi, X, p1, c1⟩ k hk _ w3 HB.out.2.2).mono ?_
  rintro e w4 ⟨rfl, hg⟩
  have G := Lib.hid (grown_trans HB.out.2.1 hg)
  clear hg HB c0 c1'
  go_wp2_with fail
  go_ret
  exact ⟨by rw [HZ.out, HH.out]; rfl, G.out⟩
end Go.Proofs.Ytdkbdghkboeggaa

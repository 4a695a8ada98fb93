/- Parts of the proof, packed: MaRMk, MaNxt, TaCpM, TaCpy. -/
import Derived.Test.YtgofadmncgmhoaaGreatNx18
import Derived.Test.YtgofadmncgmhoaaGreatNx7
import Derived.Test.YtgofadmncgmhoaaGreatNx4
import Derived.Test.YtgofadmncgmhoaaGreatNx14
/- masks, the reference's functions: Mask, Next, Local. -/
namespace Go.Proofs.YtgofadmncgmhoaaGreat
open Go.RowKit Go.Maps Bs
/-- What Next returns. -/
def nxO (r s n : Int) (L : List Rw) (id pl : Int) : Int := if vaT r s n L pl = true then hopI L id pl.toNat else 0
set_option maxRecDepth 100000 in
theorem nxO_no {r s n : Int} {L : List Rw} {id pl : Int} (h : vaT r s n L pl = false) : nxO r s n L id pl = 0 := by unfold nxO; rw [h]; rfl
set_option maxRecDepth 100000 in
theorem nxO_yes {r s n : Int} {L : List Rw} {id : Int} {k : Nat} (h : vaT r s n L (k : Int) = true) : nxO r s n L id (k : Int) = hopI L id k := by unfold nxO; rw [if_pos h, Int.toNat_natCast]
set_option maxRecDepth 100000 in
theorem ck_len {r s n : Int} {L : List Rw} (h : ckT r s n L = 0) : 0 ≤ n ∧ n ≤ 64 := by
  have := (ck_ok h).1
  unfold hdT at this
  simp at this
  cases hv : vl n with
  | true => rcases vl_cases hv with rfl | rfl | rfl | rfl <;> omega
  | false => have := (this.2 hv).1; omega
set_option maxRecDepth 100000 in
theorem plS_in (id n : Int) : 0 ≤ plS id n ∧ plS id n ≤ 31 := by
  unfold plS
  split
  · rename_i h
    obtain ⟨hl, h1, h2⟩ := pl_fields h
    rw [Int.tdiv_eq_ediv_of_nonneg (by omega)]
    rcases hl with rfl | rfl | rfl | rfl <;> omega
  · omega
set_option maxRecDepth 100000 in
theorem coF_z1 {r s n : Int} {L : List Rw} {pl set u : Int} (h : ¬ ((0 ≤ pl ∧ pl < 8) ∧ ckT r s n L = 0)) : (coF r s n L pl set u).getD 0 = 0 := by
  unfold coF
  rw [if_neg h]; rfl
set_option maxRecDepth 100000 in
theorem coF_z2 {r s n : Int} {L : List Rw} {pl set u : Int} (h : set < 0 ∨ 31 < set) : (coF r s n L pl set u).getD 0 = 0 := by
  unfold coF
  split
  · refine Nat.eq_of_testBit_eq fun j => ?_
    rw [Nat.zero_testBit, ← Bool.not_eq_true, colL_bit]
    rintro ⟨x, -, h1, -⟩
    have := plS_in x.id n
    omega
  · rfl
set_option maxRecDepth 100000 in
theorem coF_z3 {r s n : Int} {L : List Rw} {pl set u : Int} (h : u < 1 ∨ 99 < u) : (coF r s n L pl set u).getD 0 = 0 := by
  cases hf : coF r s n L pl set u with
  | none => rfl
  | some d => have := ((coF_ok r s n L pl set).u u d hf).2; omega
set_option maxRecDepth 100000 in
theorem coF_in {r s n : Int} {L : List Rw} {k : Nat} {set u : Int} (hk : k < 8) (h : ckT r s n L = 0) : coF r s n L (k : Int) set u = colL n set k L u := by
  unfold coF
  rw [if_pos ⟨⟨by omega, by omega⟩, h⟩, Int.toNat_natCast]
set_option maxRecDepth 100000 in
set_option maxHeartbeats 3200000 in
theorem rmask_any (r s n : Int) (p : Option Addr) (c : Nat) (L : List Rw) (pl set u : Int) (w : World) (hR : RdW w (· < w.heap.size) p c L) (hm : L.length ≤ 9223372036854775807) :
    Calls Tryz.prog 49 #[.agg #[.int .i64 r, .int .i64 s, .int .i64 n, .slice p L.length c], .int .i64 pl, .int .i64 set, .int .i64 u] w fun e w' => e = .returned (.int .u64 (((coF r s n L pl set u).getD 0 : Nat) : Int)) ∧ w.grownBy w' none := by
  have H0 := Lib.hid (bx_start (r := r) (s := s) (n := n) hR)
  clear hR
  go_enter Tryz.func49, Tryz.ntmps49
  go_upto_region 1 with fail
  generalize w.alloc _ = wa at *
  obtain ⟨d0, d1, d2, d3⟩ := row4T H0.out.bx
  go_wp2_with fail
  refine (rck11_any r s n p c L wa H0.out.rd hm).mono ?_
  rintro e w1 ⟨rfl, hg⟩
  have K := Lib.hid (H0.out.keep hg)
  clear hg H0 d0 d1 d2 d3
  by_cases hck : ckT r s n L = 0
  case neg =>
    have hck' : (ckT r s n L != 0) = true := by simpa using hck
    have HZ : Hid ((coF r s n L pl set u).getD 0 = 0) := Lib.hid (coF_z1 fun h => hck h.2)
    clear hck
    go_wp2_with fail
    go_ret
    exact ⟨by rw [HZ.out]; rfl, K.out.gr⟩
  have HCK := Lib.hid hck
  have hck' : (ckT r s n L != 0) = false := by simpa using hck
  clear hck
  go_wp2_with fail
  refine (rpl12_any pl w1).mono ?_
  rintro e w' ⟨rfl, rfl⟩
  cases hp : (decide (0 ≤ pl) && decide (pl < 8))
  case false =>
    have HZ : Hid ((coF r s n L pl set u).getD 0 = 0) := Lib.hid (coF_z1 fun h => by simp [h.1.1, h.1.2] at hp)
    clear hp hck'
    go_wp2_with fail
    go_ret
    exact ⟨by rw [HZ.out]; rfl, K.out.gr⟩
  rw [Bool.and_eq_true, decide_eq_true_eq, decide_eq_true_eq] at hp
  obtain ⟨hp1, hp2⟩ := hp
  obtain ⟨k, rfl⟩ := Int.eq_ofNat_of_zero_le hp1
  have hk : k < 8 := by omega
  clear hck' hp1 hp2
  by_cases hs0 : set < 0
  case pos =>
    have HZ : Hid ((coF r s n L (k : Int) set u).getD 0 = 0) := Lib.hid (coF_z2 (Or.inl hs0))
    go_wp2_with fail
    go_ret
    exact ⟨by rw [HZ.out]; rfl, K.out.gr⟩
  by_cases hs1 : 31 < set
  case pos =>
    have HZ : Hid ((coF r s n L (k : Int) set u).getD 0 = 0) := Lib.hid (coF_z2 (Or.inr hs1))
    go_wp2_with fail
    go_ret
    exact ⟨by rw [HZ.out]; rfl, K.out.gr⟩
  by_cases hu0 : u < 1
  case pos =>
    have HZ : Hid ((coF r s n L (k : Int) set u).getD 0 = 0) := Lib.hid (coF_z3 (Or.inl hu0))
    go_wp2_with fail
    go_ret
    exact ⟨by rw [HZ.out]; rfl, K.out.gr⟩
  by_cases hu1 : 99 < u
  case pos =>
    have HZ : Hid ((coF r s n L (k : Int) set u).getD 0 = 0) := Lib.hid (coF_z3 (Or.inr hu1))
    go_wp2_with fail
    go_ret
    exact ⟨by rw [HZ.out]; rfl, K.out.gr⟩
  obtain ⟨hn0, hn1⟩ := ck_len HCK.out
  obtain ⟨N, rfl⟩ := Int.eq_ofNat_of_zero_le hn0
  have HE : Hid ((coF r s (N : Int) L (k : Int) set u).getD 0 = btA (btP L (N : Int) set u k) N) := Lib.hid (by rw [coF_in hk HCK.out]; exact (mask_eq HCK.out rfl (by omega)).symm)
  have hN : N ≤ 64 := by omega
  obtain ⟨d0, d1, d2, d3⟩ := row4T K.out.bx
  clear hn0 hn1
  go_wp2_with fail
  refine (rbits_any r s N hN p c L k hk set u w1 K.out.rd hm).mono ?_
  rintro e w2 ⟨rfl, hg⟩
  have G := Lib.hid (grown_trans K.out.gr hg)
  clear hg d0 d1 d2 d3
  go_wp2_with fail
  go_ret
  exact ⟨by rw [HE.out]; rfl, G.out⟩
set_option maxRecDepth 100000 in
set_option maxHeartbeats 3200000 in
theorem rnext12_any (r s n : Int) (p : Option Addr) (c : Nat) (L : List Rw) (id pl : Int) (w : World) (hR : RdW w (· < w.heap.size) p c L) (hm : L.length ≤ 9223372036854775807) :
    Calls Tryz.prog 47 #[.agg #[.int .i64 r, .int .i64 s, .int .i64 n, .slice p L.length c], .int .i64 id, .int .i64 pl] w fun e w' => e = .returned (.int .i64 (nxO r s n L id pl)) ∧ w.grownBy w' none := by
  have H0 := Lib.hid (bx_start (r := r) (s := s) (n := n) hR)
  clear hR
  go_enter Tryz.func47, Tryz.ntmps47
  go_upto_region 1 with fail
  generalize w.alloc _ = wa at *
  obtain ⟨d0, d1, d2, d3⟩ := row4T H0.out.bx
  go_wp2_with fail
  refine (rck11_any r s n p c L wa H0.out.rd hm).mono ?_
  rintro e w1 ⟨rfl, hg⟩
  have K := Lib.hid (H0.out.keep hg)
  clear hg H0 d0 d1 d2 d3
  by_cases hck : ckT r s n L = 0
  case neg =>
    have hck' : (ckT r s n L != 0) = true := by simpa using hck
    have HZ : Hid (nxO r s n L id pl = 0) := Lib.hid (nxO_no (by unfold vaT; exact decide_eq_false fun h => hck h.2))
    clear hck
    go_wp2_with fail
    go_ret
    exact ⟨by rw [HZ.out]; rfl, K.out.gr⟩
  have HCK := Lib.hid hck
  have hck' : (ckT r s n L != 0) = false := by simpa using hck
  clear hck
  go_wp2_with fail
  refine (rpl12_any pl w1).mono ?_
  rintro e w' ⟨rfl, rfl⟩
  cases hp : (decide (0 ≤ pl) && decide (pl < 8))
  case false =>
    have HZ : Hid (nxO r s n L id pl = 0) := Lib.hid (nxO_no (by unfold vaT; exact decide_eq_false fun h => by simp [h.1.1, h.1.2] at hp))
    clear hp hck'
    go_wp2_with fail
    go_ret
    exact ⟨by rw [HZ.out]; rfl, K.out.gr⟩
  rw [Bool.and_eq_true, decide_eq_true_eq, decide_eq_true_eq] at hp
  obtain ⟨hp1, hp2⟩ := hp
  obtain ⟨k, rfl⟩ := Int.eq_ofNat_of_zero_le hp1
  have hk : k < 8 := by omega
  have HZ : Hid (nxO r s n L id (k : Int) = hopI L id k) := Lib.hid (nxO_yes (by unfold vaT; exact decide_eq_true ⟨⟨by omega, by omega⟩, HCK.out⟩))
  clear hck' hp1 hp2
  obtain ⟨d0, d1, d2, d3⟩ := row4T K.out.bx
  go_wp2_with fail
  refine (rhop_any r s n p c L id k hk w1 K.out.rd hm).mono ?_
  rintro e w2 ⟨rfl, hg⟩
  have G := Lib.hid (grown_trans K.out.gr hg)
  clear hg d0 d1 d2 d3
  go_wp2_with fail
  go_ret
  exact ⟨by rw [HZ.out]; rfl, G.out⟩
end Go.Proofs.YtgofadmncgmhoaaGreat

/- tables: Row; masks: Next. -/
namespace Go.Proofs.YtgofadmncgmhoaaGreat
open Go.RowKit Go.Maps Bs
def ivF (x : Int) : List Value := [tv x]
set_option maxRecDepth 100000 in
theorem ivF_one (x : Int) : ∀ u ∈ ivF x, u.oneCell' = true := by
  intro u hu
  simp [ivF, tv] at hu
  subst hu; rfl
set_option maxRecDepth 100000 in
theorem flat_ivF : ∀ X : List Int, X.flatMap ivF = X.map tv
  | [] => rfl
  | a :: t => by rw [List.flatMap_cons, flat_ivF t]; rfl
set_option maxRecDepth 100000 in
theorem rdf_ints {w : World} {q : Nat → Prop} {v : Value} {X : List Int} (h : Rd w q v (X.map tv)) : RdF w q v X.length (X.flatMap ivF) := by
  obtain ⟨p, c, h1, h2⟩ := h
  rw [List.length_map] at h1
  exact ⟨p, c, h1, fun hne => by
    rw [flat_ivF] at hne ⊢
    exact h2 hne⟩
set_option maxRecDepth 100000 in
set_option maxHeartbeats 1600000 in
theorem tcloneI_any (X : List Int) (p : Option Addr) (c : Nat) (q : Nat → Prop) (w : World) (hR : Rd w q (.slice p X.length c) (X.map tv)) (hn : p = none → c = 0) (hc : X.length ≤ c ∧ c ≤ 9223372036854775807) (hm : X.length ≤ 1000) :
    Calls Tryz.prog 124 #[.slice p X.length c] w fun e w' => ∃ v, e = .returned v ∧ w'.ownsRow w.heap.size 3 1 v X.length (X.map tv) ∧ w.grownBy w' none := by
  obtain ⟨ii, hii, hi0, hi1, hi2⟩ := info_parts info_int
  rw [← flat_ivF]
  have hRF := rdf_ints hR
  cases p with
  | none =>
    obtain rfl := hn rfl
    have h0 : X.length = 0 := by omega
    obtain rfl := List.eq_nil_of_length_eq_zero h0
    clear hR hRF
    have heq : ∀ w : World, (binOp .eql 22 (.slice none 0 0) (.slice none 0 0)).run Tryz.prog w = .ok (.bool true) w := fun w => Lib.run_eql_slice_nil w _ _ none 0 0 0 0 Tryz.underlying22
    go_enter Tryz.func124, Tryz.ntmps124
    go_wp2_with fail
    go_ret
    exact ⟨_, rfl, World.ownsRow_nil _ _ _ _, grown_refl _ _⟩
  | some ad =>
    have k0 := World.grownBy_alloc w (.cells #[] 3) none
    have hlit : (w.alloc (.cells #[] 3)).ownsRow w.heap.size 3 1 (.slice (some ⟨w.heap.size, 0, none⟩) 0 0) 0 (([] : List Int).flatMap ivF) := World.ownsRow_lit w #[] 0 (Nat.le_refl _) (by decide) rfl
    have HL := Lib.hid (And.intro hlit (And.intro k0 (hRF.keep k0)))
    clear hlit k0 hR hRF
    have heq : ∀ w : World, (binOp .eql 22 (.slice (some ad) X.length c) (.slice none 0 0)).run Tryz.prog w = .ok (.bool false) w := fun w => Lib.run_eql_slice_nil w _ _ (some ad) X.length c 0 0 Tryz.underlying22
    go_enter Tryz.func124, Tryz.ntmps124
    go_wp2_with (at_builtin; refine hold_on ?_)
    refine Lib.hid ?_
    refine wpList_append_f ivF 1 8 (by decide) (fun _ => rfl) ivF_one 3 22 ii _ Tryz.underlying22 hii hi0 hi1 hi2 rfl (by decide) rfl _ _ rfl w.heap.size _ [] 0 rfl rfl HL.out.1 _ _ _ X rfl rfl (fun h => by cases h) q HL.out.2.2 hc.1 (by omega) (by simp) ?_
    intro v' w1 hown hg
    rw [List.nil_append] at hown
    have HO := Lib.hid (And.intro hown (old_grow HL.out.2.1 HL.out.1 (Nat.le_refl _) hg))
    clear hown hg
    go_wp2_with fail
    go_ret
    exact ⟨v', rfl, HO.out.1, HO.out.2⟩
set_option maxRecDepth 100000 in
theorem lt_rowN {w : World} {b : Nat} {o : Obj} (h : w.heap[b]? = some o) : b < w.heap.size := by
  rcases Nat.lt_or_ge b w.heap.size with hz | hz
  · exact hz
  · rw [Array.getElem?_eq_none hz] at h; cases h
/-- The two boxes of copied. -/
structure CB (W : World) (x : Rw) (w : World) : Prop where
  bx : w.heap[W.heap.size]? = some (.cells (rwC x).toArray 36 (0, 0))
  z : w.heap[W.heap.size + 1]? = some (.cells #[.int .i64 0, .slice none 0 0] 36 (0, 0))
  rd : RwOk w (· < W.heap.size) x
  gr : W.grownBy w none
set_option maxRecDepth 100000 in
theorem CB.keep {W w w1 : World} {x : Rw} (h : CB W x w) (g : w.grownBy w1 none) : CB W x w1 := ⟨kept_row h.bx g (by simp), kept_row h.z g (by simp), h.rd.keep g, grown_trans h.gr g⟩
set_option maxRecDepth 100000 in
theorem res_row1 {fn : Func} {p : Tmp} (h : fn.results = #[.cell p 36]) (tmps : Array Value) (w : World) (g : Nat) (x y : Value) (hp : tmps.getD p undef = .pointer (some ⟨g, 0, none⟩)) (hg : w.heap[g]? = some (.cells #[x, y] 36 (0, 0))) :
    (results fn tmps).run Tryz.prog w = .ok (.agg #[x, y]) w :=
  results_cell_row h tmps w g _ _ _ _ hp hg Tryz.underlying36 rfl row_size
set_option maxRecDepth 100000 in
set_option maxHeartbeats 3200000 in
theorem tcopied_any (x : Rw) (w : World) (hx : RwOk w (· < w.heap.size) x) (hn : x.p = none → x.c = 0) (hm : x.nx.length ≤ 1000) :
    Calls Tryz.prog 76 #[.agg #[.int .i64 x.id, .slice x.p x.nx.length x.c]] w fun e w' => ∃ (p1 : Option Addr) (c1 : Nat), e = .returned (.agg #[.int .i64 x.id, .slice p1 x.nx.length c1]) ∧ RwOk w' (w.heap.size ≤ ·) ⟨x.id, x.nx, p1, c1⟩ ∧ w.grownBy w' none := by
  obtain ⟨k1, k2, k3, k4⟩ := two_boxes w #[.int .i64 x.id, .slice x.p x.nx.length x.c] #[.int .i64 0, .slice none 0 0] 36 36
  have H0 : Hid (CB w x _) := Lib.hid ⟨k1, k2, hx.keep k3, k3⟩
  clear k1 k2 k3 k4 hx
  go_enter Tryz.func76, Tryz.ntmps76
  go_upto_region 1 with fail
  generalize (w.alloc _).alloc _ = wa at *
  refine region_until (S := fun w' => Hid (CB w x w')) (fun j => j == 6) (by kernel_rfl) (Lib.hid (H0.out.keep (grown_drew (grown_refl _ none)))) (fun hHeld => ?_)
  refine anyU_take (i := 0) (oi := { dst := some 3, op := Op.fieldAddr 36 (Operand.tmp 1) 0, type := 0, pos := "table.go:193", after := #[], guard := none }) (v := ?_) rfl (by kernel_rfl) (by kernel_rfl) (by kernel_rfl) (by kernel_rfl) (by kernel_rfl) (fun _ _ _ h => h) (Or.inl ⟨by rfl, ?_⟩) hHeld ?_
  rotate_left 1
  · intro u hSu
    obtain ⟨b0, b1⟩ := rowR2 hSu.out.bx
    go_simp
    first | done | with_reducible rfl
  (try simp only [Act.put, List.setIfInBounds_toArray, List.set_cons_zero, List.set_cons_succ])
  refine anyU_take (i := 1) (oi := { dst := some 4, op := Op.load 3 (Operand.tmp 3), type := 3, pos := "table.go:193", after := #[{ on := 0, ground := Ground.data }], guard := none }) (v := ?_) rfl (by kernel_rfl) (by kernel_rfl) (by kernel_rfl) (by kernel_rfl) (by kernel_rfl) (fun _ _ _ h => h) (Or.inl ⟨by rfl, ?_⟩) hHeld ?_
  rotate_left 1
  · intro u hSu
    obtain ⟨b0, b1⟩ := rowR2 hSu.out.bx
    go_simp
    first | done | with_reducible rfl
  (try simp only [Act.put, List.setIfInBounds_toArray, List.set_cons_zero, List.set_cons_succ])
  refine anyU_take (i := 2) (oi := { dst := some 5, op := Op.fieldAddr 36 (Operand.tmp 1) 1, type := 0, pos := "table.go:193", after := #[], guard := none }) (v := ?_) rfl (by kernel_rfl) (by kernel_rfl) (by kernel_rfl) (by kernel_rfl) (by kernel_rfl) (fun _ _ _ h => h) (Or.inl ⟨by rfl, ?_⟩) hHeld ?_
  rotate_left 1
  · intro u hSu
    obtain ⟨b0, b1⟩ := rowR2 hSu.out.bx
    go_simp
    first | done | with_reducible rfl
  (try simp only [Act.put, List.setIfInBounds_toArray, List.set_cons_zero, List.set_cons_succ])
  refine anyU_take (i := 3) (oi := { dst := some 6, op := Op.load 22 (Operand.tmp 5), type := 22, pos := "table.go:193", after := #[{ on := 2, ground := Ground.data }], guard := none }) (v := ?_) rfl (by kernel_rfl) (by kernel_rfl) (by kernel_rfl) (by kernel_rfl) (by kernel_rfl) (fun _ _ _ h => h) (Or.inl ⟨by rfl, ?_⟩) hHeld ?_
  rotate_left 1
  · intro u hSu
    obtain ⟨b0, b1⟩ := rowR2 hSu.out.bx
    go_simp
    first | done | with_reducible rfl
  (try simp only [Act.put, List.setIfInBounds_toArray, List.set_cons_zero, List.set_cons_succ])
  refine anyU_ready (rs := [4]) (by kernel_rfl) (by simp) ?_
  refine EachU.cons (o := { dst := some 7, op := Op.call { callee := Callee.value (Operand.func 124), args := #[Operand.tmp 6], argTypes := #[22] }, type := 22, pos := "table.go:193", after := #[{ on := 3, ground := Ground.data }], guard := none }) rfl (fun Kz hK => ?_) EachU.nil
  go_simp
  go_at_call 124
  refine (tcloneI_any x.nx x.p x.c _ _ hHeld.out.rd.rd hn hHeld.out.rd.hc hm).mono ?_
  rintro e w2 ⟨v, rfl, ho, hg⟩
  obtain ⟨p1, c1, rfl, hc1, hc2⟩ := own_shape ho
  have HO := Lib.hid (And.intro (rd_of_own ho) (And.intro hc1 hc2))
  have HWS := Lib.hid (lt_rowN hHeld.out.z)
  have HN := Lib.hid (hHeld.out.keep hg)
  clear ho hg hc1 hc2
  refine hK.out _ _ (fun _ => HN) (fun hH2 => ?_)
  clear hK Kz hHeld
  have hHeld := hH2 rfl
  clear hH2
  (try simp only [Act.put, List.setIfInBounds_toArray, List.set_cons_zero, List.set_cons_succ])
  refine anyU_take (i := 5) (oi := { dst := some 8, op := Op.build 36 #[(0, Operand.tmp 4), (1, Operand.tmp 7)], type := 36, pos := "table.go:193", after := #[{ on := 1, ground := Ground.data }, { on := 4, ground := Ground.data }], guard := none }) (v := ?_) rfl (by kernel_rfl) (by kernel_rfl) (by kernel_rfl) (by kernel_rfl) (by kernel_rfl) (fun _ _ _ h => h) (Or.inl ⟨by rfl, ?_⟩) hHeld ?_
  rotate_left 1
  · intro u hSu
    obtain ⟨b0, b1⟩ := rowR2 hSu.out.bx
    go_simp
    first | done | with_reducible rfl
  (try simp only [Act.put, List.setIfInBounds_toArray, List.set_cons_zero, List.set_cons_succ])
  refine anyU_ready (rs := [6]) (by kernel_rfl) (by simp) ?_
  refine EachU.cons (o := { dst := none, op := Op.store 36 (Operand.tmp 2) (Operand.tmp 8), type := 0, pos := "table.go:193", after := #[{ on := 5, ground := Ground.data }, { on := 4, ground := Ground.chain }, { on := 0, ground := Ground.phase }, { on := 1, ground := Ground.phase }, { on := 2, ground := Ground.phase }, { on := 3, ground := Ground.phase }, { on := 4, ground := Ground.phase }, { on := 5, ground := Ground.phase }], guard := none }) rfl (fun Kz hK => ?_) EachU.nil
  have H9 := hHeld
  obtain ⟨z0, z1⟩ := rowR2 hHeld.out.z
  have f0 := frozen_of_row _ _ 0 _ _ hHeld.out.z
  have f1 := frozen_of_row _ _ 1 _ _ hHeld.out.z
  go_simp
  refine hK.out _ _ (fun h => by cases h) (fun _ => ?_)
  clear hK Kz
  (try simp only [Act.put, List.setIfInBounds_toArray, List.set_cons_zero, List.set_cons_succ])
  refine anyU_done (by kernel_rfl) ?_ _
  obtain ⟨t1, t2⟩ := storeR (.int .i64 x.id) (.slice p1 x.nx.length c1) H9.out.z
  have HT := Lib.hid (And.intro t1 (And.intro (grown_new H9.out.gr t2 (by omega)) (HO.out.1.grown t2 (fun b hb e => by have := Option.some.inj e; have := HWS.out; omega))))
  clear t1 t2 H9 z0 z1 f0 f1
  go_wp2_with fail
  refine bodyPost_ret (res_row1 rfl _ _ (w.heap.size + 1) _ _ rfl HT.out.1) rfl ?_
  exact ⟨p1, c1, rfl, ⟨HT.out.2.2.mono (fun b hb => by have := HWS.out; omega), HO.out.2.1, HO.out.2.2⟩, HT.out.2.1⟩
set_option maxRecDepth 100000 in
set_option maxHeartbeats 1600000 in
theorem tidxW2_any (g : Nat) (lb : Array Value) (P : Rw → Bool) (eg : EnterF g) (R : List Rw) (p : Option Addr) (c : Nat) (q : Nat → Prop) (w : World) (hR : RdF w q (.slice p R.length c) R.length (R.flatMap rwC)) (hm : R.length ≤ 9223372036854775807)
    (hP : ∀ (r : Rw) (w' : World), r ∈ R → w.grownBy w' none → Calls Tryz.prog g (#[.agg #[.int .i64 r.id, .slice r.p r.nx.length r.c]] ++ lb) w' fun e w2 => e = .returned (.bool (P r)) ∧ w'.grownBy w2 none) :
    Calls Tryz.prog 74 #[.slice p R.length c, .func (.func g) #[] lb] w fun e w' => ∃ i : Int, e = .returned (.int .i64 i) ∧ ((i = -1 ∧ (R.take R.length).any P = false) ∨ ∃ (k : Nat) (x : Rw), i = (k : Int) ∧ R[k]? = some x ∧ P x = true ∧ (R.take k).any P = false) ∧ w.grownBy w' none := by
  have HR := Lib.hid hR
  have HP := Lib.hid hP
  clear hR hP
  go_enter Tryz.func74, Tryz.ntmps74
  go_wp2_with fail
  go_loopw [8] (fun a wr => ∃ k : Nat, k ≤ R.length ∧ a = .int .i64 (k : Int) ∧ Hid (w.grownBy wr none) ∧ Hid ((R.take k).any P = false)) (fun a _ => R.length - (RowKit.intOf a).toNat)
  case atStart => exact ⟨0, Nat.zero_le _, rfl, Lib.hid (grown_refl _ _), Lib.hid (by simp)⟩
  case round =>
    obtain ⟨k, hk, rfl, G, HN⟩ := hrel
    by_cases hlt : k < R.length
    · obtain ⟨x, hx⟩ : ∃ x, R[k]? = some x := ⟨_, List.getElem?_eq_getElem hlt⟩
      obtain ⟨-, b, off, rfl, hq, hc⟩ := rw_cells (HR.out.keep G.out) (by omega)
      obtain ⟨a0, a1⟩ := hc k x hx
      have HX := Lib.hid hx
      clear hc hx
      have hcall := HP.out x wr (List.mem_of_getElem? HX.out) G.out
      cases hp : P x
      · rw [hp] at hcall
        have HY := Lib.hid hp
        clear hp
        go_wp2_with (go_at_fn g; refine hcall.mono ?_; rintro e w' ⟨rfl, hg⟩; have HG := Lib.hid (grown_trans G.out hg); clear hg)
        exact ⟨⟨k + 1, by omega, congrArg _ (by omega), HG, Lib.hid (any_take HN.out HX.out HY.out)⟩, by simp only [RowKit.intOf]; omega⟩
      · rw [hp] at hcall
        have HY := Lib.hid hp
        clear hp
        go_wp2_with (go_at_fn g; refine hcall.mono ?_; rintro e w' ⟨rfl, hg⟩; have HG := Lib.hid (grown_trans G.out hg); clear hg)
        go_ret
        exact ⟨_, rfl, Or.inr ⟨k, x, rfl, HX.out, HY.out, HN.out⟩, HG.out⟩
    · obtain rfl : k = R.length := by omega
      go_wp2_with fail
      go_ret
      exact ⟨_, rfl, Or.inl ⟨rfl, HN.out⟩, G.out⟩
set_option maxRecDepth 100000 in
theorem trow1_any (x : Rw) (g : Nat) (id : Int) (w : World) (hg : w.cell? ⟨g, 0, none⟩ = some (.int .i64 id)) :
    Calls Tryz.prog 75 #[.agg #[.int .i64 x.id, .slice x.p x.nx.length x.c], .pointer (some ⟨g, 0, none⟩)] w fun e w' => e = .returned (.bool (isW id x)) ∧ w.grownBy w' none := by
  obtain ⟨k1, k2⟩ := tone_box w #[.int .i64 x.id, .slice x.p x.nx.length x.c] 36
  have HB := Lib.hid (And.intro k1 k2)
  have hg2 := k2.cell hg (by simp)
  have HI : Hid (isW id x = decide (x.id = id)) := Lib.hid rfl
  clear k1 k2 hg
  go_enter Tryz.func75, Tryz.ntmps75
  go_upto_region 1 with fail
  generalize w.alloc _ = w1 at *
  obtain ⟨c0, c1⟩ := rowR2 HB.out.1
  by_cases e : x.id = id
  · have e' : (x.id == id) = true := by simpa using e
    have HE : Hid (isW id x = true) := Lib.hid (by rw [HI.out]; exact decide_eq_true e)
    clear e
    go_wp2_with fail
    go_ret
    exact ⟨by rw [HE.out]; rfl, HB.out.2⟩
  · have e' : (x.id == id) = false := by simpa using e
    have HE : Hid (isW id x = false) := Lib.hid (by rw [HI.out]; exact decide_eq_false e)
    clear e
    go_wp2_with fail
    go_ret
    exact ⟨by rw [HE.out]; rfl, HB.out.2⟩
set_option maxRecDepth 100000 in
theorem fw_none {L : List Rw} {id : Int} (h : (L.take L.length).any (isW id) = false) : fdW L id = none := by
  rw [List.take_length] at h
  unfold fdW
  rw [List.find?_eq_none]
  intro x hx hw
  have := List.any_eq_false.1 h x hx
  exact this hw
set_option maxRecDepth 100000 in
theorem fw_some {L : List Rw} {id : Int} {k : Nat} {x : Rw} (h : (L.take k).any (isW id) = false) (hx : L[k]? = some x) (hp : isW id x = true) : fdW L id = some x := by
  refine fw_hit (k := k) ?_ hx (of_decide_eq_true hp)
  rw [List.find?_eq_none]
  intro y hy hw
  exact List.any_eq_false.1 h y hy hw
/-- The boxes of Row. -/
structure TRW (W : World) (r s n : Int) (p : Option Addr) (c : Nat) (L : List Rw) (id : Int) (w : World) : Prop where
  bx : w.heap[W.heap.size]? = some (.cells #[.int .i64 r, .int .i64 s, .int .i64 n, .slice p L.length c] 25 (0, 0))
  ib : w.cell? ⟨W.heap.size + 1, 0, none⟩ = some (.int .i64 id)
  z : w.heap[W.heap.size + 2]? = some (.cells #[.int .i64 0, .slice none 0 0] 36 (0, 0))
  rd : RdW w (· < W.heap.size) p c L
  gr : W.grownBy w none
set_option maxRecDepth 100000 in
theorem TRW.keep {W w w1 : World} {r s n : Int} {p : Option Addr} {c : Nat} {L : List Rw} {id : Int} (h : TRW W r s n p c L id w) (g : w.grownBy w1 none) : TRW W r s n p c L id w1 :=
  ⟨kept_row h.bx g (by simp), g.cell h.ib (by simp), kept_row h.z g (by simp), h.rd.keep g, grown_trans h.gr g⟩
set_option maxRecDepth 100000 in
theorem trw_start {w : World} {r s n : Int} {p : Option Addr} {c : Nat} {L : List Rw} (id : Int) (hR : RdW w (· < w.heap.size) p c L) : TRW w r s n p c L id (((w.alloc (.cells #[.int .i64 r, .int .i64 s, .int .i64 n, .slice p L.length c] 25)).alloc (.cells #[.int .i64 id] 3)).alloc (.cells #[.int .i64 0, .slice none 0 0] 36)) := by
  obtain ⟨k1, k2, k3, k4⟩ := two_boxes w #[.int .i64 r, .int .i64 s, .int .i64 n, .slice p L.length c] #[.int .i64 id] 25 3
  obtain ⟨w2, hw2⟩ : ∃ w2, (w.alloc (.cells #[.int .i64 r, .int .i64 s, .int .i64 n, .slice p L.length c] 25)).alloc (.cells #[.int .i64 id] 3) = w2 := ⟨_, rfl⟩
  rw [hw2] at k1 k2 k3 k4 ⊢
  obtain ⟨m1, m2⟩ := tone_box w2 #[.int .i64 0, .slice none 0 0] 36
  rw [k4] at m1
  exact ⟨kept_row k1 m2 (by simp), m2.cell (cell_of_row _ _ 0 _ _ _ k2) (by simp), m1, (hR.keep k3).keep m2, grown_trans k3 m2⟩
set_option maxRecDepth 100000 in
set_option maxHeartbeats 3200000 in
theorem trow_any (r s n : Int) (p : Option Addr) (c : Nat) (L : List Rw) (id : Int) (w : World) (hR : RdW w (· < w.heap.size) p c L) (hm : L.length ≤ 9223372036854775807) (hN : ∀ x ∈ L, x.p = none → x.c = 0) (hl : ∀ x ∈ L, x.nx.length ≤ 1000) :
    Calls Tryz.prog 20 #[.agg #[.int .i64 r, .int .i64 s, .int .i64 n, .slice p L.length c], .int .i64 id] w fun e w' => ∃ (p1 : Option Addr) (c1 : Nat), e = .returned (.tuple #[.agg #[.int .i64 ((fdW L id).getD zRw).id, .slice p1 ((fdW L id).getD zRw).nx.length c1], .bool (fdW L id).isSome]) ∧ RwOk w' (w.heap.size ≤ ·) ⟨((fdW L id).getD zRw).id, ((fdW L id).getD zRw).nx, p1, c1⟩ ∧ w.grownBy w' none := by
  have e1 : EnterF 75 := enters_of Tryz.func75 (by kernel_rfl) rfl
  have H0 := Lib.hid (trw_start (r := r) (s := s) (n := n) id hR)
  have HNL := Lib.hid (And.intro hN hl)
  have EG := Lib.hid e1
  clear hR hN hl e1
  go_enter Tryz.func20, Tryz.ntmps20
  go_upto_region 1 with fail
  generalize ((w.alloc _).alloc _).alloc _ = wa at *
  obtain ⟨d0, d1, d2, d3⟩ := row4T H0.out.bx
  go_wp2_with fail
  refine (tidxW2_any 75 #[.pointer (some ⟨w.heap.size + 1, 0, none⟩)] (isW id) EG.out L p c _ wa H0.out.rd.rd hm (fun x w' hx g => trow1_any x (w.heap.size + 1) id w' (g.cell H0.out.ib (by simp)))).mono ?_
  rintro e w2 ⟨i, rfl, hi, hg⟩
  have K := Lib.hid (H0.out.keep hg)
  clear hg H0 d0 d1 d2 d3
  rcases hi with ⟨rfl, hi⟩ | ⟨k, x, rfl, hx, hp, hn⟩
  · have HF := Lib.hid (fw_none hi)
    clear hi
    obtain ⟨z0, z1⟩ := rowR2 K.out.z
    have f0 := frozen_of_row _ _ 0 _ _ K.out.z
    have f1 := frozen_of_row _ _ 1 _ _ K.out.z
    obtain ⟨t1, t2⟩ := storeR (.int .i64 0) (.slice none 0 0) K.out.z
    have HT := Lib.hid (And.intro t1 (grown_new K.out.gr t2 (by omega)))
    clear t1 t2 K
    go_wp2_with fail
    refine bodyPost_ret (res_row_b rfl _ _ (w.heap.size + 2) _ _ rfl HT.out.1) rfl ?_
    exact ⟨none, 0, by rw [HF.out]; rfl, by rw [HF.out]; exact ⟨⟨none, 0, rfl, fun h => absurd rfl h⟩, ⟨Nat.le_refl _, by show (0 : Nat) ≤ _; omega⟩⟩, HT.out.2⟩
  · have HF := Lib.hid (fw_some hn hx hp)
    have hk0 : ¬ (k : Int) < 0 := by omega
    have hk00 : (0 : Int) ≤ (k : Int) := by omega
    have hkl : k < L.length := by
      rcases Nat.lt_or_ge k L.length with h | h
      · exact h
      · rw [List.getElem?_eq_none h] at hx; cases hx
    have hkl' : (k : Int) < (L.length : Int) := by omega
    obtain ⟨-, b, off, rfl, -, hc⟩ := rw_cells K.out.rd.rd (by omega)
    obtain ⟨a0, a1⟩ := hc k x hx
    have HX := Lib.hid (List.mem_of_getElem? hx)
    obtain ⟨d0, d1, d2, d3⟩ := row4T K.out.bx
    clear hc hx hn hp
    go_wp2_with fail
    refine (tcopied_any x w2 ((K.out.rd.ok x HX.out).mono (fun b (hb : b < w.heap.size) => Nat.lt_of_lt_of_le hb K.out.gr.size)) (HNL.out.1 x HX.out) (HNL.out.2 x HX.out)).mono ?_
    rintro e w3 ⟨p1, c1, rfl, hok, hg⟩
    have K2 := Lib.hid (K.out.keep hg)
    have HO := Lib.hid hok
    have HW2 := Lib.hid (lt_rowN K.out.z)
    clear hg hok K d0 d1 d2 d3 a0 a1
    obtain ⟨z0, z1⟩ := rowR2 K2.out.z
    have f0 := frozen_of_row _ _ 0 _ _ K2.out.z
    have f1 := frozen_of_row _ _ 1 _ _ K2.out.z
    obtain ⟨t1, t2⟩ := storeR (.int .i64 x.id) (.slice p1 x.nx.length c1) K2.out.z
    have HT := Lib.hid (And.intro t1 (And.intro (grown_new K2.out.gr t2 (by omega)) (HO.out.grown t2 (fun b hb e => by have := Option.some.inj e; have := HW2.out; omega))))
    clear t1 t2 K2 HO
    go_wp2_with fail
    refine bodyPost_ret (res_row_b rfl _ _ (w.heap.size + 2) _ _ rfl HT.out.1) rfl ?_
    exact ⟨p1, c1, by rw [HF.out]; rfl, by rw [HF.out]; exact HT.out.2.2.mono (fun b hb => by have := HW2.out; omega), HT.out.2.1⟩
set_option maxRecDepth 100000 in
set_option maxHeartbeats 3200000 in
theorem mnxt_any (r s n : Int) (p : Option Addr) (c : Nat) (L : List Rw) (id pl : Int) (w : World) (hR : RdW w (· < w.heap.size) p c L) (hm : L.length ≤ 9223372036854775807) (hN : ∀ x ∈ L, x.p = none → x.c = 0) :
    Calls Tryz.prog 46 #[.agg #[.int .i64 r, .int .i64 s, .int .i64 n, .slice p L.length c], .int .i64 id, .int .i64 pl] w fun e w' => e = .returned (.int .i64 (nxO r s n L id pl)) ∧ w.grownBy w' none := by
  have H0 := Lib.hid (bx_start (r := r) (s := s) (n := n) hR)
  have HNN := Lib.hid hN
  clear hR hN
  go_enter Tryz.func46, Tryz.ntmps46
  go_upto_region 1 with fail
  generalize w.alloc _ = wa at *
  obtain ⟨d0, d1, d2, d3⟩ := row4T H0.out.bx
  go_wp2_with fail
  refine (mvalid_any r s n p c L pl _ wa H0.out.rd hm).mono ?_
  rintro e w1 ⟨rfl, hg⟩
  have K := Lib.hid (H0.out.keep hg)
  clear hg H0 d0 d1 d2 d3
  cases hv : vaT r s n L pl
  case false =>
    have HZ := Lib.hid (nxO_no (id := id) hv)
    clear hv
    go_wp2_with fail
    go_ret
    exact ⟨by rw [HZ.out]; rfl, K.out.gr⟩
  have hv2 : (0 ≤ pl ∧ pl < 8) ∧ ckT r s n L = 0 := by unfold vaT at hv; exact of_decide_eq_true hv
  obtain ⟨k, rfl⟩ := Int.eq_ofNat_of_zero_le hv2.1.1
  have hk : k < 8 := by have := hv2.1.2; omega
  have HZ := Lib.hid (nxO_yes (id := id) hv)
  have HL : Hid (∀ x ∈ L, x.nx.length ≤ 1000) := Lib.hid (fun x hx => by
    have := any_memT (ck_ok hv2.2).2.2.2.1 hx
    unfold lgW at this
    simp at this
    omega)
  clear hv hv2
  obtain ⟨d0, d1, d2, d3⟩ := row4T K.out.bx
  go_wp2_with fail
  refine (trow_any r s n p c L id w1 K.out.rd hm HNN.out HL.out).mono ?_
  rintro e w2 ⟨p1, c1, rfl, hok, hg⟩
  have HH : Hid (hopI L id k = nxI ((fdW L id).getD zRw).nx k) := Lib.hid rfl
  have G2 := Lib.hid (grown_trans K.out.gr hg)
  have HX := Lib.hid hok
  clear hg hok K d0 d1 d2 d3
  generalize (fdW L id).isSome = ob at *
  obtain ⟨X, hX⟩ : ∃ X, ((fdW L id).getD zRw).nx = X := ⟨_, rfl⟩
  obtain ⟨xi, hxi⟩ : ∃ xi, ((fdW L id).getD zRw).id = xi := ⟨_, rfl⟩
  rw [hX, hxi] at HX
  rw [hX] at HH
  rw [hX, hxi]
  clear hX hxi
  obtain ⟨k1, k2⟩ := tone_box w2 #[.int .i64 xi, .slice p1 X.length c1] 36
  have HB := Lib.hid (And.intro k1 (And.intro (grown_trans G2.out k2) (HX.out.keep k2)))
  clear k1 k2 G2 HX
  go_upto_region 4 with fail
  generalize w2.alloc _ = w3 at *
  obtain ⟨c0, c1'⟩ := rowR2 HB.out.1
  go_wp2_with fail
  refine (mnext_any ⟨xi, X, p1, c1⟩ k hk _ w3 HB.out.2.2).mono ?_
  rintro e w4 ⟨rfl, hg⟩
  have G := Lib.hid (grown_trans HB.out.2.1 hg)
  clear hg HB c0 c1'
  go_wp2_with fail
  go_ret
  exact ⟨by rw [HZ.out, HH.out]; rfl, G.out⟩
end Go.Proofs.YtgofadmncgmhoaaGreat

/- tables: rows that are their owner's. -/
namespace Go.Proofs.YtgofadmncgmhoaaGreat
open Go.RowKit Bs
def Rw.v (x : Rw) : Value := .slice x.p x.nx.length x.c
/-- A slice of rows, and the next hops of each, are in blocks of their own. -/
structure OwnT (lo : Nat) (w : World) (v : Value) (M : List Rw) : Prop where
  own : w.ownsRow lo 36 2 v M.length (M.flatMap rwC)
  nx : ∀ x ∈ M, w.ownsRow lo 3 1 x.v x.nx.length (x.nx.map tv)
  ap : ∀ x ∈ M, ∀ g, x.v.ownBlock = some g → v.ownBlock ≠ some g
  pw : M.Pairwise fun x y => ∀ g, x.v.ownBlock = some g → y.v.ownBlock ≠ some g
set_option maxRecDepth 100000 in
theorem own_keptN {w w1 : World} {base size n : Nat} {e : TypeId} {v : Value} {xs : List Value} (h : w.ownsRow base e size v n xs) (g : w.grownBy w1 none) : w1.ownsRow base e size v n xs := h.kept g (by cases v.ownBlock <;> simp)
set_option maxRecDepth 100000 in
theorem own_keptV {w w1 : World} {base size n : Nat} {e : TypeId} {v : Value} {u : Value} {xs : List Value} (h : w.ownsRow base e size v n xs) (g : w.grownBy w1 u.ownBlock) (hne : ∀ b, v.ownBlock = some b → u.ownBlock ≠ some b) : w1.ownsRow base e size v n xs := by
  refine h.kept g ?_
  cases hv : v.ownBlock with
  | none => exact .inl rfl
  | some b => exact .inr (fun e => hne b hv e.symm)
set_option maxRecDepth 100000 in
theorem own_otherL {w w' : World} {base size n b : Nat} {e : TypeId} {v : Value} {xs : List Value} (h : w.ownsRow base e size v n xs) (g : w.grownBy w' (some b)) (hb : b < base) : w'.ownsRow base e size v n xs := by
  refine h.kept g ?_
  cases hv : v.ownBlock with
  | none => exact .inl rfl
  | some k => exact .inr (fun e => by have := (h.lt k hv).1; have := Option.some.inj e; omega)
set_option maxRecDepth 100000 in
theorem OwnT.nil (lo : Nat) (w : World) : OwnT lo w (.slice none 0 0) [] := ⟨World.ownsRow_nil _ _ _ _, fun x hx => (by cases hx), fun x hx => (by cases hx), List.Pairwise.nil⟩
set_option maxRecDepth 100000 in
theorem OwnT.keep {lo : Nat} {w w1 : World} {v : Value} {M : List Rw} (h : OwnT lo w v M) (g : w.grownBy w1 none) : OwnT lo w1 v M := ⟨own_keptN h.own g, fun x hx => own_keptN (h.nx x hx) g, h.ap, h.pw⟩
set_option maxRecDepth 100000 in
theorem OwnT.mono {lo lo2 : Nat} {w : World} {v : Value} {M : List Rw} (h : OwnT lo w v M) (hl : lo2 ≤ lo) : OwnT lo2 w v M := ⟨h.own.mono hl, fun x hx => (h.nx x hx).mono hl, h.ap, h.pw⟩
set_option maxRecDepth 100000 in
/-- A store elsewhere. -/
theorem OwnT.over {lo r : Nat} {w w1 : World} {v : Value} {M : List Rw} (h : OwnT lo w v M) (g : w.grownBy w1 (some r)) (hr : r < lo) : OwnT lo w1 v M :=
  ⟨own_otherL h.own g hr, fun x hx => own_otherL (h.nx x hx) g hr, h.ap, h.pw⟩
set_option maxRecDepth 100000 in
theorem OwnT.push {lo : Nat} {w0 w w1 : World} {v v' : Value} {M : List Rw} {x : Rw} (h : OwnT lo w0 v M) (hlo : lo ≤ w0.heap.size) (g0 : w0.grownBy w none) (hx : w.ownsRow w0.heap.size 3 1 x.v x.nx.length (x.nx.map tv)) (hown : w1.ownsRow lo 36 2 v' (M ++ [x]).length ((M ++ [x]).flatMap rwC)) (g : w.grownBy w1 v.ownBlock) (hv : v'.ownBlock = v.ownBlock ∨ ∀ b, some b = v'.ownBlock → w.heap.size ≤ b) : OwnT lo w1 v' (M ++ [x]) := by
  have hvl : ∀ b, v.ownBlock = some b → b < w0.heap.size := fun b e => (h.own.lt b e).2
  have hyl : ∀ y ∈ M, ∀ b, y.v.ownBlock = some b → b < w0.heap.size := fun y hy b e => ((h.nx y hy).lt b e).2
  have hxl : ∀ b, x.v.ownBlock = some b → w0.heap.size ≤ b ∧ b < w.heap.size := fun b e => hx.lt b e
  have hv' : ∀ b, v'.ownBlock = some b → (v.ownBlock = some b ∨ w.heap.size ≤ b) := fun b e => by
    rcases hv with hv | hv
    · exact Or.inl (hv ▸ e)
    · exact Or.inr (hv b e.symm)
  refine ⟨hown, fun y hy => ?_, fun y hy b hb e => ?_, ?_⟩
  · rcases List.mem_append.1 hy with hy | hy
    · exact own_keptV (own_keptN (h.nx y hy) g0) g (h.ap y hy)
    · rw [List.mem_singleton.1 hy]
      exact (own_keptV hx g (fun b hb e => by have := hxl b hb; have := hvl b e; omega)).mono hlo
  · have h0 := g0.size
    rcases List.mem_append.1 hy with hy | hy
    · rcases hv' b e with e | e
      · exact h.ap y hy b hb e
      · have := hyl y hy b hb; omega
    · rw [List.mem_singleton.1 hy] at hb
      have := hxl b hb
      rcases hv' b e with e | e
      · have := hvl b e; omega
      · omega
  · refine List.pairwise_append.2 ⟨h.pw, List.pairwise_singleton _ _, fun y hy z hz b hb e => ?_⟩
    rw [List.mem_singleton.1 hz] at e
    have := hyl y hy b hb
    have := hxl b e
    omega
set_option maxRecDepth 100000 in
theorem RdW.old {w : World} {q : Nat → Prop} {p : Option Addr} {c : Nat} {L : List Rw} (h : RdW w q p c L) : RdW w (· < w.heap.size) p c L := ⟨h.rd.old, fun x hx => ⟨(h.ok x hx).rd.old, (h.ok x hx).hc⟩⟩
/-- What copied keeps in memory. -/
structure CP (W : World) (r s n : Int) (L : List Rw) (p : Option Addr) (c : Nat) (v : Value) (M : List Rw) (w : World) : Prop where
  bT : w.heap[W.heap.size]? = some (.cells #[.int .i64 r, .int .i64 s, .int .i64 n, .slice p L.length c] 25 (0, 0))
  bR : w.heap[W.heap.size + 1]? = some (.cells #[.int .i64 0, .int .i64 0, .int .i64 0, .slice none 0 0] 25 (0, 0))
  rd : RdW w (· < W.heap.size) p c L
  own : OwnT (W.heap.size + 2) w v M
  gr : W.grownBy w none
  lo : W.heap.size + 2 ≤ w.heap.size
set_option maxRecDepth 100000 in
theorem CP.keep {W : World} {r s n : Int} {L : List Rw} {p : Option Addr} {c : Nat} {v : Value} {M : List Rw} {w w1 : World} (h : CP W r s n L p c v M w) (g : w.grownBy w1 none) : CP W r s n L p c v M w1 :=
  ⟨kept_row h.bT g (by simp), kept_row h.bR g (by simp), h.rd.keep g, h.own.keep g, grown_trans h.gr g, Nat.le_trans h.lo g.size⟩
set_option maxRecDepth 100000 in
theorem CP.push {W : World} {r s n : Int} {L : List Rw} {p : Option Addr} {c : Nat} {v v' : Value} {M : List Rw} {x : Rw} {w0 w w1 : World} (h : CP W r s n L p c v M w0) (g0 : w0.grownBy w none) (hx : w.ownsRow w0.heap.size 3 1 x.v x.nx.length (x.nx.map tv)) (hown : w1.ownsRow (W.heap.size + 2) 36 2 v' (M ++ [x]).length ((M ++ [x]).flatMap rwC)) (g : w.grownBy w1 v.ownBlock) (hv : v'.ownBlock = v.ownBlock ∨ ∀ b, some b = v'.ownBlock → w.heap.size ≤ b) : CP W r s n L p c v' (M ++ [x]) w1 := by
  have hk := h.keep g0
  have hne : ∀ b, b < W.heap.size + 2 → some b ≠ v.ownBlock := fun b hb e => by have := (h.own.own.lt b e.symm).1; omega
  exact ⟨kept_row hk.bT g (hne _ (by omega)), kept_row hk.bR g (hne _ (by omega)), hk.rd.grown g (fun b hb => hne b (by omega)), h.own.push h.lo g0 hx hown g hv, grown_any hk.gr g (fun b hb => hne b (by omega)), Nat.le_trans hk.lo g.size⟩
set_option maxRecDepth 100000 in
theorem cp_start {w : World} {q : Nat → Prop} (r s n : Int) {L : List Rw} {p : Option Addr} {c : Nat} (hR : RdW w q p c L) :
    CP w r s n L p c (.slice none 0 0) [] ((w.alloc (.cells #[.int .i64 r, .int .i64 s, .int .i64 n, .slice p L.length c] 25)).alloc (.cells #[.int .i64 0, .int .i64 0, .int .i64 0, .slice none 0 0] 25)) := by
  obtain ⟨a1, g1, z1⟩ := alloc_row (w := w) #[.int .i64 r, .int .i64 s, .int .i64 n, .slice p L.length c] 25 rfl
  generalize w.alloc _ = w1 at *
  obtain ⟨a2, g2, z2⟩ := alloc_row (w := w1) #[.int .i64 0, .int .i64 0, .int .i64 0, .slice none 0 0] 25 z1
  generalize w1.alloc _ = w2 at *
  have gg := grown_trans g1 g2
  exact ⟨kept_row a1 g2 (by simp), a2, hR.old.keep gg, OwnT.nil _ _, gg, by omega⟩
/-- The same rows, wherever they lie. -/
def rw0 (x : Rw) : Int × List Int := (x.id, x.nx)
end Go.Proofs.YtgofadmncgmhoaaGreat

/- tables: bitcastmake.copied. -/
namespace Go.Proofs.YtgofadmncgmhoaaGreat
open Go.RowKit Bs
set_option maxRecDepth 100000 in
set_option maxHeartbeats 12800000 in
theorem copiedT_any (r s n : Int) (L : List Rw) (p : Option Addr) (c : Nat) (q : Nat → Prop) (w : World) (hR : RdW w q p c L) (hy0 : ∀ y ∈ L, y.p = none → y.c = 0) (hl : L.length ≤ 1000) (hl2 : ∀ y ∈ L, y.nx.length ≤ 1000) :
    Calls Tryz.prog 57 #[.agg #[.int .i64 r, .int .i64 s, .int .i64 n, .slice p L.length c]] w fun e w' => ∃ (M : List Rw) (p2 : Option Addr) (c2 : Nat), e = .returned (.agg #[.int .i64 r, .int .i64 s, .int .i64 n, .slice p2 M.length c2]) ∧ OwnT w.heap.size w' (.slice p2 M.length c2) M ∧ M.map rw0 = L.map rw0 ∧ w.grownBy w' none := by
  obtain ⟨ii, hii, hi0, hi1, hi2⟩ := info_parts info_rowT
  obtain ⟨ie, hie, he0, he1, he2⟩ := info_parts info_int
  have H0 := Lib.hid (cp_start r s n hR)
  have HY0 := Lib.hid (And.intro hy0 hl2)
  clear hR hy0 hl2
  go_enter Tryz.func57, Tryz.ntmps57
  go_upto_region 1 with fail
  generalize (w.alloc _).alloc _ = wa at *
  go_wp2_with fail
  go_loopw [3, 4] (fun v a wr => ∃ (k : Nat) (M : List Rw) (p2 : Option Addr) (c2 : Nat), k ≤ L.length ∧ v = .slice p2 M.length c2 ∧ a = .int .i64 (k : Int) ∧ Hid (M.map rw0 = (L.take k).map rw0) ∧ Hid (CP w r s n L p c (.slice p2 M.length c2) M wr)) (fun _ a _ => L.length - (RowKit.intOf a).toNat)
  case atStart => exact ⟨0, [], none, 0, Nat.zero_le _, rfl, rfl, Lib.hid (by rw [List.take_zero]), H0⟩
  case round =>
  clear H0
  obtain ⟨k, M, p2, c2, hk, rfl, rfl, HB, K⟩ := hrel
  obtain ⟨w5, hw5⟩ : ∃ w5, w5 = wr := ⟨_, rfl⟩
  rw [← hw5] at K ⊢
  clear hw5
  obtain ⟨t0, t1, t2, t3⟩ := row4T K.out.bT
  by_cases hlt : k < L.length
  case neg =>
    obtain rfl : k = L.length := by omega
    have hnl : ¬ (L.length : Int) < (L.length : Int) := by omega
    rw [List.take_length] at HB
    have f3 := frozen_of_row _ _ 3 _ _ K.out.bT
    have hset := heap_setCell_same w5 w.heap.size 3 _ _ (.slice p2 M.length c2) K.out.bT
    have gset : w5.grownBy (w5.setCell ⟨w.heap.size, 3, none⟩ (.slice p2 M.length c2)) (some w.heap.size) := grown_setCell w5 ⟨w.heap.size, 3, none⟩ _
    have HK := Lib.hid (And.intro hset (And.intro (kept_row K.out.bR gset (fun e => by have := Option.some.inj e; omega)) (And.intro (K.out.own.over gset (by omega)) (grown_new K.out.gr gset (Nat.le_refl _)))))
    clear K hset gset
    go_upto_region 7 with fail
    clear t0 t1 t2 t3 f3
    generalize (w5.setCell _ _) = w6 at *
    obtain ⟨t0, t1, t2, t3⟩ := row4T HK.out.1
    obtain ⟨z0, z1, z2, z3⟩ := row4T HK.out.2.1
    have f0 := frozen_of_row _ _ 0 _ _ HK.out.2.1
    have f1 := frozen_of_row _ _ 1 _ _ HK.out.2.1
    have f2 := frozen_of_row _ _ 2 _ _ HK.out.2.1
    have f3 := frozen_of_row _ _ 3 _ _ HK.out.2.1
    have HT := Lib.hid (store4B (.int .i64 r) (.int .i64 s) (.int .i64 n) (.slice p2 M.length c2) HK.out.2.1)
    go_wp2_with fail
    refine bodyPost_ret (res_tabB rfl _ _ (w.heap.size + 1) _ _ _ _ rfl HT.out.1) rfl ?_
    exact ⟨M, p2, c2, rfl, (HK.out.2.2.1.over HT.out.2 (by omega)).mono (by omega), HB.out, grown_new HK.out.2.2.2 HT.out.2 (by omega)⟩
  have hlt' : (k : Int) < (L.length : Int) := by omega
  have hk0 : (0 : Int) ≤ (k : Int) := by omega
  obtain ⟨y, hy⟩ : ∃ y, L[k]? = some y := ⟨_, List.getElem?_eq_getElem hlt⟩
  obtain ⟨-, b, off, rfl, -, hc⟩ := rw_cells K.out.rd.rd (by omega)
  obtain ⟨a0, a1⟩ := hc k y hy
  have HY := Lib.hid hy
  clear hc hy
  have hLE : Hid (M.length ≤ 1000) := Lib.hid (by have := congrArg List.length HB.out; rw [List.length_map, List.length_map, List.length_take] at this; omega)
  have hLl := hLE.out
  have hLn := HY0.out.2 y (List.mem_of_getElem? HY.out)
  go_upto_region 5 with fail
  refine region_until (S := fun w' => Hid (w5.grownBy w' none)) (fun j => j == 17 || j == 18) (by kernel_rfl) (Lib.hid (grown_drew (grown_refl _ none))) (fun hHeld => ?_)
  refine anyU_take (i := 0) (oi := { dst := some 12, op := Op.move (Operand.tmp 3), type := 23, pos := "make.go:372", after := #[], guard := none }) (v := ?_) rfl (by kernel_rfl) (by kernel_rfl) (by kernel_rfl) (by kernel_rfl) (by kernel_rfl) (fun _ _ _ h => h) (Or.inl ⟨by rfl, ?_⟩) hHeld ?_
  rotate_left 1
  · intro u hSu
    obtain ⟨t0u, t1u, t2u, t3u⟩ := row4T (kept_row K.out.bT hSu.out (by simp))
    have a0u := hSu.out.cell a0 (by simp)
    have a1u := hSu.out.cell a1 (by simp)
    go_simp
    first | done | with_reducible rfl
  (try simp only [Act.put, List.setIfInBounds_toArray, List.set_cons_zero, List.set_cons_succ])
  refine anyU_take (i := 1) (oi := { dst := some 13, op := Op.fieldAddr 25 (Operand.tmp 1) 3, type := 0, pos := "make.go:372", after := #[], guard := none }) (v := ?_) rfl (by kernel_rfl) (by kernel_rfl) (by kernel_rfl) (by kernel_rfl) (by kernel_rfl) (fun _ _ _ h => h) (Or.inl ⟨by rfl, ?_⟩) hHeld ?_
  rotate_left 1
  · intro u hSu
    obtain ⟨t0u, t1u, t2u, t3u⟩ := row4T (kept_row K.out.bT hSu.out (by simp))
    have a0u := hSu.out.cell a0 (by simp)
    have a1u := hSu.out.cell a1 (by simp)
    go_simp
    first | done | with_reducible rfl
  (try simp only [Act.put, List.setIfInBounds_toArray, List.set_cons_zero, List.set_cons_succ])
  refine anyU_take (i := 2) (oi := { dst := some 14, op := Op.load 23 (Operand.tmp 13), type := 23, pos := "make.go:372", after := #[{ on := 1, ground := Ground.data }], guard := none }) (v := ?_) rfl (by kernel_rfl) (by kernel_rfl) (by kernel_rfl) (by kernel_rfl) (by kernel_rfl) (fun _ _ _ h => h) (Or.inl ⟨by rfl, ?_⟩) hHeld ?_
  rotate_left 1
  · intro u hSu
    obtain ⟨t0u, t1u, t2u, t3u⟩ := row4T (kept_row K.out.bT hSu.out (by simp))
    have a0u := hSu.out.cell a0 (by simp)
    have a1u := hSu.out.cell a1 (by simp)
    go_simp
    first | done | with_reducible rfl
  (try simp only [Act.put, List.setIfInBounds_toArray, List.set_cons_zero, List.set_cons_succ])
  refine anyU_take (i := 3) (oi := { dst := some 15, op := Op.move (Operand.tmp 4), type := 3, pos := "make.go:372", after := #[], guard := none }) (v := ?_) rfl (by kernel_rfl) (by kernel_rfl) (by kernel_rfl) (by kernel_rfl) (by kernel_rfl) (fun _ _ _ h => h) (Or.inl ⟨by rfl, ?_⟩) hHeld ?_
  rotate_left 1
  · intro u hSu
    obtain ⟨t0u, t1u, t2u, t3u⟩ := row4T (kept_row K.out.bT hSu.out (by simp))
    have a0u := hSu.out.cell a0 (by simp)
    have a1u := hSu.out.cell a1 (by simp)
    go_simp
    first | done | with_reducible rfl
  (try simp only [Act.put, List.setIfInBounds_toArray, List.set_cons_zero, List.set_cons_succ])
  refine anyU_take (i := 4) (oi := { dst := some 16, op := Op.indexAddr 23 (Operand.tmp 14) (Operand.tmp 15), type := 0, pos := "make.go:372", after := #[{ on := 2, ground := Ground.data }, { on := 3, ground := Ground.data }], guard := none }) (v := ?_) rfl (by kernel_rfl) (by kernel_rfl) (by kernel_rfl) (by kernel_rfl) (by kernel_rfl) (fun _ _ _ h => h) (Or.inl ⟨by rfl, ?_⟩) hHeld ?_
  rotate_left 1
  · intro u hSu
    obtain ⟨t0u, t1u, t2u, t3u⟩ := row4T (kept_row K.out.bT hSu.out (by simp))
    have a0u := hSu.out.cell a0 (by simp)
    have a1u := hSu.out.cell a1 (by simp)
    go_simp
    first | done | with_reducible rfl
  (try simp only [Act.put, List.setIfInBounds_toArray, List.set_cons_zero, List.set_cons_succ])
  refine anyU_take (i := 5) (oi := { dst := some 17, op := Op.fieldAddr 36 (Operand.tmp 16) 0, type := 0, pos := "make.go:372", after := #[{ on := 4, ground := Ground.data }], guard := none }) (v := ?_) rfl (by kernel_rfl) (by kernel_rfl) (by kernel_rfl) (by kernel_rfl) (by kernel_rfl) (fun _ _ _ h => h) (Or.inl ⟨by rfl, ?_⟩) hHeld ?_
  rotate_left 1
  · intro u hSu
    obtain ⟨t0u, t1u, t2u, t3u⟩ := row4T (kept_row K.out.bT hSu.out (by simp))
    have a0u := hSu.out.cell a0 (by simp)
    have a1u := hSu.out.cell a1 (by simp)
    go_simp
    first | done | with_reducible rfl
  (try simp only [Act.put, List.setIfInBounds_toArray, List.set_cons_zero, List.set_cons_succ])
  refine anyU_take (i := 6) (oi := { dst := some 18, op := Op.load 3 (Operand.tmp 17), type := 3, pos := "make.go:372", after := #[{ on := 5, ground := Ground.data }], guard := none }) (v := ?_) rfl (by kernel_rfl) (by kernel_rfl) (by kernel_rfl) (by kernel_rfl) (by kernel_rfl) (fun _ _ _ h => h) (Or.inl ⟨by rfl, ?_⟩) hHeld ?_
  rotate_left 1
  · intro u hSu
    obtain ⟨t0u, t1u, t2u, t3u⟩ := row4T (kept_row K.out.bT hSu.out (by simp))
    have a0u := hSu.out.cell a0 (by simp)
    have a1u := hSu.out.cell a1 (by simp)
    go_simp
    first | done | with_reducible rfl
  (try simp only [Act.put, List.setIfInBounds_toArray, List.set_cons_zero, List.set_cons_succ])
  refine anyU_take (i := 8) (oi := { dst := some 20, op := Op.fieldAddr 25 (Operand.tmp 1) 3, type := 0, pos := "make.go:372", after := #[], guard := none }) (v := ?_) rfl (by kernel_rfl) (by kernel_rfl) (by kernel_rfl) (by kernel_rfl) (by kernel_rfl) (fun _ _ _ h => h) (Or.inl ⟨by rfl, ?_⟩) hHeld ?_
  rotate_left 1
  · intro u hSu
    obtain ⟨t0u, t1u, t2u, t3u⟩ := row4T (kept_row K.out.bT hSu.out (by simp))
    have a0u := hSu.out.cell a0 (by simp)
    have a1u := hSu.out.cell a1 (by simp)
    go_simp
    first | done | with_reducible rfl
  (try simp only [Act.put, List.setIfInBounds_toArray, List.set_cons_zero, List.set_cons_succ])
  refine anyU_take (i := 9) (oi := { dst := some 21, op := Op.load 23 (Operand.tmp 20), type := 23, pos := "make.go:372", after := #[{ on := 8, ground := Ground.data }], guard := none }) (v := ?_) rfl (by kernel_rfl) (by kernel_rfl) (by kernel_rfl) (by kernel_rfl) (by kernel_rfl) (fun _ _ _ h => h) (Or.inl ⟨by rfl, ?_⟩) hHeld ?_
  rotate_left 1
  · intro u hSu
    obtain ⟨t0u, t1u, t2u, t3u⟩ := row4T (kept_row K.out.bT hSu.out (by simp))
    have a0u := hSu.out.cell a0 (by simp)
    have a1u := hSu.out.cell a1 (by simp)
    go_simp
    first | done | with_reducible rfl
  (try simp only [Act.put, List.setIfInBounds_toArray, List.set_cons_zero, List.set_cons_succ])
  refine anyU_take (i := 10) (oi := { dst := some 22, op := Op.move (Operand.tmp 4), type := 3, pos := "make.go:372", after := #[], guard := none }) (v := ?_) rfl (by kernel_rfl) (by kernel_rfl) (by kernel_rfl) (by kernel_rfl) (by kernel_rfl) (fun _ _ _ h => h) (Or.inl ⟨by rfl, ?_⟩) hHeld ?_
  rotate_left 1
  · intro u hSu
    obtain ⟨t0u, t1u, t2u, t3u⟩ := row4T (kept_row K.out.bT hSu.out (by simp))
    have a0u := hSu.out.cell a0 (by simp)
    have a1u := hSu.out.cell a1 (by simp)
    go_simp
    first | done | with_reducible rfl
  (try simp only [Act.put, List.setIfInBounds_toArray, List.set_cons_zero, List.set_cons_succ])
  refine anyU_take (i := 11) (oi := { dst := some 23, op := Op.indexAddr 23 (Operand.tmp 21) (Operand.tmp 22), type := 0, pos := "make.go:372", after := #[{ on := 9, ground := Ground.data }, { on := 10, ground := Ground.data }], guard := none }) (v := ?_) rfl (by kernel_rfl) (by kernel_rfl) (by kernel_rfl) (by kernel_rfl) (by kernel_rfl) (fun _ _ _ h => h) (Or.inl ⟨by rfl, ?_⟩) hHeld ?_
  rotate_left 1
  · intro u hSu
    obtain ⟨t0u, t1u, t2u, t3u⟩ := row4T (kept_row K.out.bT hSu.out (by simp))
    have a0u := hSu.out.cell a0 (by simp)
    have a1u := hSu.out.cell a1 (by simp)
    go_simp
    first | done | with_reducible rfl
  (try simp only [Act.put, List.setIfInBounds_toArray, List.set_cons_zero, List.set_cons_succ])
  refine anyU_take (i := 12) (oi := { dst := some 24, op := Op.fieldAddr 36 (Operand.tmp 23) 1, type := 0, pos := "make.go:372", after := #[{ on := 11, ground := Ground.data }], guard := none }) (v := ?_) rfl (by kernel_rfl) (by kernel_rfl) (by kernel_rfl) (by kernel_rfl) (by kernel_rfl) (fun _ _ _ h => h) (Or.inl ⟨by rfl, ?_⟩) hHeld ?_
  rotate_left 1
  · intro u hSu
    obtain ⟨t0u, t1u, t2u, t3u⟩ := row4T (kept_row K.out.bT hSu.out (by simp))
    have a0u := hSu.out.cell a0 (by simp)
    have a1u := hSu.out.cell a1 (by simp)
    go_simp
    first | done | with_reducible rfl
  (try simp only [Act.put, List.setIfInBounds_toArray, List.set_cons_zero, List.set_cons_succ])
  refine anyU_take (i := 13) (oi := { dst := some 25, op := Op.load 22 (Operand.tmp 24), type := 22, pos := "make.go:372", after := #[{ on := 12, ground := Ground.data }], guard := none }) (v := ?_) rfl (by kernel_rfl) (by kernel_rfl) (by kernel_rfl) (by kernel_rfl) (by kernel_rfl) (fun _ _ _ h => h) (Or.inl ⟨by rfl, ?_⟩) hHeld ?_
  rotate_left 1
  · intro u hSu
    obtain ⟨t0u, t1u, t2u, t3u⟩ := row4T (kept_row K.out.bT hSu.out (by simp))
    have a0u := hSu.out.cell a0 (by simp)
    have a1u := hSu.out.cell a1 (by simp)
    go_simp
    first | done | with_reducible rfl
  (try simp only [Act.put, List.setIfInBounds_toArray, List.set_cons_zero, List.set_cons_succ])
  refine anyU_ready (rs := [7]) (by kernel_rfl) (by simp) ?_
  refine EachU.cons (o := { dst := some 19, op := Op.buildSlice 22 0 #[], type := 22, pos := "make.go:372", after := #[], guard := none }) rfl (fun Kz hK => ?_) EachU.nil
  go_simp
  refine hK.out _ _ (fun _ => hid_more hHeld (World.grownBy_alloc _ _ _)) (fun hH2 => ?_)
  clear hK Kz hHeld
  have hHeld := hH2 rfl
  clear hH2
  (try simp only [Act.put, List.setIfInBounds_toArray, List.set_cons_zero, List.set_cons_succ])
  refine anyU_ready (rs := [14]) (by kernel_rfl) (by simp) ?_
  refine EachU.cons (o := { dst := some 26, op := Op.call { callee := Callee.builtin Builtin.append, args := #[Operand.tmp 19, Operand.tmp 25], argTypes := #[22, 22] }, type := 22, pos := "make.go:372", after := #[{ on := 7, ground := Ground.data }, { on := 13, ground := Ground.data }], guard := none }) rfl (fun Kz hK => ?_) EachU.nil
  have k0 := World.grownBy_alloc w5.drew (.cells #[] 3) none
  have hlit : (w5.drew.alloc (.cells #[] 3)).ownsRow w5.heap.size 3 1 (.slice (some ⟨w5.heap.size, 0, none⟩) 0 0) ([] : List Int).length (([] : List Int).flatMap ivF) := World.ownsRow_lit w5.drew #[] 0 (Nat.le_refl _) (by decide) rfl
  refine step_append_f ivF 1 8 (by decide) (fun _ => rfl) ivF_one 3 22 ie _ Tryz.underlying22 hie he0 he1 he2 rfl (by decide) (by rfl) _ _ (by rfl) w5.heap.size (.slice (some ⟨w5.heap.size, 0, none⟩) 0 0) [] (by rfl) hlit y.p y.nx.length y.c y.nx (by rfl) rfl (HY0.out.1 y (List.mem_of_getElem? HY.out)) _ (rdf_ints ((K.out.keep hHeld.out).rd.ok y (List.mem_of_getElem? HY.out)).rd) ((K.out.rd.ok y (List.mem_of_getElem? HY.out)).hc.1) (by simp; omega) (by simp) ?_
  intro p3 c3 w8 hown8 hg8 hat8
  simp only [List.length_nil, Nat.zero_add, List.nil_append] at hown8 hat8 ⊢
  rw [flat_ivF] at hown8
  have HN14 := Lib.hid (old_grow (grown_trans (grown_drew (grown_refl w5 none)) k0) hlit (Nat.le_refl _) hg8)
  have H14 := Lib.hid (And.intro hown8 HN14.out)
  clear hown8 hg8 hat8 k0 hlit
  refine hK.out _ _ (fun _ => HN14) (fun hH2 => ?_)
  clear hK Kz hHeld
  have hHeld := hH2 rfl
  clear hH2
  (try simp only [Act.put, List.setIfInBounds_toArray, List.set_cons_zero, List.set_cons_succ])
  refine anyU_take (i := 15) (oi := { dst := some 27, op := Op.build 36 #[(0, Operand.tmp 18), (1, Operand.tmp 26)], type := 36, pos := "make.go:372", after := #[{ on := 6, ground := Ground.data }, { on := 14, ground := Ground.data }], guard := none }) (v := ?_) rfl (by kernel_rfl) (by kernel_rfl) (by kernel_rfl) (by kernel_rfl) (by kernel_rfl) (fun _ _ _ h => h) (Or.inl ⟨by rfl, ?_⟩) hHeld ?_
  rotate_left 1
  · intro u hSu
    obtain ⟨t0u, t1u, t2u, t3u⟩ := row4T (kept_row K.out.bT hSu.out (by simp))
    have a0u := hSu.out.cell a0 (by simp)
    have a1u := hSu.out.cell a1 (by simp)
    go_simp
    first | done | with_reducible rfl
  (try simp only [Act.put, List.setIfInBounds_toArray, List.set_cons_zero, List.set_cons_succ])
  refine anyU_ready (rs := [16]) (by kernel_rfl) (by simp) ?_
  refine EachU.cons (o := { dst := some 28, op := Op.buildSlice 23 1 #[(0, Operand.tmp 27)], type := 23, pos := "make.go:372", after := #[{ on := 15, ground := Ground.data }], guard := none }) rfl (fun Kz hK => ?_) EachU.nil
  have K8 := Lib.hid (K.out.keep hHeld.out)
  go_simp
  refine hK.out _ _ (fun _ => hid_more hHeld (World.grownBy_alloc _ _ _)) (fun hH2 => ?_)
  clear hK Kz hHeld
  have hHeld := hH2 rfl
  clear hH2
  (try simp only [Act.put, List.setIfInBounds_toArray, List.set_cons_zero, List.set_cons_succ])
  refine anyU_ready (rs := [17]) (by kernel_rfl) (by simp) ?_
  refine EachU.cons (o := { dst := some 29, op := Op.call { callee := Callee.builtin Builtin.append, args := #[Operand.tmp 12, Operand.tmp 28], argTypes := #[23, 23] }, type := 23, pos := "make.go:372", after := #[{ on := 0, ground := Ground.data }, { on := 16, ground := Ground.data }, { on := 14, ground := Ground.chain }], guard := none }) rfl (fun Kz hK => ?_) EachU.nil
  refine step_append_lies _ (by rfl) _ _ 23 (by rfl) (w.heap.size + 2) 36 ii (.agg #[.int .i64 0, .slice none 0 0]) 2 32 Tryz.underlying23 hii hi0 hi1 hi2 rfl (by decide) (.slice p2 M.length c2) M.length (M.flatMap rwC) (by rfl) (K8.out.own.own.alloc _) ⟨w8.heap.size, 0, none⟩ 1 1 (rwC ⟨y.id, y.nx, p3, c3⟩) (by rfl) (by rfl) (rwB_row w8 ⟨y.id, y.nx, p3, c3⟩ _) (rw_one ⟨y.id, y.nx, p3, c3⟩) (by decide) (by unfold maxLen; omega) (by omega) (by have := K8.out.lo; simp; omega) _ rfl ?_
  intro g cap w9 hown9 hgrow hat hlt9
  have ga := World.grownBy_alloc w8 (.cells #[.int .i64 y.id, .slice p3 y.nx.length c3] 36) none
  have hv : (Value.slice (some ⟨g, 0, none⟩) (M.length + 1) cap).ownBlock = (Value.slice p2 M.length c2).ownBlock ∨ ∀ b, some b = (Value.slice (some ⟨g, 0, none⟩) (M.length + 1) cap).ownBlock → (w8.alloc (.cells #[.int .i64 y.id, .slice p3 y.nx.length c3] 36)).heap.size ≤ b := by
    rcases hat with h | h
    · exact Or.inl h.symm
    · refine Or.inr fun b e => ?_
      have e2 : some b = some g := e
      have := Option.some.inj e2
      rw [this, h]
      exact Nat.le_refl _
  have K9 := K.out.push (x := ⟨y.id, y.nx, p3, c3⟩) (v' := .slice (some ⟨g, 0, none⟩) (M.length + 1) cap) (grown_trans H14.out.2 ga) (own_keptN H14.out.1 ga) (by rw [List.length_append, List.flatMap_append]; simpa [rwC] using hown9) hgrow hv
  have HB2 : Hid ((M ++ [(⟨y.id, y.nx, p3, c3⟩ : Rw)]).map rw0 = (L.take (k + 1)).map rw0) := Lib.hid (by rw [List.take_add_one, HY.out, List.map_append, List.map_append, HB.out]; rfl)
  have HLL : Hid ((M ++ [(⟨y.id, y.nx, p3, c3⟩ : Rw)]).length = M.length + 1) := Lib.hid (by rw [List.length_append]; rfl)
  have K9 := Lib.hid K9
  clear hown9 hgrow hat hlt9 ga hv K8 H14
  refine hK.out _ _ (fun h => by cases h) (fun _ => ?_)
  clear hK Kz
  (try simp only [Act.put, List.setIfInBounds_toArray, List.set_cons_zero, List.set_cons_succ])
  refine anyU_ready (rs := [18]) (by kernel_rfl) (by simp) ?_
  refine EachU.cons (o := { dst := some 3, op := Op.assign (Operand.tmp 29), type := 23, pos := "make.go:372", after := #[{ on := 17, ground := Ground.data }, { on := 17, ground := Ground.chain }, { on := 0, ground := Ground.phase }, { on := 1, ground := Ground.phase }, { on := 2, ground := Ground.phase }, { on := 3, ground := Ground.phase }, { on := 4, ground := Ground.phase }, { on := 5, ground := Ground.phase }, { on := 6, ground := Ground.phase }, { on := 7, ground := Ground.phase }, { on := 8, ground := Ground.phase }, { on := 9, ground := Ground.phase }, { on := 10, ground := Ground.phase }, { on := 11, ground := Ground.phase }, { on := 12, ground := Ground.phase }, { on := 13, ground := Ground.phase }, { on := 14, ground := Ground.phase }, { on := 15, ground := Ground.phase }, { on := 16, ground := Ground.phase }, { on := 17, ground := Ground.phase }], guard := none }) rfl (fun Kz hK => ?_) EachU.nil
  go_simp
  refine hK.out _ _ (fun h => by cases h) (fun _ => ?_)
  clear hK Kz
  (try simp only [Act.put, List.setIfInBounds_toArray, List.set_cons_zero, List.set_cons_succ])
  refine anyU_done (by kernel_rfl) ?_ _
  clear hHeld t0 t1 t2 t3 a0 a1 K
  go_wp2_with fail
  exact ⟨⟨k + 1, M ++ [⟨y.id, y.nx, p3, c3⟩], some ⟨g, 0, none⟩, cap, by omega, by rw [HLL.out], congrArg _ (by omega), HB2, by rw [HLL.out]; exact K9⟩, by simp only [RowKit.intOf]; omega⟩
end Go.Proofs.YtgofadmncgmhoaaGreat

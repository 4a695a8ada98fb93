/- Parts of the proof, packed: DbFnd, DbFin. -/
import Derived.Test.YtnpkihioklpnmaaCk13
import Derived.Test.YtnpkihioklpnmaaCk10
/- database: copied, Find. -/
namespace Go.Proofs.Ytnpkihioklpnmaa
open Go.RowKit Bs
set_option maxRecDepth 100000 in
theorem own_nl {w : World} {base size n m c : Nat} {e : TypeId} {p : Option Addr} {xs : List Value} (h : w.ownsRow base e size (.slice p m c) n xs) : p = none → c = 0 := by
  rintro rfl
  rcases h.2 with ⟨e1, _⟩ | ⟨g', cap', cur, hv, _⟩
  · injection e1
  · cases hv
/-- While an advert is copied: its box, the result's. -/
structure CP (W : World) (A : Ad) (v1 v2 : Value) (wr : World) : Prop where
  ab : wr.heap[W.heap.size]? = some (.cells #[.int .i64 A.r, .int .i64 A.q, .bool A.cp, v1, v2] 38 (0, 0))
  rb : wr.heap[W.heap.size + 1]? = some (.cells #[.int .i64 0, .int .i64 0, .bool false, .slice none 0 0, .slice none 0 0] 38 (0, 0))
  ok : AdOk wr (· < W.heap.size) A
  gr : W.grownBy wr none
section
variable {W w w1 : World} {A : Ad} {v1 v2 v : Value}
set_option maxRecDepth 100000 in
theorem CP.keep (h : CP W A v1 v2 w) (g : w.grownBy w1 none) : CP W A v1 v2 w1 := ⟨kept_row h.ab g (by simp), kept_row h.rb g (by simp), h.ok.keep g, grown_trans h.gr g⟩
set_option maxRecDepth 100000 in
theorem CP.set3 (h : CP W A v1 v2 w) (v : Value) : CP W A v v2 (w.setCell ⟨W.heap.size, 3, none⟩ v) := by
  have g := grown_setCell w ⟨W.heap.size, 3, none⟩ v
  refine ⟨?_, kept_row h.rb g (fun e => by have : W.heap.size + 1 = W.heap.size := Option.some.inj e; omega), h.ok.grown g (fun b hb e => by have : b = W.heap.size := Option.some.inj e; omega), grown_new h.gr g (Nat.le_refl _)⟩
  have h1 := heap_setCell_same w W.heap.size 3 _ _ v h.ab
  rw [h1]; rfl
set_option maxRecDepth 100000 in
theorem CP.set4 (h : CP W A v1 v2 w) (v : Value) : CP W A v1 v (w.setCell ⟨W.heap.size, 4, none⟩ v) := by
  have g := grown_setCell w ⟨W.heap.size, 4, none⟩ v
  refine ⟨?_, kept_row h.rb g (fun e => by have : W.heap.size + 1 = W.heap.size := Option.some.inj e; omega), h.ok.grown g (fun b hb e => by have : b = W.heap.size := Option.some.inj e; omega), grown_new h.gr g (Nat.le_refl _)⟩
  have h1 := heap_setCell_same w W.heap.size 4 _ _ v h.ab
  rw [h1]; rfl
end
set_option maxRecDepth 100000 in
theorem cp_start {w : World} {A : Ad} {q : Nat → Prop} (hA : AdOk w q A) : CP w A (.slice A.pL A.L.length A.cL) (.slice A.pC A.C.length A.cC) ((w.alloc (.cells #[.int .i64 A.r, .int .i64 A.q, .bool A.cp, .slice A.pL A.L.length A.cL, .slice A.pC A.C.length A.cC] 38)).alloc (.cells #[.int .i64 0, .int .i64 0, .bool false, .slice none 0 0, .slice none 0 0] 38)) ∧ w.heap.size + 2 ≤ ((w.alloc (.cells #[.int .i64 A.r, .int .i64 A.q, .bool A.cp, .slice A.pL A.L.length A.cL, .slice A.pC A.C.length A.cC] 38)).alloc (.cells #[.int .i64 0, .int .i64 0, .bool false, .slice none 0 0, .slice none 0 0] 38)).heap.size := by
  obtain ⟨k1, k2, k3, k4⟩ := two_boxes w #[.int .i64 A.r, .int .i64 A.q, .bool A.cp, .slice A.pL A.L.length A.cL, .slice A.pC A.C.length A.cC] #[.int .i64 0, .int .i64 0, .bool false, .slice none 0 0, .slice none 0 0] 38 38
  exact ⟨⟨k1, k2, hA.old.keep k3, k3⟩, Nat.le_of_eq k4.symm⟩
/-- A copy: the same fields, lists elsewhere. -/
def CpPost (A : Ad) (w : World) (e : Ending) (w' : World) : Prop :=
  ∃ pL cL pC cC, e = .returned (.agg #[.int .i64 A.r, .int .i64 A.q, .bool A.cp, .slice pL A.L.length cL, .slice pC A.C.length cC]) ∧ AdOk w' (w.heap.size ≤ ·) ⟨A.r, A.q, A.cp, A.L, A.C, pL, cL, pC, cC⟩ ∧ AdNl ⟨A.r, A.q, A.cp, A.L, A.C, pL, cL, pC, cC⟩ ∧ w.grownBy w' none
set_option maxRecDepth 100000 in
set_option maxHeartbeats 3200000 in
theorem dcopied_any (A : Ad) (q : Nat → Prop) (w : World) (hA : AdOk w q A) (hn : AdNl A) (hm : A.L.length ≤ 1000 ∧ A.C.length ≤ 1000) :
    Calls Try.prog 54 #[.agg #[.int .i64 A.r, .int .i64 A.q, .bool A.cp, .slice A.pL A.L.length A.cL, .slice A.pC A.C.length A.cC]] w fun e w' => CpPost A w e w' := by
  have H0 := Lib.hid (cp_start hA).1
  have HS := Lib.hid (cp_start hA).2
  clear hA
  go_enter Try.func54, Try.ntmps54
  go_upto_region 1 with fail
  generalize (w.alloc _).alloc _ = wa at *
  obtain ⟨c0, c1, c2, c3, c4⟩ := row5 H0.out.ab
  go_wp2_with fail
  refine (dclR_any A.L A.pL A.cL _ wa H0.out.ok.l hn.1 H0.out.ok.hl hm.1).mono ?_
  rintro e w1 ⟨v, rfl, hown, hg⟩
  obtain ⟨pL, cL, rfl, n1, m1⟩ := own_shape hown
  have H1 := Lib.hid (H0.out.keep hg)
  have HL : Hid (RdF w1 (w.heap.size + 2 ≤ ·) (.slice pL A.L.length cL) A.L.length (A.L.flatMap t3C) ∧ (A.L.length ≤ cL ∧ cL ≤ 9223372036854775807) ∧ (pL = none → cL = 0)) := Lib.hid ⟨(rdf_of_own hown).mono (fun b hb => Nat.le_trans HS.out hb), ⟨n1, m1⟩, own_nl hown⟩
  clear hown hg n1 m1 H0 HS c0 c1 c2 c3 c4
  obtain ⟨c0, c1, c2, c3, c4⟩ := row5 H1.out.ab
  have f3 := frozen_of_row _ _ 3 _ _ H1.out.ab
  have H2 := Lib.hid (H1.out.set3 (.slice pL A.L.length cL))
  have HL2 := Lib.hid (HL.out.1.grown (grown_setCell w1 ⟨w.heap.size, 3, none⟩ (.slice pL A.L.length cL)) (fun b hb e => by have : b = w.heap.size := Option.some.inj e; omega))
  go_upto_region 2 with fail
  clear c0 c1 c2 c3 c4 f3 H1
  generalize w1.setCell _ _ = w2 at *
  obtain ⟨c0, c1, c2, c3, c4⟩ := row5 H2.out.ab
  go_wp2_with fail
  refine (dclC_any A.C A.pC A.cC _ w2 H2.out.ok.c hn.2 H2.out.ok.hc hm.2).mono ?_
  rintro e w3 ⟨v, rfl, hown, hg⟩
  obtain ⟨pC, cC, rfl, n1, m1⟩ := own_shape hown
  have hsz : w.heap.size + 2 ≤ w2.heap.size := World.lt_of_row' H2.out.rb
  have H3 := Lib.hid (H2.out.keep hg)
  have HL3 := Lib.hid (HL2.out.grown hg (fun _ _ => by simp))
  have HC : Hid (RdF w3 (w.heap.size + 2 ≤ ·) (.slice pC A.C.length cC) A.C.length (A.C.flatMap t3C) ∧ (A.C.length ≤ cC ∧ cC ≤ 9223372036854775807) ∧ (pC = none → cC = 0)) := Lib.hid ⟨(rdf_of_own hown).mono (fun b hb => Nat.le_trans hsz hb), ⟨n1, m1⟩, own_nl hown⟩
  clear hown hg n1 m1 hsz H2 HL2 c0 c1 c2 c3 c4
  obtain ⟨c0, c1, c2, c3, c4⟩ := row5 H3.out.ab
  have f4 := frozen_of_row _ _ 4 _ _ H3.out.ab
  have H4 := Lib.hid (H3.out.set4 (.slice pC A.C.length cC))
  have gs := grown_setCell w3 ⟨w.heap.size, 4, none⟩ (.slice pC A.C.length cC)
  have HO : Hid (RdF (w3.setCell ⟨w.heap.size, 4, none⟩ (.slice pC A.C.length cC)) (w.heap.size + 2 ≤ ·) (.slice pL A.L.length cL) A.L.length (A.L.flatMap t3C) ∧ RdF (w3.setCell ⟨w.heap.size, 4, none⟩ (.slice pC A.C.length cC)) (w.heap.size + 2 ≤ ·) (.slice pC A.C.length cC) A.C.length (A.C.flatMap t3C)) := Lib.hid ⟨HL3.out.grown gs (fun b hb e => by have : b = w.heap.size := Option.some.inj e; omega), HC.out.1.grown gs (fun b hb e => by have : b = w.heap.size := Option.some.inj e; omega)⟩
  clear gs
  go_upto_region 3 with fail
  clear c0 c1 c2 c3 c4 f4 H3
  generalize w3.setCell _ _ = w4 at *
  obtain ⟨c0, c1, c2, c3, c4⟩ := row5 H4.out.ab
  obtain ⟨z0, z1, z2, z3, z4⟩ := row5 H4.out.rb
  have f0 := frozen_of_row _ _ 0 _ _ H4.out.rb
  have f1 := frozen_of_row _ _ 1 _ _ H4.out.rb
  have f2 := frozen_of_row _ _ 2 _ _ H4.out.rb
  have f3 := frozen_of_row _ _ 3 _ _ H4.out.rb
  have f4 := frozen_of_row _ _ 4 _ _ H4.out.rb
  obtain ⟨t1, t2⟩ := store5 (.int .i64 A.r) (.int .i64 A.q) (.bool A.cp) (.slice pL A.L.length cL) (.slice pC A.C.length cC) H4.out.rb
  have hq : ∀ b, w.heap.size + 2 ≤ b → some b ≠ some (w.heap.size + 1) := fun b hb e => by have := Option.some.inj e; omega
  have HT := Lib.hid (And.intro t1 (And.intro (grown_new H4.out.gr t2 (by omega)) (And.intro (HO.out.1.grown t2 hq) (HO.out.2.grown t2 hq))))
  clear t1 t2 H4 HO hq
  go_wp2_with fail
  refine bodyPost_ret (res_adv rfl _ _ (w.heap.size + 1) _ _ _ _ _ rfl HT.out.1) rfl ?_
  exact ⟨pL, cL, pC, cC, rfl, ⟨HT.out.2.2.1.mono (fun b hb => by omega), HT.out.2.2.2.mono (fun b hb => by omega), HL.out.2.1, HC.out.2.1⟩, ⟨HL.out.2.2, HC.out.2.2⟩, HT.out.2.1⟩
end Go.Proofs.Ytnpkihioklpnmaa

/- database: Find. -/
namespace Go.Proofs.Ytnpkihioklpnmaa
open Go.RowKit Bs
set_option maxRecDepth 100000 in
theorem rdf_and {w : World} {q : Nat → Prop} {v : Value} {n : Nat} {xs : List Value} (h : RdF w q v n xs) : RdF w (fun b => q b ∧ b < w.heap.size) v n xs := by
  obtain ⟨p, c, hv, hc⟩ := h
  refine ⟨p, c, hv, fun hne => ?_⟩
  obtain ⟨b, off, hp, hb, hx⟩ := hc hne
  obtain ⟨x, hx0⟩ : ∃ x, xs[0]? = some x := by
    cases xs with
    | nil => exact absurd rfl hne
    | cons a t => exact ⟨a, rfl⟩
  exact ⟨b, off, hp, ⟨hb, World.block_lt_of_cell? w ⟨b, off + 0, none⟩ (hx 0 x hx0)⟩, hx⟩
set_option maxRecDepth 100000 in
theorem AdOk.and {w : World} {q : Nat → Prop} {A : Ad} (h : AdOk w q A) : AdOk w (fun b => q b ∧ b < w.heap.size) A := ⟨rdf_and h.l, rdf_and h.c, h.hl, h.hc⟩
set_option maxRecDepth 100000 in
theorem res_adv_b {fn : Func} {p u : Tmp} (h : fn.results = #[.cell p 38, .tmp u]) (tmps : Array Value) (w : World) (g : Nat) (x y z s t : Value) (hp : tmps.getD p undef = .pointer (some ⟨g, 0, none⟩)) (hg : w.heap[g]? = some (.cells #[x, y, z, s, t] 38 (0, 0))) :
    (results fn tmps).run Try.prog w = .ok (.tuple #[.agg #[x, y, z, s, t], tmps.getD u undef]) w := by
  have hp' : tmps[p]?.getD undef = .pointer (some ⟨g, 0, none⟩) := by simpa using hp
  rw [results_cell_tmp h]
  simp [hp', asAddr, run_loadVar_row w g _ _ _ _ _ hg Try.underlying38 rfl adv_size, Result.andThen]
def zAd : Ad := ⟨0, 0, false, [], [], none, 0, none, 0⟩
set_option maxRecDepth 100000 in
theorem zAd_ok (w : World) (q : Nat → Prop) : AdOk w q zAd := ⟨⟨none, 0, rfl, fun h => absurd rfl h⟩, ⟨none, 0, rfl, fun h => absurd rfl h⟩, ⟨Nat.le_refl _, by show (0 : Nat) ≤ _; omega⟩, ⟨Nat.le_refl _, by show (0 : Nat) ≤ _; omega⟩⟩
set_option maxRecDepth 100000 in
theorem zAd_nl : AdNl zAd := ⟨fun _ => rfl, fun _ => rfl⟩
set_option maxRecDepth 100000 in
theorem fn_take {l : List Ad} {r : Int} {k : Nat} {A : Ad} (h : (l.take k).find? (isR r) = none) (hx : l[k]? = some A) : (l.take (k + 1)).find? (isR r) = if A.r = r then some A else none := by
  rw [List.take_add_one, hx, List.find?_append, h]
  unfold isR
  by_cases e : A.r = r <;> simp [e]
set_option maxRecDepth 100000 in
theorem fn_hit {l : List Ad} {r : Int} {k : Nat} {A : Ad} (h : (l.take k).find? (isR r) = none) (hx : l[k]? = some A) (e : A.r = r) : fndA l r = some A := by
  unfold fndA
  have h2 := fn_take h hx
  rw [if_pos e] at h2
  rw [← List.take_append_drop (k + 1) l, List.find?_append, h2]
  rfl
set_option maxRecDepth 100000 in
theorem fn_end {l : List Ad} {r : Int} (h : (l.take l.length).find? (isR r) = none) : fndA l r = none := by
  rw [List.take_length] at h
  exact h
/-- What Find returns. -/
def FinPost (l : List Ad) (r : Int) (q : Nat → Prop) (w : World) (e : Ending) (w' : World) : Prop :=
  ∃ X : Ad, e = .returned (.tuple #[.agg #[.int .i64 X.r, .int .i64 X.q, .bool X.cp, .slice X.pL X.L.length X.cL, .slice X.pC X.C.length X.cC], .bool (fndA l r).isSome]) ∧ (X.r = ((fndA l r).getD zAd).r ∧ X.q = ((fndA l r).getD zAd).q ∧ X.cp = ((fndA l r).getD zAd).cp ∧ X.L = ((fndA l r).getD zAd).L ∧ X.C = ((fndA l r).getD zAd).C) ∧ AdOk w' q X ∧ w.grownBy w' none
/-- While Find looks: the database and its box, the result's box. -/
structure FB (W : World) (l : List Ad) (p : Option Addr) (c : Nat) (w : World) : Prop where
  db : RdA w (· < W.heap.size) (.slice p l.length c) l
  d : w.heap[W.heap.size]? = some (.cells #[.slice p l.length c] 25 (0, 0))
  z : w.heap[W.heap.size + 1]? = some (.cells #[.int .i64 0, .int .i64 0, .bool false, .slice none 0 0, .slice none 0 0] 38 (0, 0))
  gr : W.grownBy w none
set_option maxRecDepth 100000 in
theorem FB.keep {W w w1 : World} {l : List Ad} {p : Option Addr} {c : Nat} (h : FB W l p c w) (g : w.grownBy w1 none) : FB W l p c w1 := ⟨h.db.keep g, kept_row h.d g (by simp), kept_row h.z g (by simp), grown_trans h.gr g⟩
set_option maxRecDepth 100000 in
theorem fb_start {w : World} {l : List Ad} {p : Option Addr} {c : Nat} {q : Nat → Prop} (hR : RdA w q (.slice p l.length c) l) : FB w l p c ((w.alloc (.cells #[.slice p l.length c] 25)).alloc (.cells #[.int .i64 0, .int .i64 0, .bool false, .slice none 0 0, .slice none 0 0] 38)) := by
  obtain ⟨k1, k2, k3, k4⟩ := two_boxes w #[.slice p l.length c] #[.int .i64 0, .int .i64 0, .bool false, .slice none 0 0, .slice none 0 0] 25 38
  exact ⟨(RdA.old hR).keep k3, k1, k2, k3⟩
set_option maxRecDepth 100000 in
set_option maxHeartbeats 3200000 in
theorem dfind_any (l : List Ad) (r : Int) (p : Option Addr) (c : Nat) (q : Nat → Prop) (w : World) (hR : RdA w q (.slice p l.length c) l) (hm : l.length ≤ 9223372036854775807) (hs : ∀ A ∈ l, A.L.length ≤ 1000 ∧ A.C.length ≤ 1000) :
    Calls Try.prog 19 #[.agg #[.slice p l.length c], .int .i64 r] w fun e w' => FinPost l r (w.heap.size ≤ ·) w e w' := by
  have H0 := Lib.hid (fb_start hR)
  have HS := Lib.hid hs
  clear hR hs
  go_enter Try.func19, Try.ntmps19
  go_upto_region 1 with fail
  generalize (w.alloc _).alloc _ = wa at *
  have c0 : wa.cell? ⟨w.heap.size, 0, none⟩ = some (.slice p l.length c) := cell_of_row _ _ _ _ _ _ H0.out.d
  go_wp2_with fail
  clear c0
  go_loopw [11] (fun a wr => ∃ k : Nat, k ≤ l.length ∧ a = .int .i64 (k : Int) ∧ Hid ((l.take k).find? (isR r) = none) ∧ Hid (FB w l p c wr)) (fun a _ => l.length - (RowKit.intOf a).toNat)
  case atStart => exact ⟨0, Nat.zero_le _, rfl, Lib.hid rfl, H0⟩
  case round =>
  obtain ⟨k, hk, rfl, HN, K⟩ := hrel
  clear H0
  by_cases hlt : k < l.length
  · obtain ⟨-, b, off, rfl, -, -⟩ := rda_cells K.out.db (by omega)
    obtain ⟨A, hA⟩ : ∃ A, l[k]? = some A := ⟨_, List.getElem?_eq_getElem hlt⟩
    obtain ⟨a0, a1, a2, a3, a4⟩ := rda_at K.out.db hA
    have HA := Lib.hid (And.intro hA (List.mem_of_getElem? hA))
    have gal := World.grownBy_alloc wr (.cells #[.int .i64 A.r, .int .i64 A.q, .bool A.cp, .slice A.pL A.L.length A.cL, .slice A.pC A.C.length A.cC] 38) none
    have K1 := Lib.hid (And.intro (K.out.keep gal) (heap_alloc_new wr (.cells #[.int .i64 A.r, .int .i64 A.q, .bool A.cp, .slice A.pL A.L.length A.cL, .slice A.pC A.C.length A.cC] 38)))
    clear hA gal K
    go_upto_region 4 with fail
    clear a0 a1 a2 a3 a4
    generalize wr.alloc _ = wy at *
    obtain ⟨d0, d1, d2, d3, d4⟩ := row5 K1.out.2
    by_cases e : A.r = r
    · have e' : (A.r == r) = true := by simpa using e
      have HF := Lib.hid (fn_hit HN.out HA.out.1 e)
      clear e
      go_wp2_with fail
      refine (dcopied_any A _ wy (K1.out.1.db.ok A HA.out.2) (K1.out.1.db.nl A HA.out.2) (HS.out A HA.out.2)).mono ?_
      rintro e w1 ⟨pL, cL, pC, cC, rfl, hok, hnl, hg⟩
      have K2 := Lib.hid (K1.out.1.keep hg)
      have HOK := Lib.hid hok
      have K1z := Lib.hid K1.out.1.z
      clear hok hnl hg K1 d0 d1 d2 d3 d4
      obtain ⟨z0, z1, z2, z3, z4⟩ := row5 K2.out.z
      have f0 := frozen_of_row _ _ 0 _ _ K2.out.z
      have f1 := frozen_of_row _ _ 1 _ _ K2.out.z
      have f2 := frozen_of_row _ _ 2 _ _ K2.out.z
      have f3 := frozen_of_row _ _ 3 _ _ K2.out.z
      have f4 := frozen_of_row _ _ 4 _ _ K2.out.z
      obtain ⟨t1, t2⟩ := store5 (.int .i64 A.r) (.int .i64 A.q) (.bool A.cp) (.slice pL A.L.length cL) (.slice pC A.C.length cC) K2.out.z
      have hws : w.heap.size + 1 < wy.heap.size := World.lt_of_row' K1z.out
      have HT := Lib.hid (And.intro t1 (And.intro (grown_new K2.out.gr t2 (by omega)) (HOK.out.grown t2 (fun b hb e => by have := Option.some.inj e; omega))))
      have HSZ := Lib.hid hws
      clear t1 t2 K2 HOK hws K1z
      go_wp2_with fail
      refine bodyPost_ret (res_adv_b rfl _ _ (w.heap.size + 1) _ _ _ _ _ rfl HT.out.1) rfl ?_
      exact ⟨⟨A.r, A.q, A.cp, A.L, A.C, pL, cL, pC, cC⟩, by rw [HF.out]; rfl, by rw [HF.out]; exact ⟨rfl, rfl, rfl, rfl, rfl⟩, HT.out.2.2.mono (fun b hb => Nat.le_trans (Nat.le_of_lt (Nat.lt_of_succ_lt HSZ.out)) hb), HT.out.2.1⟩
    · have e' : (A.r == r) = false := by simpa using e
      have HN2 : Hid ((l.take (k + 1)).find? (isR r) = none) := Lib.hid (by rw [fn_take HN.out HA.out.1, if_neg e])
      have K2 := Lib.hid K1.out.1
      clear e K1 HN
      go_wp2_with fail
      exact ⟨⟨k + 1, by omega, congrArg _ (by omega), HN2, K2⟩, by simp only [RowKit.intOf]; omega⟩
  · obtain rfl : k = l.length := by omega
    have HF := Lib.hid (fn_end HN.out)
    obtain ⟨z0, z1, z2, z3, z4⟩ := row5 K.out.z
    have f0 := frozen_of_row _ _ 0 _ _ K.out.z
    have f1 := frozen_of_row _ _ 1 _ _ K.out.z
    have f2 := frozen_of_row _ _ 2 _ _ K.out.z
    have f3 := frozen_of_row _ _ 3 _ _ K.out.z
    have f4 := frozen_of_row _ _ 4 _ _ K.out.z
    obtain ⟨t1, t2⟩ := store5 (.int .i64 0) (.int .i64 0) (.bool false) (.slice none 0 0) (.slice none 0 0) K.out.z
    have HT := Lib.hid (And.intro t1 (grown_new K.out.gr t2 (by omega)))
    clear t1 t2 K HN
    go_wp2_with fail
    refine bodyPost_ret (res_adv_b rfl _ _ (w.heap.size + 1) _ _ _ _ _ rfl HT.out.1) rfl ?_
    exact ⟨zAd, by rw [HF.out]; rfl, by rw [HF.out]; exact ⟨rfl, rfl, rfl, rfl, rfl⟩, zAd_ok _ _, HT.out.2⟩
end Go.Proofs.Ytnpkihioklpnmaa

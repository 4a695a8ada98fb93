/- Parts of the proof, packed: ToLook, AdOfC. -/
import Derived.Test.YtpoocenooomghaaDoorOf7
import Derived.Test.YtpoocenooomghaaDoorOf8
import Derived.Test.YtpoocenooomghaaDoorOf14
import Derived.Test.YtpoocenooomghaaDoorOf13
import Derived.Lib.SliceRun
/- topology: routerAt, linkAt, Has, Capable, Cost, Neighbours. -/
namespace Go.Proofs.YtpoocenooomghaaDoor
open Go.RowKit Bs
set_option maxRecDepth 100000 in
set_option maxHeartbeats 1600000 in
theorem trat_any (T : Tg) (x : Int) (q : Nat → Prop) (w : World) (hT : TgOk w q T) (h1 : T.R.length ≤ 1000000) :
    Calls Tryd.prog 102 #[.agg #[.slice T.pR T.R.length T.cR, .slice T.pL T.L.length T.cL], .int .i64 x] w fun e w' => BsPost cvR T.R ⟨x, false⟩ w e w' := by
  obtain ⟨R, L, pR, cR, pL, cL⟩ := T
  simp only at h1 ⊢
  obtain ⟨k1, k2⟩ := tone_box w #[.slice pR R.length cR, .slice pL L.length cL] 61
  have HB := Lib.hid (And.intro k1 (And.intro k2 (hT.keep k2)))
  clear k1 k2 hT
  go_enter Tryd.func102, Tryd.ntmps102
  go_upto_region 1 with fail
  generalize w.alloc _ = wa at *
  obtain ⟨c0, c1⟩ := row_cells HB.out.1
  go_wp2_with fail
  refine (bsR_any R ⟨x, false⟩ pR cR _ wa HB.out.2.2.r h1).mono ?_
  rintro e w1 ⟨i, b, rfl, hb, hg⟩
  have HG := Lib.hid hg
  clear hg
  go_wp2_with fail
  go_ret2
  exact ⟨i, b, rfl, hb, grown_trans HB.out.2.1 HG.out⟩
/-- The results of Has, Capable, Cost, Neighbours. -/
def hasV (R : List Rt) (L : List Lk) (x : Int) : Bool := okT R L && hasR R x
def capV (R : List Rt) (L : List Lk) (x : Int) : Bool := okT R L && capR R x
def costV (R : List Rt) (L : List Lk) (x y : Int) : Int × Bool := if okT R L = true then priceV L x y else (0, false)
def nearV (R : List Rt) (L : List Lk) (x : Int) : List Int := if okT R L = true then nearR R L x else []
set_option maxRecDepth 100000 in
theorem capR_has {R : List Rt} {x : Int} (h : hasR R x = false) : capR R x = false := by
  unfold capR
  cases hf : R.find? (fun r => decide (r.id = x)) with
  | none => rfl
  | some r =>
    have h2 := List.find?_some hf
    have : hasR R x = true := List.any_eq_true.2 ⟨r, List.mem_of_find?_eq_some hf, h2⟩
    rw [h] at this; cases this
set_option maxRecDepth 100000 in
theorem okT_all {R : List Rt} {L : List Lk} (h : okT R L = true) : OkAll R L := chk_okAll (by unfold okT at h; simpa using h)
set_option maxRecDepth 100000 in
set_option maxHeartbeats 1600000 in
theorem thas_any (T : Tg) (x : Int) (q : Nat → Prop) (w : World) (hT : TgOk w q T) (h1 : T.R.length ≤ 1000000) :
    Calls Tryd.prog 64 #[.agg #[.slice T.pR T.R.length T.cR, .slice T.pL T.L.length T.cL], .int .i64 x] w fun e w' => e = .returned (.bool (hasV T.R T.L x)) ∧ w.grownBy w' none := by
  obtain ⟨R, L, pR, cR, pL, cL⟩ := T
  simp only at h1 ⊢
  obtain ⟨k1, k2⟩ := tone_box w #[.slice pR R.length cR, .slice pL L.length cL] 61
  have HB := Lib.hid (And.intro k1 (And.intro k2 (hT.keep k2)))
  clear k1 k2 hT
  obtain ⟨z, hz⟩ : ∃ z, hasV R L x = z := ⟨_, rfl⟩
  rw [hz]
  have HZ := Lib.hid hz
  clear hz
  go_enter Tryd.func64, Tryd.ntmps64
  go_upto_region 1 with fail
  generalize w.alloc _ = wa at *
  obtain ⟨c0, c1⟩ := row_cells HB.out.1
  go_wp2_with fail
  refine (trat_any ⟨R, L, pR, cR, pL, cL⟩ x _ wa HB.out.2.2 h1).mono ?_
  rintro e w1 ⟨i, b, rfl, hb, hg⟩
  have HG := Lib.hid hg
  clear hg c0 c1
  obtain ⟨c0, c1⟩ := row_cells (kept_row HB.out.1 HG.out (by simp))
  cases hv : okT R L
  · obtain rfl : false = z := by have := HZ.out; unfold hasV at this; rw [hv] at this; simpa using this
    go_wp2_with fail
    refine (tvalid_any ⟨R, L, pR, cR, pL, cL⟩ _ w1 (HB.out.2.2.keep HG.out)).mono ?_
    rintro e w2 ⟨rfl, hg⟩
    simp only
    rw [hv]
    have HG2 := Lib.hid (grown_trans HG.out hg)
    clear hg hv
    go_wp2_with fail
    go_ret
    exact ⟨rfl, grown_trans HB.out.2.1 HG2.out⟩
  · obtain rfl : b = z := by have := HZ.out; unfold hasV at this; rw [hv] at this; rw [← this]; exact (bs_router (okT_all hv) hb.out).1
    go_wp2_with fail
    refine (tvalid_any ⟨R, L, pR, cR, pL, cL⟩ _ w1 (HB.out.2.2.keep HG.out)).mono ?_
    rintro e w2 ⟨rfl, hg⟩
    simp only
    rw [hv]
    have HG2 := Lib.hid (grown_trans HG.out hg)
    clear hg hv
    go_wp2_with fail
    go_ret
    exact ⟨rfl, grown_trans HB.out.2.1 HG2.out⟩
set_option maxRecDepth 100000 in
set_option maxHeartbeats 1600000 in
theorem tcap_any (T : Tg) (x : Int) (q : Nat → Prop) (w : World) (hT : TgOk w q T) (h1 : T.R.length ≤ 1000000) :
    Calls Tryd.prog 65 #[.agg #[.slice T.pR T.R.length T.cR, .slice T.pL T.L.length T.cL], .int .i64 x] w fun e w' => e = .returned (.bool (capV T.R T.L x)) ∧ w.grownBy w' none := by
  obtain ⟨R, L, pR, cR, pL, cL⟩ := T
  simp only at h1 ⊢
  obtain ⟨k1, k2⟩ := tone_box w #[.slice pR R.length cR, .slice pL L.length cL] 61
  have HB := Lib.hid (And.intro k1 (And.intro k2 (hT.keep k2)))
  clear k1 k2 hT
  obtain ⟨z, hz⟩ : ∃ z, capV R L x = z := ⟨_, rfl⟩
  rw [hz]
  have HZ := Lib.hid hz
  clear hz
  go_enter Tryd.func65, Tryd.ntmps65
  go_upto_region 1 with fail
  generalize w.alloc _ = wa at *
  obtain ⟨c0, c1⟩ := row_cells HB.out.1
  go_wp2_with fail
  refine (trat_any ⟨R, L, pR, cR, pL, cL⟩ x _ wa HB.out.2.2 h1).mono ?_
  rintro e w1 ⟨i, b, rfl, hb, hg⟩
  have HG := Lib.hid hg
  clear hg c0 c1
  obtain ⟨c0, c1⟩ := row_cells (kept_row HB.out.1 HG.out (by simp))
  cases hv : okT R L
  · obtain rfl : false = z := by have := HZ.out; unfold capV at this; rw [hv] at this; simpa using this
    go_wp2_with fail
    refine (tvalid_any ⟨R, L, pR, cR, pL, cL⟩ _ w1 (HB.out.2.2.keep HG.out)).mono ?_
    rintro e w2 ⟨rfl, hg⟩
    simp only
    rw [hv]
    have HG2 := Lib.hid (grown_trans HG.out hg)
    clear hg hv
    go_wp2_with fail
    go_ret
    exact ⟨rfl, grown_trans HB.out.2.1 HG2.out⟩
  · have hbr := bs_router (okT_all hv) hb.out
    cases b
    · obtain rfl : false = z := by have := HZ.out; unfold capV at this; rw [hv, capR_has hbr.1.symm] at this; simpa using this
      clear hbr
      go_wp2_with fail
      refine (tvalid_any ⟨R, L, pR, cR, pL, cL⟩ _ w1 (HB.out.2.2.keep HG.out)).mono ?_
      rintro e w2 ⟨rfl, hg⟩
      simp only
      rw [hv]
      have HG2 := Lib.hid (grown_trans HG.out hg)
      clear hg hv
      go_wp2_with fail
      go_ret
      exact ⟨rfl, grown_trans HB.out.2.1 HG2.out⟩
    · obtain ⟨r, hr, -, hcap⟩ := hbr.2 rfl
      obtain rfl : r.cap = z := by have := HZ.out; unfold capV at this; rw [hv] at this; rw [hcap]; simpa using this
      have hlt := (List.getElem?_eq_some_iff.1 hr).1
      have HR := Lib.hid hr
      clear hbr hr hcap
      go_wp2_with fail
      refine (tvalid_any ⟨R, L, pR, cR, pL, cL⟩ _ w1 (HB.out.2.2.keep HG.out)).mono ?_
      rintro e w2 ⟨rfl, hg⟩
      simp only
      rw [hv]
      have HG2 := Lib.hid (grown_trans HG.out hg)
      clear hg hv c0 c1
      obtain ⟨c0, c1⟩ := row_cells (kept_row HB.out.1 HG2.out (by simp))
      obtain ⟨-, bb, off, rfl, -, hc⟩ := rdr_cells (R := R) (HB.out.2.2.keep HG2.out).r (by omega)
      obtain ⟨a0, a1⟩ := hc i r HR.out
      have i0 : (0 : Int) ≤ (i : Int) := by omega
      have i1 : (i : Int) < (R.length : Int) := by omega
      clear hc
      go_wp2_with fail
      go_ret
      exact ⟨rfl, grown_trans HB.out.2.1 HG2.out⟩
end Go.Proofs.YtpoocenooomghaaDoor

/- advert.Of: slices.Clone of claims; what Of returns; what memory holds meanwhile. -/
namespace Go.Proofs.YtpoocenooomghaaDoor
open Go.RowKit Bs
set_option maxRecDepth 100000 in
set_option maxHeartbeats 1600000 in
theorem aclone_any (C : List T3) (p : Option Addr) (c : Nat) (q : Nat → Prop) (w : World) (hR : Rd3 w q (.slice p C.length c) C) (hn : p = none → c = 0) (hc : C.length ≤ c ∧ c ≤ 9223372036854775807) (hm : C.length ≤ 1000) :
    Calls Tryd.prog 67 #[.slice p C.length c] w fun e w' => ∃ v, e = .returned v ∧ w'.ownsRow w.heap.size 73 3 v C.length (C.flatMap t3C) ∧ w.grownBy w' none := by
  obtain ⟨ii, hii, hi0, hi1, hi2⟩ := info_parts info_cm
  cases p with
  | none =>
    obtain rfl := hn rfl
    have h0 : C.length = 0 := by omega
    obtain rfl := List.eq_nil_of_length_eq_zero h0
    clear hR
    have heq : ∀ w : World, (binOp .eql 24 (.slice none 0 0) (.slice none 0 0)).run Tryd.prog w = .ok (.bool true) w := fun w => Lib.run_eql_slice_nil w _ _ none 0 0 0 0 Tryd.underlying24
    go_enter Tryd.func67, Tryd.ntmps67
    go_wp2_with fail
    go_ret
    exact ⟨_, rfl, World.ownsRow_nil _ _ _ _, grown_refl _ _⟩
  | some ad =>
    have k0 := World.grownBy_alloc w (.cells #[] 73) none
    have hlit : (w.alloc (.cells #[] 73)).ownsRow w.heap.size 73 3 (.slice (some ⟨w.heap.size, 0, none⟩) 0 0) 0 (([] : List T3).flatMap t3C) := World.ownsRow_lit w #[] 0 (Nat.le_refl _) (by decide) rfl
    have HL := Lib.hid (And.intro hlit (And.intro k0 (hR.keep k0)))
    clear hlit k0 hR
    have heq : ∀ w : World, (binOp .eql 24 (.slice (some ad) C.length c) (.slice none 0 0)).run Tryd.prog w = .ok (.bool false) w := fun w => Lib.run_eql_slice_nil w _ _ (some ad) C.length c 0 0 Tryd.underlying24
    go_enter Tryd.func67, Tryd.ntmps67
    go_wp2_with (at_builtin; refine hold_on ?_)
    refine Lib.hid ?_
    refine wpList_append_f t3C 3 24 (by decide) (fun _ => rfl) t3_one 73 24 ii _ Tryd.underlying24 hii hi0 hi1 hi2 rfl (by decide) rfl _ _ rfl w.heap.size _ [] 0 rfl rfl HL.out.1 _ _ _ C rfl rfl (fun h => by cases h) q HL.out.2.2 hc.1 (by omega) (by simp) ?_
    intro v' w1 hown hg
    rw [List.nil_append] at hown
    have HO := Lib.hid (And.intro hown (old_grow HL.out.2.1 HL.out.1 (Nat.le_refl _) hg))
    clear hown hg
    go_wp2_with fail
    go_ret
    exact ⟨v', rfl, HO.out.1, HO.out.2⟩
def zA5 : Array Value := #[.int .i64 0, .int .i64 0, .bool false, .slice none 0 0, .slice none 0 0]
/-- The advert that Of makes, its lists nowhere. -/
def ofA (R : List Rt) (L : List Lk) (x s : Int) (C : List T3) : Ad := ⟨x, s, capV R L x, reL L x, C, none, 0, none, 0⟩
/-- The error of Of. -/
def ofE (R : List Rt) (L : List Lk) (x s : Int) (C : List T3) : Int := if chk R L ≠ 0 then 1 else if hasV R L x = false then 4 else if vAd (ofA R L x s C) = false then 2 else 0
def zAo : Ad := ⟨0, 0, false, [], [], none, 0, none, 0⟩
set_option maxRecDepth 100000 in
theorem zAo_ok (w : World) (q : Nat → Prop) : AdOk w q zAo := ⟨⟨none, 0, rfl, fun h => absurd rfl h⟩, ⟨none, 0, rfl, fun h => absurd rfl h⟩, ⟨Nat.le_refl _, by show (0 : Nat) ≤ _; omega⟩, ⟨Nat.le_refl _, by show (0 : Nat) ≤ _; omega⟩⟩
/-- What Of returns. -/
def OfPost (R : List Rt) (L : List Lk) (x s : Int) (C : List T3) (w : World) (e : Ending) (w' : World) : Prop :=
  ∃ X : Ad, e = .returned (.tuple #[X.val, .int .i64 (ofE R L x s C)]) ∧ (∃ q, AdOk w' q X) ∧ w.grownBy w' none ∧ (ofE R L x s C = 0 → smA X (ofA R L x s C)) ∧ (ofE R L x s C ≠ 0 → X = zAo)
set_option maxRecDepth 100000 in
theorem of_sm {R : List Rt} {L : List Lk} {x s : Int} {C : List T3} {X Y : Ad} (h1 : ofE R L x s C = 0 → smA X (ofA R L x s C)) (h2 : ofE R L x s C ≠ 0 → X = zAo) (h3 : ofE R L x s C = 0 → smA Y (ofA R L x s C)) (h4 : ofE R L x s C ≠ 0 → Y = zAo) : cmpA X Y = 0 := by
  refine cmpA_zero.2 ?_
  by_cases h : ofE R L x s C = 0
  · obtain ⟨a1, a2, a3, a4, a5⟩ := h1 h
    obtain ⟨b1, b2, b3, b4, b5⟩ := h3 h
    exact ⟨a1.trans b1.symm, a2.trans b2.symm, a3.trans b3.symm, a4.trans b4.symm, a5.trans b5.symm⟩
  · rw [h2 h, h4 h]; exact ⟨rfl, rfl, rfl, rfl, rfl⟩
set_option maxRecDepth 100000 in
theorem rdfO {w : World} {q : Nat → Prop} {v : Value} {n : Nat} {xs : List Value} (h : RdF w q v n xs) : RdF w (· < w.heap.size) v n xs := rdfA_old h
/-- While Of works: the topology's box, the result's box. -/
structure OF (W : World) (T : Tg) (C : List T3) (pC : Option Addr) (cC : Nat) (wr : World) : Prop where
  tb : wr.heap[W.heap.size]? = some (.cells #[.slice T.pR T.R.length T.cR, .slice T.pL T.L.length T.cL] 61 (0, 0))
  rb : wr.heap[W.heap.size + 1]? = some (.cells #[.int .i64 0, .int .i64 0, .bool false, .slice none 0 0, .slice none 0 0] 26 (0, 0))
  t : TgOk wr (· < W.heap.size) T
  c : Rd3 wr (· < W.heap.size) (.slice pC C.length cC) C
  gr : W.grownBy wr none
section
variable {W w w1 : World} {T : Tg} {C : List T3} {pC : Option Addr} {cC : Nat}
set_option maxRecDepth 100000 in
theorem OF.keep (h : OF W T C pC cC w) (g : w.grownBy w1 none) : OF W T C pC cC w1 := ⟨kept_row h.tb g (by simp), kept_row h.rb g (by simp), h.t.keep g, h.c.grown g (fun _ _ => by simp), grown_trans h.gr g⟩
set_option maxRecDepth 100000 in
theorem OF.new (h : OF W T C pC cC w) {b : Nat} (g : w.grownBy w1 (some b)) (hb : W.heap.size + 1 < b) : OF W T C pC cC w1 :=
  ⟨kept_row h.tb g (fun e => by have := Option.some.inj e; omega), kept_row h.rb g (fun e => by have := Option.some.inj e; omega), h.t.grown g (fun x hx e => by have := Option.some.inj e; omega), h.c.grown g (fun x hx e => by have := Option.some.inj e; omega), grown_new h.gr g (by omega)⟩
set_option maxRecDepth 100000 in
theorem OF.start (T : Tg) (q q2 : Nat → Prop) (hT : TgOk w q T) (hC : Rd3 w q2 (.slice pC C.length cC) C) :
    OF w T C pC cC ((w.alloc (.cells #[.slice T.pR T.R.length T.cR, .slice T.pL T.L.length T.cL] 61)).alloc (.cells #[.int .i64 0, .int .i64 0, .bool false, .slice none 0 0, .slice none 0 0] 26)) := by
  obtain ⟨k1, k2, k3, k4⟩ := two_boxes w #[.slice T.pR T.R.length T.cR, .slice T.pL T.L.length T.cL] #[.int .i64 0, .int .i64 0, .bool false, .slice none 0 0, .slice none 0 0] 61 26
  exact ⟨k1, k2, hT.old.keep k3, (rdfO hC).grown k3 (fun _ _ => by simp), k3⟩
set_option maxRecDepth 100000 in
theorem OF.facts (h : OF W T C pC cC w) : w.cell? ⟨W.heap.size, 0, none⟩ = some (.slice T.pR T.R.length T.cR) ∧ w.cell? ⟨W.heap.size, 1, none⟩ = some (.slice T.pL T.L.length T.cL) := row_cells h.tb
/-- A box for an advert has come. -/
structure NB (W : World) (B : Nat) (w : World) : Prop where
  ab : w.heap[B]? = some (.cells #[.int .i64 0, .int .i64 0, .bool false, .slice none 0 0, .slice none 0 0] 26 (0, 0))
  lt : W.heap.size + 1 < B
set_option maxRecDepth 100000 in
theorem NB.keep {B : Nat} (h : NB W B w) (g : w.grownBy w1 none) : NB W B w1 := ⟨kept_row h.ab g (by simp), h.lt⟩
set_option maxRecDepth 100000 in
theorem OF.nb (h : OF W T C pC cC w) : ∀ b, b = w.heap.size → NB W b (w.alloc (.cells #[.int .i64 0, .int .i64 0, .bool false, .slice none 0 0, .slice none 0 0] 26)) := by
  rintro b rfl
  exact ⟨heap_alloc_new w _, World.lt_of_row' h.rb⟩
/-- The advert is made: its box. -/
structure OG (W : World) (T : Tg) (C : List T3) (pC : Option Addr) (cC : Nat) (B : Nat) (X : Ad) (w : World) : Prop where
  o : OF W T C pC cC w
  ab : w.heap[B]? = some (.cells (adC X) 26 (0, 0))
  ok : AdOk w (· ≠ W.heap.size + 1) X
  lt : W.heap.size + 1 < B
set_option maxRecDepth 100000 in
theorem OG.keep {B : Nat} {X : Ad} (h : OG W T C pC cC B X w) (g : w.grownBy w1 none) : OG W T C pC cC B X w1 := ⟨h.o.keep g, kept_row h.ab g (by simp), h.ok.keep g, h.lt⟩
set_option maxRecDepth 100000 in
theorem rd_offA {w : World} {q : Nat → Prop} {v : Value} {M : List T3} {B : Nat} {x0 x1 : Int} {b : Bool} {x3 x4 : Value} {t : TypeId} (hR : Rd3 w q v M) (hB : w.heap[B]? = some (.cells #[.int .i64 x0, .int .i64 x1, .bool b, x3, x4] t (0, 0))) : Rd3 w (fun k => q k ∧ k ≠ B) v M := by
  obtain ⟨p, c, hv, hc⟩ := hR
  refine ⟨p, c, hv, fun hne => ?_⟩
  obtain ⟨b', off, hp, hb, hx⟩ := hc hne
  refine ⟨b', off, hp, ⟨hb, ?_⟩, hx⟩
  rintro rfl
  cases M with
  | nil => exact absurd rfl hne
  | cons z M =>
    have hcell : ∀ o, w.cell? ⟨b', o, none⟩ = (#[.int .i64 x0, .int .i64 x1, .bool b, x3, x4] : Array Value)[o]? := fun o => cell_of_row _ _ _ _ _ _ hB
    have h0 := hx 0 (.int .i64 z.a) rfl
    have h1 := hx 1 (.int .i64 z.b) rfl
    have h2 := hx 2 (.int .i64 z.c) rfl
    rw [hcell] at h0 h1 h2
    rcases (show off = 0 ∨ off = 1 ∨ off = 2 ∨ 3 ≤ off by omega) with rfl | rfl | rfl | h3
    · simp at h2
    · simp at h1
    · simp at h0
    · rw [Array.getElem?_eq_none (by simp; omega)] at h2; cases h2
set_option maxRecDepth 100000 in
theorem og_put {B : Nat} {X : Ad} {pX pY : Option Addr} {cX cY : Nat} {M N : List T3} (h : OF W T C pC cC w) (hb : NB W B w) (hM : Rd3 w (W.heap.size + 1 < ·) (.slice pX M.length cX) M) (hN : Rd3 w (W.heap.size + 1 < ·) (.slice pY N.length cY) N) (hl : M.length ≤ cX ∧ cX ≤ 9223372036854775807) (hc : N.length ≤ cY ∧ cY ≤ 9223372036854775807) (r q : Int) (cp : Bool)
    (hx : X = ⟨r, q, cp, M, N, pX, cX, pY, cY⟩) :
    OG W T C pC cC B X (((((w.setCell ⟨B, 0, none⟩ (.int .i64 r)).setCell ⟨B, 1, none⟩ (.int .i64 q)).setCell ⟨B, 2, none⟩ (.bool cp)).setCell ⟨B, 3, none⟩ (.slice pX M.length cX)).setCell ⟨B, 4, none⟩ (.slice pY N.length cY)) := by
  subst hx
  obtain ⟨t1, t2⟩ := store5 (.int .i64 r) (.int .i64 q) (.bool cp) (.slice pX M.length cX) (.slice pY N.length cY) hb.ab
  refine ⟨h.new t2 hb.lt, t1, ?_, hb.lt⟩
  exact ⟨(rd_offA hM hb.ab).grown t2 (fun b hx e => hx.2 (Option.some.inj e)) |>.mono (fun b hx => by omega), (rd_offA hN hb.ab).grown t2 (fun b hx e => hx.2 (Option.some.inj e)) |>.mono (fun b hx => by omega), hl, hc⟩
set_option maxRecDepth 100000 in
theorem og_new {X : Ad} {pX pY : Option Addr} {cX cY : Nat} {M N : List T3} (h : OF W T C pC cC w) (hM : Rd3 w (W.heap.size + 1 < ·) (.slice pX M.length cX) M) (hN : Rd3 w (W.heap.size + 1 < ·) (.slice pY N.length cY) N) (hl : M.length ≤ cX ∧ cX ≤ 9223372036854775807) (hc : N.length ≤ cY ∧ cY ≤ 9223372036854775807) (r q : Int) (cp : Bool)
    (hx : X = ⟨r, q, cp, M, N, pX, cX, pY, cY⟩) :
    OG W T C pC cC w.heap.size X (w.alloc (.cells #[.int .i64 r, .int .i64 q, .bool cp, .slice pX M.length cX, .slice pY N.length cY] 26)) := by
  subst hx
  have g := World.grownBy_alloc w (.cells #[.int .i64 r, .int .i64 q, .bool cp, .slice pX M.length cX, .slice pY N.length cY] 26) none
  exact ⟨h.keep g, heap_alloc_new w _, ⟨(hM.grown g (fun _ _ => by simp)).mono (fun b hb => by omega), (hN.grown g (fun _ _ => by simp)).mono (fun b hb => by omega), hl, hc⟩, World.lt_of_row' h.rb⟩
end
set_option maxRecDepth 100000 in
theorem vAd_sm2 {A B : Ad} (h : smA A B) : vAd A = vAd B := by
  obtain ⟨h1, h2, h3, h4, h5⟩ := h
  unfold vAd vHd
  rw [h1, h2, h4, h5]
end Go.Proofs.YtpoocenooomghaaDoor

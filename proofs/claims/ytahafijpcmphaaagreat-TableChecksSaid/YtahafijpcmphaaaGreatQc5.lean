/- Parts of the proof, packed: ToLook, ToCln, ToDel, ShMath, ShDij, ShNear, ShMap, ToHasF, ToWiW. -/
import Derived.Test.YtahafijpcmphaaaGreatQc4
import Derived.Lib.SliceRun
import Derived.Test.YtahafijpcmphaaaGreatQc1
import Derived.Test.YtahafijpcmphaaaGreatQc3
import Derived.Test.YtahafijpcmphaaaGreatQc2
import Derived.Maps.OwnSet
import Derived.Maps.OwnOps
import Derived.Lib.SlKeysI
import Derived.BigQuiet
/- topology: routerAt, linkAt, Has, Capable, Cost, Neighbours. -/
namespace Go.Proofs.YtahafijpcmphaaaGreat
set_option maxRecDepth 100000
open Go.RowKit Bs
set_option maxHeartbeats 1600000 in
theorem trat_any (T : Tg) (x : Int) (q : Nat → Prop) (w : World) (hT : TgOk w q T) (h1 : T.R.length ≤ 1000000) :
  Calls Tryz.prog 104 #[.agg #[.slice T.pR T.R.length T.cR, .slice T.pL T.L.length T.cL], .int .i64 x] w fun e w' => BsPost cvR T.R ⟨x, false⟩ w e w' := by
 obtain ⟨R, L, pR, cR, pL, cL⟩ := T
 simp only at h1 ⊢
 obtain ⟨k1, k2⟩ := tone_box w #[.slice pR R.length cR, .slice pL L.length cL] 45
 have HB := Lib.hid (And.intro k1 (And.intro k2 (hT.keep k2)))
 clear k1 k2 hT
 go_enter Tryz.func104, Tryz.ntmps104
 go_upto_region 1 with fail
 generalize w.alloc _ = wa at *
 obtain ⟨c0, c1⟩ := row_cells HB.out.1
 go_wp2_with fail
 refine (bsR_any R ⟨x, false⟩ pR cR _ wa HB.out.2.2.r h1).mono ?_
 rintro e w1 ⟨i, b, rfl, hb, hg⟩
 have HG := Lib.hid hg
 clear hg
 go_wp2_with fail
 go_ret2
 exact ⟨i, b, rfl, hb, grown_trans HB.out.2.1 HG.out⟩
def hasV (R : List Rt) (L : List Lk) (x : Int) : Bool := okT R L && hasR R x
def capV (R : List Rt) (L : List Lk) (x : Int) : Bool := okT R L && capR R x
theorem capR_has {R : List Rt} {x : Int} (h : hasR R x = false) : capR R x = false := by
 unfold capR
 cases hf : R.find? (fun r => decide (r.id = x)) with
 | none => rfl
 | some r =>
  have h2 := List.find?_some hf
  have : hasR R x = true := List.any_eq_true.2 ⟨r, List.mem_of_find?_eq_some hf, h2⟩
  rw [h] at this; cases this
theorem okT_all {R : List Rt} {L : List Lk} (h : okT R L = true) : OkAll R L := chk_okAll (by unfold okT at h; simpa using h)
set_option maxHeartbeats 1600000 in
theorem thas_any (T : Tg) (x : Int) (q : Nat → Prop) (w : World) (hT : TgOk w q T) (h1 : T.R.length ≤ 1000000) :
  Calls Tryz.prog 84 #[.agg #[.slice T.pR T.R.length T.cR, .slice T.pL T.L.length T.cL], .int .i64 x] w fun e w' => e = .returned (.bool (hasV T.R T.L x)) ∧ w.grownBy w' none := by
 obtain ⟨R, L, pR, cR, pL, cL⟩ := T
 simp only at h1 ⊢
 obtain ⟨k1, k2⟩ := tone_box w #[.slice pR R.length cR, .slice pL L.length cL] 45
 have HB := Lib.hid (And.intro k1 (And.intro k2 (hT.keep k2)))
 clear k1 k2 hT
 obtain ⟨z, hz⟩ : ∃ z, hasV R L x = z := ⟨_, rfl⟩
 rw [hz]
 have HZ := Lib.hid hz
 clear hz
 go_enter Tryz.func84, Tryz.ntmps84
 go_upto_region 1 with fail
 generalize w.alloc _ = wa at *
 obtain ⟨c0, c1⟩ := row_cells HB.out.1
 go_wp2_with fail
 refine (trat_any ⟨R, L, pR, cR, pL, cL⟩ x _ wa HB.out.2.2 h1).mono ?_
 rintro e w1 ⟨i, b, rfl, hb, hg⟩
 have HG := Lib.hid hg
 clear hg c0 c1
 obtain ⟨c0, c1⟩ := row_cells (kept_row HB.out.1 HG.out (by simp))
 cases hv : okT R L
 ·obtain rfl : false = z := by have := HZ.out; unfold hasV at this; rw [hv] at this; simpa using this
  go_wp2_with fail
  refine (tvalid_any ⟨R, L, pR, cR, pL, cL⟩ _ w1 (HB.out.2.2.keep HG.out)).mono ?_
  rintro e w2 ⟨rfl, hg⟩
  simp only
  rw [hv]
  have HG2 := Lib.hid (grown_trans HG.out hg)
  clear hg hv
  go_wp2_with fail
  go_ret
  exact ⟨rfl, grown_trans HB.out.2.1 HG2.out⟩
 ·obtain rfl : b = z := by have := HZ.out; unfold hasV at this; rw [hv] at this; rw [← this]; exact (bs_router (okT_all hv) hb.out).1
  go_wp2_with fail
  refine (tvalid_any ⟨R, L, pR, cR, pL, cL⟩ _ w1 (HB.out.2.2.keep HG.out)).mono ?_
  rintro e w2 ⟨rfl, hg⟩
  simp only
  rw [hv]
  have HG2 := Lib.hid (grown_trans HG.out hg)
  clear hg hv
  go_wp2_with fail
  go_ret
  exact ⟨rfl, grown_trans HB.out.2.1 HG2.out⟩
set_option maxHeartbeats 1600000 in
theorem tcap_any (T : Tg) (x : Int) (q : Nat → Prop) (w : World) (hT : TgOk w q T) (h1 : T.R.length ≤ 1000000) :
  Calls Tryz.prog 75 #[.agg #[.slice T.pR T.R.length T.cR, .slice T.pL T.L.length T.cL], .int .i64 x] w fun e w' => e = .returned (.bool (capV T.R T.L x)) ∧ w.grownBy w' none := by
 obtain ⟨R, L, pR, cR, pL, cL⟩ := T
 simp only at h1 ⊢
 obtain ⟨k1, k2⟩ := tone_box w #[.slice pR R.length cR, .slice pL L.length cL] 45
 have HB := Lib.hid (And.intro k1 (And.intro k2 (hT.keep k2)))
 clear k1 k2 hT
 obtain ⟨z, hz⟩ : ∃ z, capV R L x = z := ⟨_, rfl⟩
 rw [hz]
 have HZ := Lib.hid hz
 clear hz
 go_enter Tryz.func75, Tryz.ntmps75
 go_upto_region 1 with fail
 generalize w.alloc _ = wa at *
 obtain ⟨c0, c1⟩ := row_cells HB.out.1
 go_wp2_with fail
 refine (trat_any ⟨R, L, pR, cR, pL, cL⟩ x _ wa HB.out.2.2 h1).mono ?_
 rintro e w1 ⟨i, b, rfl, hb, hg⟩
 have HG := Lib.hid hg
 clear hg c0 c1
 obtain ⟨c0, c1⟩ := row_cells (kept_row HB.out.1 HG.out (by simp))
 cases hv : okT R L
 ·obtain rfl : false = z := by have := HZ.out; unfold capV at this; rw [hv] at this; simpa using this
  go_wp2_with fail
  refine (tvalid_any ⟨R, L, pR, cR, pL, cL⟩ _ w1 (HB.out.2.2.keep HG.out)).mono ?_
  rintro e w2 ⟨rfl, hg⟩
  simp only
  rw [hv]
  have HG2 := Lib.hid (grown_trans HG.out hg)
  clear hg hv
  go_wp2_with fail
  go_ret
  exact ⟨rfl, grown_trans HB.out.2.1 HG2.out⟩
 ·have hbr := bs_router (okT_all hv) hb.out
  cases b
  ·obtain rfl : false = z := by have := HZ.out; unfold capV at this; rw [hv, capR_has hbr.1.symm] at this; simpa using this
   clear hbr
   go_wp2_with fail
   refine (tvalid_any ⟨R, L, pR, cR, pL, cL⟩ _ w1 (HB.out.2.2.keep HG.out)).mono ?_
   rintro e w2 ⟨rfl, hg⟩
   simp only
   rw [hv]
   have HG2 := Lib.hid (grown_trans HG.out hg)
   clear hg hv
   go_wp2_with fail
   go_ret
   exact ⟨rfl, grown_trans HB.out.2.1 HG2.out⟩
  ·obtain ⟨r, hr, -, hcap⟩ := hbr.2 rfl
   obtain rfl : r.cap = z := by have := HZ.out; unfold capV at this; rw [hv] at this; rw [hcap]; simpa using this
   have hlt := (List.getElem?_eq_some_iff.1 hr).1
   have HR := Lib.hid hr
   clear hbr hr hcap
   go_wp2_with fail
   refine (tvalid_any ⟨R, L, pR, cR, pL, cL⟩ _ w1 (HB.out.2.2.keep HG.out)).mono ?_
   rintro e w2 ⟨rfl, hg⟩
   simp only
   rw [hv]
   have HG2 := Lib.hid (grown_trans HG.out hg)
   clear hg hv c0 c1
   obtain ⟨c0, c1⟩ := row_cells (kept_row HB.out.1 HG2.out (by simp))
   obtain ⟨-, bb, off, rfl, -, hc⟩ := rdr_cells (R := R) (HB.out.2.2.keep HG2.out).r (by omega)
   obtain ⟨a0, a1⟩ := hc i r HR.out
   have i0 : (0 : Int) ≤ (i : Int) := by omega
   have i1 : (i : Int) < (R.length : Int) := by omega
   clear hc
   go_wp2_with fail
   go_ret
   exact ⟨rfl, grown_trans HB.out.2.1 HG2.out⟩
end Go.Proofs.YtahafijpcmphaaaGreat

/- slices.Clone of links and of routers; linkOf; what Apply makes (the values). -/
namespace Go.Proofs.YtahafijpcmphaaaGreat
set_option maxRecDepth 100000
open Go.RowKit Bs
theorem info_lk2 : (Tryz.prog.info? 94).map (fun i => (i.zero, i.size, i.bytes)) = some (some (.agg #[.int .i64 0, .int .i64 0, .int .i64 0, .int .i64 0, .int .i64 0]), 5, 40) := by kernel_rfl
set_option maxHeartbeats 1600000 in
theorem tcloneL_any (L : List Lk) (p : Option Addr) (c : Nat) (q : Nat → Prop) (w : World) (hR : RdL5 w q (.slice p L.length c) L) (hn : p = none → c = 0) (hc : L.length ≤ c ∧ c ≤ 9223372036854775807) (hm : L.length ≤ 1000) :
  Calls Tryz.prog 119 #[.slice p L.length c] w fun e w' => ∃ v, e = .returned v ∧ w'.ownsRow w.heap.size 94 5 v L.length (L.flatMap lkC) ∧ w.grownBy w' none := by
 obtain ⟨ii, hii, hi0, hi1, hi2⟩ := info_parts info_lk2
 cases p with
 | none =>
  obtain rfl := hn rfl
  have h0 : L.length = 0 := by omega
  obtain rfl := List.eq_nil_of_length_eq_zero h0
  clear hR
  have heq : ∀ w : World, (binOp .eql 43 (.slice none 0 0) (.slice none 0 0)).run Tryz.prog w = .ok (.bool true) w := fun w => Lib.run_eql_slice_nil w _ _ none 0 0 0 0 Tryz.underlying43
  go_enter Tryz.func119, Tryz.ntmps119
  go_wp2_with fail
  go_ret
  exact ⟨_, rfl, World.ownsRow_nil _ _ _ _, grown_refl _ _⟩
 | some ad =>
  have k0 := World.grownBy_alloc w (.cells #[] 94) none
  have hlit : (w.alloc (.cells #[] 94)).ownsRow w.heap.size 94 5 (.slice (some ⟨w.heap.size, 0, none⟩) 0 0) 0 (([] : List Lk).flatMap lkC) := World.ownsRow_lit w #[] 0 (Nat.le_refl _) (by decide) rfl
  have HL := Lib.hid (And.intro hlit (And.intro k0 (hR.keep k0)))
  clear hlit k0 hR
  have heq : ∀ w : World, (binOp .eql 43 (.slice (some ad) L.length c) (.slice none 0 0)).run Tryz.prog w = .ok (.bool false) w := fun w => Lib.run_eql_slice_nil w _ _ (some ad) L.length c 0 0 Tryz.underlying43
  go_enter Tryz.func119, Tryz.ntmps119
  go_wp2_with (at_builtin; refine hold_on ?_)
  refine Lib.hid ?_
  refine wpList_append_f lkC 5 40 (by decide) (fun _ => rfl) lk_one 94 43 ii _ Tryz.underlying43 hii hi0 hi1 hi2 rfl (by decide) rfl _ _ rfl w.heap.size _ [] 0 rfl rfl HL.out.1 _ _ _ L rfl rfl (fun h => by cases h) q HL.out.2.2 hc.1 (by omega) (by simp) ?_
  intro v' w1 hown hg
  rw [List.nil_append] at hown
  have HO := Lib.hid (And.intro hown (old_grow HL.out.2.1 HL.out.1 (Nat.le_refl _) hg))
  clear hown hg
  go_wp2_with fail
  go_ret
  exact ⟨v', rfl, HO.out.1, HO.out.2⟩
end Go.Proofs.YtahafijpcmphaaaGreat

/- slices.Delete of one link. -/
namespace Go.Proofs.YtahafijpcmphaaaGreat
set_option maxRecDepth 100000
open Go.RowKit Bs
theorem list_eq {xs ys : List Value} (hl : xs.length = ys.length) (h : ∀ j, j < xs.length → xs[j]? = ys[j]?) : xs = ys := by
 apply List.ext_getElem?
 intro j
 by_cases hj : j < xs.length
 ·exact h j hj
 ·rw [List.getElem?_eq_none (by omega), List.getElem?_eq_none (by omega)]
end Go.Proofs.YtahafijpcmphaaaGreat

/- Least costs: walks, what a closed table of costs says, what rounds of relaxing give. -/
namespace Go.Proofs.YtahafijpcmphaaaGreat
set_option maxRecDepth 100000
def edg (L : List Lk) (u v c : Int) : Prop := ∃ l ∈ L, (l.a = u ∧ l.b = v ∧ l.ca = c) ∨ (l.b = u ∧ l.a = v ∧ l.cb = c)
def Wk (L : List Lk) (s v n : Int) : Prop := ∀ P : Int → Int → Prop, P s 0 → (∀ u m v c, P u m → edg L u v c → P v (m + c)) → P v n
theorem Wk.nil (L : List Lk) (s : Int) : Wk L s s 0 := fun _ h _ => h
theorem Wk.step {L : List Lk} {s u m v c : Int} (h : Wk L s u m) (e : edg L u v c) : Wk L s v (m + c) := fun P h0 hs => hs u m v c (h P h0 hs) e
theorem Wk.ind {L : List Lk} {s : Int} {Q : Int → Int → Prop} (h0 : Q s 0) (hs : ∀ u m v c, Wk L s u m → Q u m → edg L u v c → Q v (m + c)) {v n : Int} (h : Wk L s v n) : Q v n :=
 (h (fun v n => Wk L s v n ∧ Q v n) ⟨Wk.nil L s, h0⟩ (fun u m v c hu e => ⟨hu.1.step e, hs u m v c hu.1 hu.2 e⟩)).2
theorem Wk.last {L : List Lk} {s v n : Int} (h : Wk L s v n) : (v = s ∧ n = 0) ∨ ∃ u m c, Wk L s u m ∧ edg L u v c ∧ n = m + c :=
 Wk.ind (Q := fun v n => (v = s ∧ n = 0) ∨ ∃ u m c, Wk L s u m ∧ edg L u v c ∧ n = m + c) (.inl ⟨rfl, rfl⟩) (fun u m _ c hu _ e => .inr ⟨u, m, c, hu, e, rfl⟩) h
def Pos (L : List Lk) : Prop := ∀ l ∈ L, 1 ≤ l.ca ∧ 1 ≤ l.cb
theorem Pos.edg {L : List Lk} (hp : Pos L) {u v c : Int} (e : edg L u v c) : 1 ≤ c := by
 obtain ⟨l, hl, h | h⟩ := e
 ·have := (hp l hl).1; omega
 ·have := (hp l hl).2; omega
theorem Wk.ge {L : List Lk} (hp : Pos L) {s v n : Int} (h : Wk L s v n) : 0 ≤ n :=
 Wk.ind (Q := fun _ n => 0 ≤ n) (Int.le_refl _) (fun u m v c _ h e => by have := hp.edg e; omega) h
def IsD (L : List Lk) (s v d : Int) : Prop := Wk L s v d ∧ ∀ n, Wk L s v n → d ≤ n
theorem IsD.uniq {L : List Lk} {s v d e : Int} (h : IsD L s v d) (k : IsD L s v e) : d = e := by
 have := h.2 e k.1
 have := k.2 d h.1
 omega
theorem exists_D {L : List Lk} (hp : Pos L) {s v : Int} : ∀ (k : Nat) (n : Int), n.toNat ≤ k → Wk L s v n → ∃ d, IsD L s v d ∧ d ≤ n := by
 intro k
 induction k with
 | zero =>
  intro n hn h
  have h0 := h.ge hp
  exact ⟨n, ⟨h, fun m hm => by have := hm.ge hp; omega⟩, Int.le_refl _⟩
 | succ k ih =>
  intro n hn h
  rcases Classical.em (∃ m, Wk L s v m ∧ m < n) with ⟨m, hm, hmn⟩ | h1
  ·have h0 := hm.ge hp
   obtain ⟨d, hd, hdm⟩ := ih m (by omega) hm
   exact ⟨d, hd, by omega⟩
  ·refine ⟨n, ⟨h, fun m hm => ?_⟩, Int.le_refl _⟩
   rcases Int.lt_or_le m n with h2 | h2
   ·exact absurd ⟨m, hm, h2⟩ h1
   ·exact h2
theorem IsD.self {L : List Lk} (hp : Pos L) (s : Int) : IsD L s s 0 := ⟨Wk.nil L s, fun _ h => h.ge hp⟩
theorem IsD.pred {L : List Lk} {s v d : Int} (h : IsD L s v d) : (v = s ∧ d = 0) ∨ ∃ u e c, IsD L s u e ∧ edg L u v c ∧ d = e + c := by
 rcases h.1.last with h1 | ⟨u, m, c, hu, e, rfl⟩
 ·exact .inl h1
 ·refine .inr ⟨u, m, c, ⟨hu, fun n hn => ?_⟩, e, rfl⟩
  have := h.2 _ (hn.step e)
  omega
theorem closed_D {L : List Lk} {s : Int} {f : Int → Option Int} (h0 : f s = some 0) (hw : ∀ v d, f v = some d → Wk L s v d) (hc : ∀ u d v c, f u = some d → edg L u v c → ∃ e, f v = some e ∧ e ≤ d + c) (v d : Int) : f v = some d ↔ IsD L s v d := by
 have low : ∀ {v n}, Wk L s v n → ∃ e, f v = some e ∧ e ≤ n := fun {v n} h =>
  Wk.ind (Q := fun v n => ∃ e, f v = some e ∧ e ≤ n) ⟨0, h0, Int.le_refl _⟩ (fun u m v c _ hq e => by
   obtain ⟨x, hx, hxm⟩ := hq
   obtain ⟨y, hy, hyx⟩ := hc u x v c hx e
   exact ⟨y, hy, by omega⟩) h
 constructor
 ·intro h
  refine ⟨hw v d h, fun n hn => ?_⟩
  obtain ⟨e, he, hen⟩ := low hn
  rw [h] at he
  obtain rfl := Option.some.inj he
  exact hen
 ·intro h
  obtain ⟨e, he, hen⟩ := low h.1
  have := h.2 e (hw v e he)
  rw [he, show e = d by omega]
/-! Relaxing. -/
def farN : Int := 1073741824
def updF (d : Int → Int) (v x : Int) : Int → Int := fun u => if u = v then x else d u
def rlx1 (d : Int → Int) (u v c : Int) : Int → Int := if d u < farN then updF d v (min (d v) (c + d u)) else d
def rlx (d : Int → Int) (l : Lk) : Int → Int := rlx1 (rlx1 d l.b l.a l.cb) l.a l.b l.ca
def pass (L : List Lk) (d : Int → Int) : Int → Int := L.foldl rlx d
def passes (L : List Lk) : Nat → (Int → Int) → Int → Int
 | 0, d => d
 | k + 1, d => pass L (passes L k d)
def startF (s : Int) : Int → Int := fun u => if u = s then 0 else farN
def Snd (L : List Lk) (s : Int) (d : Int → Int) : Prop := ∀ v, d v = farN ∨ (d v < farN ∧ Wk L s v (d v))
theorem snd_rlx1 {L : List Lk} {s u v c : Int} {d : Int → Int} (h : Snd L s d) (e : edg L u v c) : Snd L s (rlx1 d u v c) := by
 unfold rlx1
 by_cases hu : d u < farN
 ·rw [if_pos hu]
  intro x
  unfold updF
  by_cases hx : x = v
  ·subst hx
   rw [if_pos rfl]
   have hwu : Wk L s u (d u) := by
    rcases h u with h1 | h1
    ·omega
    ·exact h1.2
   have hst := hwu.step e
   rcases h x with h1 | h1
   ·rcases Int.lt_or_le (c + d u) farN with h2 | h2
    ·refine .inr ⟨by omega, ?_⟩
     rw [show min (d x) (c + d u) = d u + c by omega]
     exact hst
    ·exact .inl (by omega)
   ·refine .inr ⟨by omega, ?_⟩
    rcases Int.lt_or_le (c + d u) (d x) with h2 | h2
    ·rw [show min (d x) (c + d u) = d u + c by omega]
     exact hst
    ·rw [show min (d x) (c + d u) = d x by omega]
     exact h1.2
  ·rw [if_neg hx]
   exact h x
 ·rw [if_neg hu]
  exact h
theorem le_rlx1 (d : Int → Int) (u v c x : Int) : rlx1 d u v c x ≤ d x := by
 unfold rlx1
 by_cases hu : d u < farN
 ·rw [if_pos hu]
  unfold updF
  by_cases hx : x = v
  ·subst hx
   rw [if_pos rfl]
   omega
  ·rw [if_neg hx]
   omega
 ·rw [if_neg hu]
  omega
theorem le_rlx (d : Int → Int) (l : Lk) (x : Int) : rlx d l x ≤ d x := Int.le_trans (le_rlx1 _ _ _ _ _) (le_rlx1 _ _ _ _ _)
theorem snd_rlx {L : List Lk} {s : Int} {d : Int → Int} (h : Snd L s d) {l : Lk} (hl : l ∈ L) : Snd L s (rlx d l) :=
 snd_rlx1 (snd_rlx1 h ⟨l, hl, .inr ⟨rfl, rfl, rfl⟩⟩) ⟨l, hl, .inl ⟨rfl, rfl, rfl⟩⟩
theorem fold_rlx {L : List Lk} {s : Int} : ∀ (M : List Lk) (d : Int → Int), (∀ l ∈ M, l ∈ L) → Snd L s d → Snd L s (M.foldl rlx d) ∧ ∀ x, M.foldl rlx d x ≤ d x
 | [], d, _, h => ⟨h, fun _ => Int.le_refl _⟩
 | l :: t, d, hm, h => by
  obtain ⟨i1, i2⟩ := fold_rlx t (rlx d l) (fun m hm2 => hm m (by simp [hm2])) (snd_rlx h (hm l (by simp)))
  exact ⟨i1, fun x => Int.le_trans (i2 x) (le_rlx d l x)⟩
theorem snd_pass {L : List Lk} {s : Int} {d : Int → Int} (h : Snd L s d) : Snd L s (pass L d) ∧ ∀ x, pass L d x ≤ d x := fold_rlx L d (fun _ h => h) h
theorem snd_start (L : List Lk) (s : Int) : Snd L s (startF s) := by
 intro v
 unfold startF
 by_cases h : v = s
 ·subst h
  rw [if_pos rfl]
  exact .inr ⟨by decide, Wk.nil L v⟩
 ·rw [if_neg h]
  exact .inl rfl
theorem snd_passes (L : List Lk) (s : Int) : ∀ k, Snd L s (passes L k (startF s))
 | 0 => snd_start L s
 | k + 1 => (snd_pass (snd_passes L s k)).1
theorem Snd.low {L : List Lk} {s v e : Int} {d : Int → Int} (h : Snd L s d) (hD : IsD L s v e) (he : e < farN) : e ≤ d v := by
 rcases h v with h1 | h1
 ·omega
 ·exact hD.2 _ h1.2
theorem Snd.none {L : List Lk} {s v : Int} {d : Int → Int} (h : Snd L s d) (hn : ∀ n, ¬ Wk L s v n) : d v = farN := by
 rcases h v with h1 | h1
 ·exact h1
 ·exact absurd h1.2 (hn _)
theorem rlx1_hit {d : Int → Int} {u v c e : Int} (hu : d u = e) (he : e < farN) : rlx1 d u v c v ≤ e + c := by
 unfold rlx1
 rw [if_pos (by omega)]
 unfold updF
 rw [if_pos rfl]
 omega
theorem fold_hit {L : List Lk} {s u v c e : Int} (hDu : IsD L s u e) (he : e < farN) : ∀ (M : List Lk) (d : Int → Int), (∀ l ∈ M, l ∈ L) → Snd L s d → d u = e → (∃ l ∈ M, (l.a = u ∧ l.b = v ∧ l.ca = c) ∨ (l.b = u ∧ l.a = v ∧ l.cb = c)) → M.foldl rlx d v ≤ e + c
 | [], _, _, _, _, h => by obtain ⟨l, hl, _⟩ := h; cases hl
 | l :: t, d, hm, hs, hd, h => by
  have hl := hm l (by simp)
  have ht : ∀ m ∈ t, m ∈ L := fun m hm2 => hm m (by simp [hm2])
  have hs1 := snd_rlx hs hl
  have h1 : rlx d l u = e := by
   have := le_rlx d l u
   have := hs1.low hDu he
   omega
  obtain ⟨m, hmm, hme⟩ := h
  rcases List.mem_cons.1 hmm with rfl | hmt
  ·refine Int.le_trans ((fold_rlx t (rlx d m) ht hs1).2 v) ?_
   have hs0 : Snd L s (rlx1 d m.b m.a m.cb) := snd_rlx1 hs ⟨m, hl, .inr ⟨rfl, rfl, rfl⟩⟩
   rcases hme with ⟨e1, e2, e3⟩ | ⟨e1, e2, e3⟩
   ·have hu : rlx1 d m.b m.a m.cb u = e := by
     have := le_rlx1 d m.b m.a m.cb u
     have := hs0.low hDu he
     omega
    unfold rlx
    rw [← e3, ← e2]
    exact rlx1_hit (by rw [← e1] at hu; exact hu) he
   ·refine Int.le_trans (le_rlx1 _ _ _ _ _) ?_
    rw [← e3, ← e2]
    exact rlx1_hit (by rw [e1]; exact hd) he
  ·exact fold_hit hDu he t _ ht hs1 h1 ⟨m, hmt, hme⟩
open Classical in
noncomputable def rnk (L : List Lk) (s : Int) (V : List Int) (e : Int) : Nat := (V.filter (fun u => decide (∃ x, IsD L s u x ∧ x < e))).length
open Classical in
theorem rnk_lt {L : List Lk} {s : Int} {V : List Int} {u e d : Int} (hu : u ∈ V) (hD : IsD L s u e) (h : e < d) : rnk L s V e < rnk L s V d := by
 unfold rnk
 have hsub : ∀ (W : List Int), u ∈ W → (W.filter (fun u => decide (∃ x, IsD L s u x ∧ x < e))).length < (W.filter (fun u => decide (∃ x, IsD L s u x ∧ x < d))).length := by
  have hle : ∀ (W : List Int), (W.filter (fun u => decide (∃ x, IsD L s u x ∧ x < e))).length ≤ (W.filter (fun u => decide (∃ x, IsD L s u x ∧ x < d))).length := by
   intro W
   induction W with
   | nil => exact Nat.le_refl _
   | cons a t ih =>
    rw [List.filter_cons, List.filter_cons]
    by_cases h1 : ∃ x, IsD L s a x ∧ x < e
    ·obtain ⟨x, hx, hxe⟩ := h1
     rw [if_pos (decide_eq_true ⟨x, hx, hxe⟩), if_pos (decide_eq_true ⟨x, hx, by omega⟩), List.length_cons, List.length_cons]
     omega
    ·rw [if_neg (by simpa using h1)]
     by_cases h2 : ∃ x, IsD L s a x ∧ x < d
     ·rw [if_pos (decide_eq_true h2), List.length_cons]; omega
     ·rw [if_neg (by simpa using h2)]; exact ih
  intro W
  induction W with
  | nil => intro h; cases h
  | cons a t ih =>
   intro hm
   rw [List.filter_cons, List.filter_cons]
   by_cases ha : a = u
   ·subst ha
    have h1 : ¬ ∃ x, IsD L s a x ∧ x < e := fun ⟨x, hx, hxe⟩ => by have := hx.uniq hD; omega
    rw [if_neg (by simpa using h1), if_pos (decide_eq_true ⟨e, hD, h⟩), List.length_cons]
    have := hle t
    omega
   ·have hm2 : u ∈ t := by
     rcases List.mem_cons.1 hm with h1 | h1
     ·exact absurd h1.symm ha
     ·exact h1
    have i1 := ih hm2
    by_cases h1 : ∃ x, IsD L s a x ∧ x < e
    ·obtain ⟨x, hx, hxe⟩ := h1
     rw [if_pos (decide_eq_true ⟨x, hx, hxe⟩), if_pos (decide_eq_true ⟨x, hx, by omega⟩), List.length_cons, List.length_cons]
     omega
    ·rw [if_neg (by simpa using h1)]
     by_cases h2 : ∃ x, IsD L s a x ∧ x < d
     ·rw [if_pos (decide_eq_true h2), List.length_cons]; omega
     ·rw [if_neg (by simpa using h2)]; exact i1
 exact hsub V hu
def Ends (L : List Lk) (V : List Int) : Prop := ∀ l ∈ L, l.a ∈ V ∧ l.b ∈ V
theorem Ends.edg {L : List Lk} {V : List Int} (h : Ends L V) {u v c : Int} (e : edg L u v c) : u ∈ V ∧ v ∈ V := by
 obtain ⟨l, hl, ⟨rfl, rfl, -⟩ | ⟨rfl, rfl, -⟩⟩ := e
 ·exact h l hl
 ·exact ⟨(h l hl).2, (h l hl).1⟩
theorem D_le {L : List Lk} (hp : Pos L) {V : List Int} (hV : Ends L V) {C : Int} (hC : ∀ l ∈ L, l.ca ≤ C ∧ l.cb ≤ C) (h0 : 0 ≤ C) {s : Int} : ∀ (k : Nat) (v e : Int), IsD L s v e → rnk L s V e ≤ k → e ≤ C * k := by
 intro k
 induction k with
 | zero =>
  intro v e hD hr
  rcases hD.pred with ⟨-, rfl⟩ | ⟨u, x, c, hu, he, rfl⟩
  ·simp
  ·have := rnk_lt (hV.edg he).1 hu (show x < x + c by have := hp.edg he; omega)
   omega
 | succ k ih =>
  intro v e hD hr
  rcases hD.pred with ⟨-, rfl⟩ | ⟨u, x, c, hu, he, rfl⟩
  ·exact Int.mul_nonneg h0 (by omega)
  ·have h1 := rnk_lt (hV.edg he).1 hu (show x < x + c by have := hp.edg he; omega)
   have h2 := ih u x hu (by omega)
   have h3 : c ≤ C := by
    obtain ⟨l, hl, ⟨-, -, rfl⟩ | ⟨-, -, rfl⟩⟩ := he
    ·exact (hC l hl).1
    ·exact (hC l hl).2
   rw [show C * ((k + 1 : Nat) : Int) = C * (k : Int) + C by rw [Int.natCast_succ, Int.mul_add, Int.mul_one]]
   omega
theorem passes_hit {L : List Lk} (hp : Pos L) {V : List Int} (hV : Ends L V) {s : Int} : ∀ (k : Nat) (v e : Int), IsD L s v e → e < farN → rnk L s V e ≤ k → passes L k (startF s) v = e := by
 intro k
 induction k with
 | zero =>
  intro v e hD he hr
  rcases hD.pred with ⟨rfl, rfl⟩ | ⟨u, x, c, hu, hc, rfl⟩
  ·show startF v v = 0
   unfold startF
   rw [if_pos rfl]
  ·have := rnk_lt (hV.edg hc).1 hu (show x < x + c by have := hp.edg hc; omega)
   omega
 | succ k ih =>
  intro v e hD he hr
  have hs := snd_passes L s k
  have hlow := (snd_passes L s (k + 1)).low hD he
  have hup := (snd_pass hs).2 v
  show pass L (passes L k (startF s)) v = e
  have hlow' : e ≤ pass L (passes L k (startF s)) v := hlow
  rcases hD.pred with ⟨rfl, rfl⟩ | ⟨u, x, c, hu, hc, rfl⟩
  ·have := ih v 0 hD he (by
    have : rnk L v V 0 = 0 := by
     unfold rnk
     rw [List.filter_eq_nil_iff.2]
     ·rfl
     ·intro a _
      have : ¬ ∃ y, IsD L v a y ∧ y < 0 := fun ⟨y, hy, hy0⟩ => by have := hy.1.ge hp; omega
      simpa using this
    omega)
   omega
  ·have hcp := hp.edg hc
   have hx0 := hu.1.ge hp
   have h1 := rnk_lt (hV.edg hc).1 hu (show x < x + c by omega)
   have h2 := ih u x hu (by omega) (by omega)
   have h3 := fold_hit (v := v) (c := c) hu (by omega) L (passes L k (startF s)) (fun _ h => h) hs h2 hc
   have h4 : pass L (passes L k (startF s)) v ≤ x + c := h3
   omega
theorem passes_D {L : List Lk} (hp : Pos L) {V : List Int} (hV : Ends L V) {C : Int} (hC : ∀ l ∈ L, l.ca ≤ C ∧ l.cb ≤ C) (h0 : 0 ≤ C) (hsm : C * (V.length : Int) < farN) {s : Int} (v e : Int) : (passes L V.length (startF s) v = e ∧ e < farN) ↔ IsD L s v e := by
 have hle : ∀ e, rnk L s V e ≤ V.length := fun e => by
  unfold rnk
  exact List.length_filter_le _ _
 have hsmall : ∀ v e, IsD L s v e → e < farN := fun v e hD => by
  have := D_le hp hV hC h0 V.length v e hD (hle e)
  omega
 constructor
 ·rintro ⟨rfl, h2⟩
  rcases snd_passes L s V.length v with h3 | h3
  ·omega
  ·obtain ⟨d, hd, -⟩ := exists_D hp _ _ (Nat.le_refl _) h3.2
   rw [passes_hit hp hV V.length v d hd (hsmall v d hd) (hle d)]
   exact hd
 ·intro hD
  exact ⟨passes_hit hp hV V.length v e hD (hsmall v e hD) (hle e), hsmall v e hD⟩
end Go.Proofs.YtahafijpcmphaaaGreat

/- The program's way to the least costs: the nearest open router first. -/
namespace Go.Proofs.YtahafijpcmphaaaGreat
set_option maxRecDepth 100000
def nbD (L : List Lk) (r : Int) : List (Int × Int) := L.flatMap fun l => (if l.b = r then [(l.a, l.cb)] else []) ++ (if l.a = r then [(l.b, l.ca)] else [])
theorem nbD_mem {L : List Lk} {r v c : Int} : (v, c) ∈ nbD L r ↔ edg L r v c := by
 unfold nbD edg
 rw [List.mem_flatMap]
 constructor
 ·rintro ⟨l, hl, h⟩
  refine ⟨l, hl, ?_⟩
  rcases List.mem_append.1 h with h1 | h1
  ·by_cases e : l.b = r
   ·rw [if_pos e] at h1
    have := List.mem_singleton.1 h1
    injection this with e1 e2
    exact .inr ⟨e, e1.symm, e2.symm⟩
   ·rw [if_neg e] at h1; cases h1
  ·by_cases e : l.a = r
   ·rw [if_pos e] at h1
    have := List.mem_singleton.1 h1
    injection this with e1 e2
    exact .inl ⟨e, e1.symm, e2.symm⟩
   ·rw [if_neg e] at h1; cases h1
 ·rintro ⟨l, hl, ⟨e1, e2, e3⟩ | ⟨e1, e2, e3⟩⟩
  ·refine ⟨l, hl, List.mem_append.2 (.inr ?_)⟩
   rw [if_pos e1, e2, e3]
   exact List.mem_singleton.2 rfl
  ·refine ⟨l, hl, List.mem_append.2 (.inl ?_)⟩
   rw [if_pos e1, e2, e3]
   exact List.mem_singleton.2 rfl
def rlxD (r : Int) (st : List Int × (Int → Option Int)) (n : Int × Int) : List Int × (Int → Option Int) :=
 match st.2 n.1 with
 | none => (st.1 ++ [n.1], fun u => if u = n.1 then some ((st.2 r).getD 0 + n.2) else st.2 u)
 | some x => if (st.2 r).getD 0 + n.2 < x then (st.1, fun u => if u = n.1 then some ((st.2 r).getD 0 + n.2) else st.2 u) else st
def unkD (V : List Int) (f : Int → Option Int) : Nat := (V.filter (fun v => (f v).isNone)).length
structure DI (L : List Lk) (V : List Int) (s : Int) (o : List Int) (f : Int → Option Int) : Prop where
 s0 : f s = some 0
 wk : ∀ v d, f v = some d → Wk L s v d ∧ v ∈ V
 nd : o.Nodup
 dm : ∀ x ∈ o, ∃ e, f x = some e
 cl : ∀ v d, v ∉ o → f v = some d → ∀ u c, edg L v u c → ∃ e, f u = some e ∧ e ≤ d + c
 le : ∀ v d, v ∉ o → f v = some d → ∀ x ∈ o, ∀ e, f x = some e → d ≤ e
structure DJ (L : List Lk) (V : List Int) (s r dr : Int) (done : List (Int × Int)) (o : List Int) (f : Int → Option Int) : Prop where
 s0 : f s = some 0
 wk : ∀ v d, f v = some d → Wk L s v d ∧ v ∈ V
 nd : o.Nodup
 dm : ∀ x ∈ o, ∃ e, f x = some e
 fr : f r = some dr ∧ r ∉ o
 cl : ∀ v d, v ∉ o → v ≠ r → f v = some d → ∀ u c, edg L v u c → ∃ e, f u = some e ∧ e ≤ d + c
 clr : ∀ n ∈ done, ∃ e, f n.1 = some e ∧ e ≤ dr + n.2
 lo : ∀ v d, v ∉ o → f v = some d → d ≤ dr
 hi : ∀ x ∈ o, ∀ e, f x = some e → dr ≤ e
theorem DI.start (L : List Lk) (V : List Int) (s : Int) (hs : s ∈ V) : DI L V s [s] (fun u => if u = s then some 0 else none) := by
 have key : ∀ v d, (if v = s then some (0 : Int) else none) = some d → v = s ∧ d = 0 := fun v d h => by
  by_cases e : v = s
  ·rw [if_pos e] at h; exact ⟨e, (Option.some.inj h).symm⟩
  ·rw [if_neg e] at h; cases h
 refine ⟨by simp, fun v d h => ?_, by simp, fun x hx => ⟨0, by rw [List.mem_singleton.1 hx]; simp⟩, fun v d hv h => ?_, fun v d hv h => ?_⟩
 ·obtain ⟨rfl, rfl⟩ := key v d h
  exact ⟨Wk.nil L v, hs⟩
 ·obtain ⟨rfl, rfl⟩ := key v d h
  exact absurd (List.mem_singleton.2 rfl) hv
 ·obtain ⟨rfl, rfl⟩ := key v d h
  exact absurd (List.mem_singleton.2 rfl) hv
theorem unkD_le {V : List Int} {f g : Int → Option Int} (h : ∀ v, f v ≠ none → g v ≠ none) : unkD V g ≤ unkD V f := by
 unfold unkD
 induction V with
 | nil => exact Nat.le_refl _
 | cons a t ih =>
  rw [List.filter_cons, List.filter_cons]
  cases hg : g a with
  | some x =>
   rw [if_neg (by simp)]
   cases hf : f a with
   | some y => rw [if_neg (by simp)]; exact ih
   | none => rw [if_pos (by simp), List.length_cons]; omega
  | none =>
   have hf : f a = none := by
    cases hf : f a with
    | none => rfl
    | some y => exact absurd hg (h a (by rw [hf]; simp))
   rw [hf, if_pos (by simp), if_pos (by simp), List.length_cons, List.length_cons]
   omega
theorem unkD_lt {V : List Int} {f g : Int → Option Int} (h : ∀ v, f v ≠ none → g v ≠ none) {x : Int} (hx : x ∈ V) (hf : f x = none) (hg : g x ≠ none) : unkD V g < unkD V f := by
 induction V with
 | nil => cases hx
 | cons a t ih =>
  have hle := unkD_le (V := t) h
  unfold unkD at hle ih ⊢
  rw [List.filter_cons, List.filter_cons]
  by_cases ha : a = x
  ·subst ha
   rw [if_neg (by cases hga : g a with | none => exact absurd hga hg | some y => simp), if_pos (by rw [hf]; rfl), List.length_cons]
   omega
  ·have hxt : x ∈ t := by
    rcases List.mem_cons.1 hx with h1 | h1
    ·exact absurd h1.symm ha
    ·exact h1
   have i1 := ih hxt
   cases hga : g a with
   | some y =>
    rw [if_neg (by simp)]
    cases hfa : f a with
    | some z => rw [if_neg (by simp)]; exact i1
    | none => rw [if_pos (by simp), List.length_cons]; omega
   | none =>
    have hfa : f a = none := by
     cases hfa : f a with
     | none => rfl
     | some y => exact absurd hga (h a (by rw [hfa]; simp))
    rw [hfa, if_pos (by simp), if_pos (by simp), List.length_cons, List.length_cons]
    omega
theorem DJ.step {L : List Lk} (hp : Pos L) {V : List Int} (hV : Ends L V) {s r dr : Int} {done : List (Int × Int)} {o : List Int} {f : Int → Option Int} (h : DJ L V s r dr done o f) {n : Int × Int} (e : edg L r n.1 n.2) :
  DJ L V s r dr (done ++ [n]) (rlxD r (o, f) n).1 (rlxD r (o, f) n).2 ∧ 2 * unkD V (rlxD r (o, f) n).2 + (rlxD r (o, f) n).1.length ≤ 2 * unkD V f + o.length := by
 obtain ⟨v, c⟩ := n
 have hc := hp.edg e
 have hcr : (f r).getD 0 = dr := by rw [h.fr.1]; rfl
 have hwr := (h.wk r dr h.fr.1).1.step e
 have hvV := (hV.edg e).2
 simp only at e hc hwr hvV
 -- what setting v to dr + c keeps
 have set : ∀ (g : Int → Option Int), g = (fun u => if u = v then some (dr + c) else f u) → (∀ x, f v = some x → dr + c < x) →
   g s = some 0 ∧ (∀ u d, g u = some d → Wk L s u d ∧ u ∈ V) ∧ g r = some dr ∧ (∀ u d, f u = some d → ∃ d', g u = some d' ∧ d' ≤ d) ∧ (∀ u, u ≠ v → g u = f u) ∧ g v = some (dr + c) := by
  intro g hg hlt
  have hvr : v ≠ r := fun e1 => by
   have := hlt dr (by rw [e1]; exact h.fr.1)
   omega
  have hvs : v ≠ s := fun e1 => by
   have h1 := hlt 0 (by rw [e1]; exact h.s0)
   have h2 := (h.wk r dr h.fr.1).1.ge hp
   omega
  have gne : ∀ u, u ≠ v → g u = f u := fun u hu => by rw [hg]; show (if u = v then _ else _) = _; rw [if_neg hu]
  have gv : g v = some (dr + c) := by rw [hg]; show (if v = v then _ else _) = _; rw [if_pos rfl]
  refine ⟨by rw [gne s (Ne.symm hvs)]; exact h.s0, fun u d hu => ?_, by rw [gne r (Ne.symm hvr)]; exact h.fr.1, fun u d hu => ?_, gne, gv⟩
  ·by_cases e1 : u = v
   ·subst e1
    rw [gv] at hu
    obtain rfl := Option.some.inj hu
    exact ⟨hwr, hvV⟩
   ·rw [gne u e1] at hu
    exact h.wk u d hu
  ·by_cases e1 : u = v
   ·subst e1
    exact ⟨dr + c, gv, by have := hlt d hu; omega⟩
   ·exact ⟨d, by rw [gne u e1]; exact hu, Int.le_refl _⟩
 unfold rlxD
 simp only
 rw [hcr]
 cases hfv : f v with
 | none =>
  simp only
  obtain ⟨g, hg⟩ : ∃ g : Int → Option Int, g = (fun u => if u = v then some (dr + c) else f u) := ⟨_, rfl⟩
  obtain ⟨k1, k2, k3, k4, k5, k6⟩ := set g hg (fun x hx => by rw [hfv] at hx; cases hx)
  rw [← hg]
  have hvo : v ∉ o := fun hv => by obtain ⟨x, hx⟩ := h.dm v hv; rw [hfv] at hx; cases hx
  have hvr : r ≠ v := fun e1 => by have := h.fr.1; rw [e1, hfv] at this; cases this
  have hnv : ∀ u, u ∉ o ++ [v] → u ∉ o ∧ u ≠ v := fun u hu => ⟨fun h1 => hu (List.mem_append.2 (.inl h1)), fun h1 => hu (List.mem_append.2 (.inr (List.mem_singleton.2 h1)))⟩
  refine ⟨⟨k1, k2, ?_, fun x hx => ?_, ⟨k3, fun hr => ?_⟩, fun u d hu hur hd u2 c2 e2 => ?_, fun m hm => ?_, fun u d hu hd => ?_, fun x hx y hy => ?_⟩, ?_⟩
  ·rw [List.nodup_append]
   refine ⟨h.nd, by simp, fun a ha b hb => ?_⟩
   rw [List.mem_singleton.1 hb]
   exact fun e1 => hvo (e1 ▸ ha)
  ·rcases List.mem_append.1 hx with h1 | h1
   ·obtain ⟨y, hy⟩ := h.dm x h1
    obtain ⟨y2, hy2, -⟩ := k4 x y hy
    exact ⟨y2, hy2⟩
   ·rw [List.mem_singleton.1 h1]
    exact ⟨_, k6⟩
  ·rcases List.mem_append.1 hr with h1 | h1
   ·exact h.fr.2 h1
   ·exact hvr (List.mem_singleton.1 h1)
  ·obtain ⟨h1, h2⟩ := hnv u hu
   rw [k5 u h2] at hd
   obtain ⟨y, hy, hyl⟩ := h.cl u d h1 hur hd u2 c2 e2
   obtain ⟨y2, hy2, hle⟩ := k4 u2 y hy
   exact ⟨y2, hy2, by omega⟩
  ·rcases List.mem_append.1 hm with h1 | h1
   ·obtain ⟨y, hy, hyl⟩ := h.clr m h1
    obtain ⟨y2, hy2, hle⟩ := k4 _ y hy
    exact ⟨y2, hy2, by omega⟩
   ·rw [List.mem_singleton.1 h1]
    exact ⟨_, k6, Int.le_refl _⟩
  ·obtain ⟨h1, h2⟩ := hnv u hu
   rw [k5 u h2] at hd
   exact h.lo u d h1 hd
  ·rcases List.mem_append.1 hx with h1 | h1
   ·have h2 : x ≠ v := fun e1 => hvo (e1 ▸ h1)
    rw [k5 x h2] at hy
    exact h.hi x h1 y hy
   ·rw [List.mem_singleton.1 h1, k6] at hy
    have := Option.some.inj hy
    omega
  ·have h1 := unkD_lt (V := V) (f := f) (g := g) (fun u hu => by
    cases hfu : f u with
    | none => exact absurd hfu hu
    | some d => obtain ⟨y, hy, -⟩ := k4 u d hfu; rw [hy]; simp) hvV hfv (by rw [k6]; simp)
   rw [List.length_append, List.length_singleton]
   omega
 | some x =>
  simp only
  by_cases hlt : dr + c < x
  ·rw [if_pos hlt]
   simp only
   obtain ⟨g, hg⟩ : ∃ g : Int → Option Int, g = (fun u => if u = v then some (dr + c) else f u) := ⟨_, rfl⟩
   obtain ⟨k1, k2, k3, k4, k5, k6⟩ := set g hg (fun y hy => by rw [hfv] at hy; have := Option.some.inj hy; omega)
   rw [← hg]
   -- v is open
   have hvo : v ∈ o := Classical.byContradiction fun hv => by have := h.lo v x hv hfv; omega
   have hnv : ∀ u, u ∉ o → u ≠ v := fun u hu e1 => hu (e1 ▸ hvo)
   refine ⟨⟨k1, k2, h.nd, fun y hy => ?_, ⟨k3, h.fr.2⟩, fun u d hu hur hd u2 c2 e2 => ?_, fun m hm => ?_, fun u d hu hd => ?_, fun y hy z hz => ?_⟩, ?_⟩
   ·obtain ⟨z, hz⟩ := h.dm y hy
    obtain ⟨z2, hz2, -⟩ := k4 y z hz
    exact ⟨z2, hz2⟩
   ·rw [k5 u (hnv u hu)] at hd
    obtain ⟨y, hy, hyl⟩ := h.cl u d hu hur hd u2 c2 e2
    obtain ⟨y2, hy2, hle⟩ := k4 u2 y hy
    exact ⟨y2, hy2, by omega⟩
   ·rcases List.mem_append.1 hm with h1 | h1
    ·obtain ⟨y, hy, hyl⟩ := h.clr m h1
     obtain ⟨y2, hy2, hle⟩ := k4 _ y hy
     exact ⟨y2, hy2, by omega⟩
    ·rw [List.mem_singleton.1 h1]
     exact ⟨_, k6, Int.le_refl _⟩
   ·rw [k5 u (hnv u hu)] at hd
    exact h.lo u d hu hd
   ·by_cases e1 : y = v
    ·rw [e1, k6] at hz
     have := Option.some.inj hz
     omega
    ·rw [k5 y e1] at hz
     exact h.hi y hy z hz
   ·have h1 := unkD_le (V := V) (f := f) (g := g) (fun u hu => by
     cases hfu : f u with
     | none => exact absurd hfu hu
     | some d => obtain ⟨y, hy, -⟩ := k4 u d hfu; rw [hy]; simp)
    omega
  ·rw [if_neg hlt]
   refine ⟨⟨h.s0, h.wk, h.nd, h.dm, h.fr, h.cl, fun m hm => ?_, h.lo, h.hi⟩, Nat.le_refl _⟩
   rcases List.mem_append.1 hm with h1 | h1
   ·exact h.clr m h1
   ·rw [List.mem_singleton.1 h1]
    exact ⟨x, hfv, by simp only; omega⟩
theorem DI.take {L : List Lk} {V : List Int} {s : Int} {o : List Int} {f : Int → Option Int} (h : DI L V s o f) {i : Nat} {r dr : Int} (hr : o[i]? = some r) (hd : f r = some dr) (hmin : ∀ x ∈ o, ∀ e, f x = some e → dr ≤ e) : DJ L V s r dr [] (o.eraseIdx i) f := by
 have hi := (List.getElem?_eq_some_iff.1 hr).1
 have hro : r ∈ o := List.mem_of_getElem? hr
 have hmem : ∀ x, x ∈ o.eraseIdx i ↔ x ∈ o ∧ x ≠ r := fun x => by
  have e1 : o[i] = r := (List.getElem?_eq_some_iff.1 hr).2
  rw [List.mem_eraseIdx_iff_getElem?]
  constructor
  ·rintro ⟨j, hj, hx⟩
   refine ⟨List.mem_of_getElem? hx, fun e2 => hj ?_⟩
   obtain ⟨hjl, hje⟩ := List.getElem?_eq_some_iff.1 hx
   have hq := List.pairwise_iff_getElem.1 h.nd
   rcases Nat.lt_trichotomy j i with h1 | h1 | h1
   ·exact absurd (hje.trans (e2.trans e1.symm)) (hq j i hjl hi h1)
   ·exact h1
   ·exact absurd ((e1.trans e2.symm).trans hje.symm) (hq i j hi hjl h1)
  ·rintro ⟨h1, h2⟩
   obtain ⟨j, hjl, hje⟩ := List.mem_iff_getElem.1 h1
   exact ⟨j, fun e2 => h2 (by subst e2; rw [← hje, e1]), by rw [List.getElem?_eq_getElem hjl, hje]⟩
 have hnot : ∀ v, v ∉ o.eraseIdx i → v ∉ o ∨ v = r := fun v hv => by
  rcases Classical.em (v ∈ o) with h1 | h1
  ·rcases Classical.em (v = r) with h2 | h2
   ·exact .inr h2
   ·exact absurd ((hmem v).2 ⟨h1, h2⟩) hv
  ·exact .inl h1
 refine ⟨h.s0, h.wk, h.nd.sublist (List.eraseIdx_sublist _ _), fun x hx => h.dm x ((hmem x).1 hx).1, ⟨hd, fun hx => ((hmem r).1 hx).2 rfl⟩, fun v d hv hvr hf => ?_, fun n hn => (by cases hn), fun v d hv hf => ?_, fun x hx e he => hmin x ((hmem x).1 hx).1 e he⟩
 ·rcases hnot v hv with h1 | h1
  ·exact h.cl v d h1 hf
  ·exact absurd h1 hvr
 ·rcases hnot v hv with h1 | h1
  ·exact h.le v d h1 hf r hro dr hd
  ·subst h1
   rw [hd] at hf
   have := Option.some.inj hf
   omega
theorem DJ.fin {L : List Lk} {V : List Int} {s r dr : Int} {o : List Int} {f : Int → Option Int} (h : DJ L V s r dr (nbD L r) o f) : DI L V s o f := by
 refine ⟨h.s0, h.wk, h.nd, h.dm, fun v d hv hf u c e => ?_, fun v d hv hf x hx y hy => ?_⟩
 ·by_cases e1 : v = r
  ·subst e1
   rw [h.fr.1] at hf
   obtain rfl := Option.some.inj hf
   exact h.clr (u, c) (nbD_mem.2 e)
  ·exact h.cl v d hv e1 hf u c e
 ·have := h.lo v d hv hf
  have := h.hi x hx y hy
  omega
theorem DI.done {L : List Lk} {V : List Int} {s : Int} {f : Int → Option Int} (h : DI L V s [] f) (v d : Int) : f v = some d ↔ IsD L s v d :=
 closed_D h.s0 (fun v d hf => (h.wk v d hf).1) (fun u d v c hf e => h.cl u d (by simp) hf v c e) v d
end Go.Proofs.YtahafijpcmphaaaGreat

/- shortest.nearby. -/
namespace Go.Proofs.YtahafijpcmphaaaGreat
set_option maxRecDepth 100000
open Go.RowKit Bs
def dsC (d : Int × Int) : List Value := [.int .i64 d.1, .int .i64 d.2]
theorem info_dst : (Tryz.prog.info? 131).map (fun i => (i.zero, i.size, i.bytes)) = some (some (.agg #[.int .i64 0, .int .i64 0]), 2, 16) := by kernel_rfl
def nb1D (x : Int) (l : Lk) : List (Int × Int) := (if l.b = x then [(l.a, l.cb)] else []) ++ (if l.a = x then [(l.b, l.ca)] else [])
theorem nbD_snoc {L : List Lk} {k : Nat} {l : Lk} (x : Int) (h : L[k]? = some l) : nbD (L.take (k + 1)) x = nbD (L.take k) x ++ nb1D x l := by
 unfold nbD nb1D
 rw [List.take_add_one, h]
 simp
theorem nbD_len (x : Int) : ∀ L : List Lk, (nbD L x).length ≤ 2 * L.length
 | [] => by simp [nbD]
 | l :: L => by
  have h1 : (nb1D x l).length ≤ 2 := by unfold nb1D; split <;> split <;> simp
  have h2 := nbD_len x L
  unfold nbD at *
  unfold nb1D at h1
  rw [List.flatMap_cons, List.length_append, List.length_cons]
  omega
structure ND (w : World) (v : Value) (l : List (Int × Int)) (wr : World) : Prop where
 own : wr.ownsRow w.heap.size 131 2 v l.length (l.flatMap dsC)
 gr : w.grownBy wr none
theorem ND.keep {w wr w' : World} {v : Value} {l : List (Int × Int)} (h : ND w v l wr) (g : wr.grownBy w' none) : ND w v l w' :=
 ⟨h.own.kept g (by cases hv : v.ownBlock <;> simp), grown_trans h.gr g⟩
theorem ND.more {w wr wy w1 : World} {v v' : Value} {l : List (Int × Int)} {x : Int × Int} {o : Obj} (h : ND w v l wr) (g : wr.grownBy wy none) (hown' : w1.ownsRow w.heap.size 131 2 v' (l.length + 1) (l.flatMap dsC ++ dsC x)) (hg : (wy.alloc o).grownBy w1 v.ownBlock) :
  ND w v' (l ++ [x]) w1 ∧ (∀ b ob, wr.heap.size ≤ b → wy.heap[b]? = some ob → w1.heap[b]? = some ob) := by
 have hy := h.keep g
 have k0 := World.grownBy_alloc wy o none
 refine ⟨⟨?_, grown_any (grown_trans hy.gr k0) hg (fun b hb e => by have := (hy.own.lt b e.symm).1; omega)⟩, fun b ob hb he => ?_⟩
 ·rw [List.length_append, List.flatMap_append, List.flatMap_singleton]; exact hown'
 ·refine kept_row (kept_row he k0 (by simp)) hg (fun e => ?_)
  have := (h.own.lt b e.symm).2
  omega
def TRetD (l : List (Int × Int)) (w : World) (e : Ending) (w' : World) : Prop := ∃ v, e = .returned v ∧ w'.ownsRow w.heap.size 131 2 v l.length (l.flatMap dsC) ∧ w.grownBy w' none
set_option maxHeartbeats 6400000 in
theorem tnearby_any (L : List Lk) (x : Int) (p : Option Addr) (c : Nat) (q : Nat → Prop) (w : World) (hR : RdL5 w q (.slice p L.length c) L) (hm : L.length ≤ 1000) :
  Calls Tryz.prog 118 #[.slice p L.length c, .int .i64 x] w fun e w' => TRetD (nbD L x) w e w' := by
 obtain ⟨i0, hi, hz0, hz1, hz2⟩ := info_parts info_dst
 have HR := Lib.hid hR
 clear hR
 have N0 : Hid (ND w (.slice none 0 0) (nbD (L.take 0) x) w) := Lib.hid ⟨World.ownsRow_nil _ _ _ _, grown_refl _ _⟩
 go_enter Tryz.func118, Tryz.ntmps118
 go_wp2_with fail
 go_loopw [5, 10] (fun v a wr => ∃ k : Nat, k ≤ L.length ∧ a = .int .i64 (k : Int) ∧ Hid (ND w v (nbD (L.take k) x) wr)) (fun _ a _ => L.length - (RowKit.intOf a).toNat)
 case atStart => exact ⟨0, Nat.zero_le _, rfl, N0⟩
 case round =>
  obtain ⟨k, hk, rfl, N⟩ := hrel
  clear N0
  by_cases hlt : k < L.length
  ·obtain ⟨-, b, off, rfl, hq, hc⟩ := rdl_cells (HR.out.keep N.out.gr) (by omega)
   obtain ⟨y, hy⟩ : ∃ y, L[k]? = some y := ⟨_, List.getElem?_eq_getElem hlt⟩
   obtain ⟨a0, a1, a2, a3, a4⟩ := hc k y hy
   have gal := World.grownBy_alloc wr (.cells #[.int .i64 y.a, .int .i64 y.b, .int .i64 y.ca, .int .i64 y.cb, .int .i64 y.cp] 94) none
   have hbx := heap_alloc_new wr (.cells #[.int .i64 y.a, .int .i64 y.b, .int .i64 y.ca, .int .i64 y.cb, .int .i64 y.cp] 94)
   have HG := Lib.hid gal
   have HB := Lib.hid hbx
   have HL : Hid (nbD (L.take (k + 1)) x = nbD (L.take k) x ++ nb1D x y) := Lib.hid (nbD_snoc x hy)
   have hln := nbD_len x (L.take k)
   have hlt2 : (L.take k).length ≤ k := List.length_take_le _ _
   clear hc hy gal hbx
   go_upto_region 5 with fail
   clear a0 a1 a2 a3 a4
   generalize wr.alloc _ = wy at *
   have hsz : w.heap.size ≤ wy.heap.size := Nat.le_trans N.out.gr.size HG.out.size
   have hown := (N.out.keep HG.out).own
   obtain ⟨d0, d1, d2, d3, d4⟩ := lk_facts HB.out
   obtain ⟨M, hM⟩ : ∃ M, nbD (L.take k) x = M := ⟨_, rfl⟩
   rw [hM] at N HL hln hown
   have hMl : M.length ≤ 2000 := by omega
   clear hM hln hlt2
   by_cases e1 : y.b = x
   ·have e1' : (y.b == x) = true := by simpa using e1
    have HE1 := Lib.hid e1
    clear e1
    go_wp2_with (at_builtin; refine hold_on ?_)
    refine Lib.hid ?_
    refine wpList_append_lies _ rfl _ _ 128 rfl w.heap.size 131 i0 (.agg #[.int .i64 0, .int .i64 0]) 2 16 Tryz.underlying128 hi hz0 hz1 hz2 rfl (by decide) _ _ _ rfl (hown.alloc _) ⟨wy.heap.size, 0, none⟩ 1 1 [.int .i64 y.a, .int .i64 y.cb] rfl rfl ?c1 ?c2 (by decide) ?c3 ?c4 ?c5 _ rfl ?_
    try (case c1 => exact cells2 _ _ _ _)
    case c2 => (intro u hu; simp at hu; rcases hu with rfl | rfl <;> rfl)
    case c3 => first | omega | (unfold maxLen; omega)
    case c4 => omega
    case c5 => first | omega | (simp; omega)
    intro gq capq w1 hown' hg hat6 hlt6
    obtain ⟨v', hvq⟩ : ∃ vq, Value.slice (some ⟨gq, 0, none⟩) (M.length + 1) capq = vq := ⟨_, rfl⟩
    rw [hvq] at hown' ⊢
    clear hvq hat6 hlt6
    obtain ⟨n1, n2⟩ := N.out.more (x := (y.a, y.cb)) HG.out hown' hg
    have N1 := Lib.hid n1
    have HB1 := Lib.hid (n2 wr.heap.size _ (Nat.le_refl _) HB.out)
    clear hown' hg n1 n2 hown d0 d1 d2 d3 d4
    obtain ⟨d0, d1, d2, d3, d4⟩ := lk_facts HB1.out
    by_cases e2 : y.a = x
    ·have e2' : (y.a == x) = true := by simpa using e2
     have HE2 := Lib.hid e2
     have hown := N1.out.own
     have hsz1 := N1.out.gr.size
     have hMl1 : (M ++ [(y.a, y.cb)]).length ≤ 2001 := by rw [List.length_append]; simp; omega
     clear e2
     obtain ⟨M1, hM1⟩ : ∃ M1, M ++ [(y.a, y.cb)] = M1 := ⟨_, rfl⟩
     have HM1 := Lib.hid hM1
     rw [hM1] at N1 hown hMl1
     clear hM1
     go_wp2_with (at_builtin; refine hold_on ?_)
     refine Lib.hid ?_
     refine wpList_append_lies _ rfl _ _ 128 rfl w.heap.size 131 i0 (.agg #[.int .i64 0, .int .i64 0]) 2 16 Tryz.underlying128 hi hz0 hz1 hz2 rfl (by decide) _ _ _ rfl (hown.alloc _) ⟨w1.heap.size, 0, none⟩ 1 1 [.int .i64 y.b, .int .i64 y.ca] rfl rfl ?c1 ?c2 (by decide) ?c3 ?c4 ?c5 _ rfl ?_
     try (case c1 => exact cells2 _ _ _ _)
     case c2 => (intro u hu; simp at hu; rcases hu with rfl | rfl <;> rfl)
     case c3 => first | omega | (unfold maxLen; omega)
     case c4 => omega
     case c5 => first | omega | (simp; omega)
     intro gq capq w2 hown' hg hat6 hlt6
     obtain ⟨v2, hv2⟩ : ∃ vq, Value.slice (some ⟨gq, 0, none⟩) (M1.length + 1) capq = vq := ⟨_, rfl⟩
     rw [hv2] at hown' ⊢
     clear hv2 hat6 hlt6
     obtain ⟨n1, -⟩ := N1.out.more (x := (y.b, y.ca)) (grown_refl _ _) hown' hg
     have N2 : Hid (ND w v2 (nbD (L.take (k + 1)) x) w2) := Lib.hid (by rw [HL.out]; unfold nb1D; rw [if_pos HE1.out, if_pos HE2.out, ← List.append_assoc, HM1.out]; exact n1)
     clear hown' hg n1 hown d0 d1 d2 d3 d4
     go_wp2_with fail
     exact ⟨⟨k + 1, by omega, congrArg _ (by omega), N2⟩, by simp only [RowKit.intOf]; omega⟩
    ·have e2' : (y.a == x) = false := by simpa using e2
     have N2 : Hid (ND w v' (nbD (L.take (k + 1)) x) w1) := Lib.hid (by rw [HL.out]; unfold nb1D; rw [if_pos HE1.out, if_neg e2, List.append_nil]; exact N1.out)
     clear e2
     go_wp2_with fail
     exact ⟨⟨k + 1, by omega, congrArg _ (by omega), N2⟩, by simp only [RowKit.intOf]; omega⟩
   ·have e1' : (y.b == x) = false := by simpa using e1
    have HE1 := Lib.hid e1
    clear e1
    by_cases e2 : y.a = x
    ·have e2' : (y.a == x) = true := by simpa using e2
     have HE2 := Lib.hid e2
     clear e2
     go_wp2_with (at_builtin; refine hold_on ?_)
     refine Lib.hid ?_
     refine wpList_append_lies _ rfl _ _ 128 rfl w.heap.size 131 i0 (.agg #[.int .i64 0, .int .i64 0]) 2 16 Tryz.underlying128 hi hz0 hz1 hz2 rfl (by decide) _ _ _ rfl (hown.alloc _) ⟨wy.heap.size, 0, none⟩ 1 1 [.int .i64 y.b, .int .i64 y.ca] rfl rfl ?c1 ?c2 (by decide) ?c3 ?c4 ?c5 _ rfl ?_
     try (case c1 => exact cells2 _ _ _ _)
     case c2 => (intro u hu; simp at hu; rcases hu with rfl | rfl <;> rfl)
     case c3 => first | omega | (unfold maxLen; omega)
     case c4 => omega
     case c5 => first | omega | (simp; omega)
     intro gq capq w2 hown' hg hat6 hlt6
     obtain ⟨v2, hv2⟩ : ∃ vq, Value.slice (some ⟨gq, 0, none⟩) (M.length + 1) capq = vq := ⟨_, rfl⟩
     rw [hv2] at hown' ⊢
     clear hv2 hat6 hlt6
     obtain ⟨n1, -⟩ := N.out.more (x := (y.b, y.ca)) HG.out hown' hg
     have N2 : Hid (ND w v2 (nbD (L.take (k + 1)) x) w2) := Lib.hid (by rw [HL.out]; unfold nb1D; rw [if_neg HE1.out, if_pos HE2.out, List.nil_append]; exact n1)
     clear hown' hg n1 hown d0 d1 d2 d3 d4
     go_wp2_with fail
     exact ⟨⟨k + 1, by omega, congrArg _ (by omega), N2⟩, by simp only [RowKit.intOf]; omega⟩
    ·have e2' : (y.a == x) = false := by simpa using e2
     have N2 : Hid (ND w u5 (nbD (L.take (k + 1)) x) wy) := Lib.hid (by rw [HL.out]; unfold nb1D; rw [if_neg HE1.out, if_neg e2, List.append_nil, List.append_nil]; exact N.out.keep HG.out)
     clear e2
     go_wp2_with fail
     exact ⟨⟨k + 1, by omega, congrArg _ (by omega), N2⟩, by simp only [RowKit.intOf]; omega⟩
  ·obtain rfl : k = L.length := by omega
   have hN := N.out
   rw [List.take_length] at hN
   have H9 := Lib.hid hN
   clear hN N
   go_wp2_with fail
   go_ret
   exact ⟨_, rfl, H9.out.own, H9.out.gr⟩
end Go.Proofs.YtahafijpcmphaaaGreat

/- Maps of costs. -/
namespace Go.Proofs.YtahafijpcmphaaaGreat
set_option maxRecDepth 100000
open Go.RowKit Go.Maps Bs
def kZ (x : Int) : Lit := .int .i64 x
theorem kZ_key (x : Int) : WideAt.IsKeyLit (kZ x) := by unfold kZ WideAt.IsKeyLit; trivial
theorem kZ_ne {x y : Int} (h : x ≠ y) : kZ x ≠ kZ y := fun e => h (by unfold kZ at e; injection e)
structure MF (D : DataW Unit) (f : Int → Option Int) : Prop where
 td : Tidy D
 hs : ∀ x, Maps.has D (kZ x) = (f x).isSome
 at1_ : ∀ x, D.atKey (kZ x) (.lit (kZ 0)) = .lit (kZ ((f x).getD 0))
def putF (f : Int → Option Int) (x d : Int) : Int → Option Int := fun u => if u = x then some d else f u
theorem putF_same (f : Int → Option Int) (x d : Int) : putF f x d x = some d := by unfold putF; rw [if_pos rfl]
theorem putF_other (f : Int → Option Int) (x d : Int) {y : Int} (h : y ≠ x) : putF f x d y = f y := by unfold putF; rw [if_neg h]
theorem MF.nil : MF (.map []) (fun _ => none) := ⟨tidy_empty, fun _ => rfl, fun _ => rfl⟩
theorem MF.put {D : DataW Unit} {f : Int → Option Int} (h : MF D f) (x d : Int) : MF (D.put (kZ x) (.lit (kZ d))) (putF f x d) := by
 refine ⟨h.td.put (kZ_key x) _, fun y => ?_, fun y => ?_⟩
 ·by_cases e : y = x
  ·subst e
   rw [has_put_same h.td.isMap (kZ_key y), putF_same]
   rfl
  ·rw [has_put_other (kZ_ne e), h.hs, putF_other f x d e]
 ·by_cases e : y = x
  ·subst e
   rw [putF_same]
   exact atKey_put_same h.td.isMap (kZ_key y) _ _
  ·rw [atKey_put_other (kZ_ne e), h.at1_, putF_other f x d e]
theorem lawZ : Keyed Tryz.prog 3 := int_keyed Tryz.underlying3
theorem zeroZ (w : World) : (zeroValue 3).run Tryz.prog w = .ok (.int .i64 0) w := by kernel_rfl
theorem wfZ {x : Int} (h : I64 x) : (Lit.int .i64 x).wf = true := by
 unfold I64 at h
 simp [Lit.wf, IntKind.min, IntKind.max, IntKind.bits, IntKind.signed]
 omega
def OMp (w : World) (b n : Nat) (f : Int → Option Int) : Prop := ∃ D : DataW Unit, w.ownsMap Tryz.prog 3 (plainElem Tryz.prog 3) b n D ∧ MF D f
theorem OMp.kept {w w' : World} {b n : Nat} {f : Int → Option Int} {r : Option Nat} (h : OMp w b n f) (g : w.grownBy w' r) (hr : some b ≠ r) : OMp w' b n f := by
 obtain ⟨D, h1, h2⟩ := h
 exact ⟨D, h1.kept g hr, h2⟩
theorem OMp.lt {w : World} {b n : Nat} {f : Int → Option Int} (h : OMp w b n f) : b < w.heap.size := by
 obtain ⟨D, h1, h2⟩ := h
 exact h1.lt
theorem OMp.mono {w : World} {b n m : Nat} {f : Int → Option Int} (h : OMp w b n f) (hn : n ≤ m) : OMp w b m f := by
 obtain ⟨D, h1, h2⟩ := h
 exact ⟨D, h1.mono hn, h2⟩
theorem OMp.made (w : World) : OMp (w.alloc (.map #[] 0)) w.heap.size 0 (fun _ => none) := ⟨_, World.ownsMap_made w _ _ _, MF.nil⟩
theorem OMp.put {w : World} {b n : Nat} {f : Int → Option Int} (h : OMp w b n f) (hn : n ≤ 1000000) {x d : Int} (hx : I64 x) (hd : I64 d) :
  ∃ w', (Instr.mapUpdate 114 (.map (some b)) (.int .i64 x) (.int .i64 d)).run Tryz.prog w = .ok () w' ∧ OMp w' b (n + 1) (putF f x d) ∧ w.grownBy w' (some b) := by
 obtain ⟨D, h1, h2⟩ := h
 obtain ⟨w', r1, r2, r3⟩ := h1.update (t := 114) lawZ Tryz.underlying114 (by unfold maxLen; omega) (keyOf_int_mk Tryz.underlying3 (wfZ hx)) (plainElem_int Tryz.underlying3 (wfZ hd))
 exact ⟨w', r1, ⟨_, r2, h2.put x d⟩, r3⟩
def MV (w : World) (q : Nat → Prop) (v : Value) (f : Int → Option Int) : Prop :=
 (v = .map none ∧ ∀ x, f x = none) ∨ ∃ b n, v = .map (some b) ∧ q b ∧ n ≤ 1000000 ∧ OMp w b n f
theorem MV.grown {w w' : World} {q : Nat → Prop} {v : Value} {f : Int → Option Int} {r : Option Nat} (h : MV w q v f) (g : w.grownBy w' r) (hr : ∀ b, q b → some b ≠ r) : MV w' q v f := by
 rcases h with h | ⟨b, n, e, hq, hn, h⟩
 ·exact .inl h
 ·exact .inr ⟨b, n, e, hq, hn, h.kept g (hr b hq)⟩
theorem MV.keep {w w' : World} {q : Nat → Prop} {v : Value} {f : Int → Option Int} (h : MV w q v f) (g : w.grownBy w' none) : MV w' q v f := h.grown g (fun _ _ => by simp)
theorem MV.mono {w : World} {q q' : Nat → Prop} {v : Value} {f : Int → Option Int} (h : MV w q v f) (hq : ∀ b, q b → b < w.heap.size → q' b) : MV w q' v f := by
 rcases h with h | ⟨b, n, e, h1, hn, h⟩
 ·exact .inl h
 ·exact .inr ⟨b, n, e, hq b h1 h.lt, hn, h⟩
theorem OMp.look {w : World} {b n : Nat} {f : Int → Option Int} (h : OMp w b n f) {x : Int} (hx : I64 x) :
  (Instr.lookup 114 (.map (some b)) (.int .i64 x) false).run Tryz.prog w = .ok (.int .i64 ((f x).getD 0)) w ∧ (Instr.lookup 114 (.map (some b)) (.int .i64 x) true).run Tryz.prog w = .ok (.tuple #[.int .i64 ((f x).getD 0), .bool (f x).isSome]) w := by
 obtain ⟨D, h1, h2⟩ := h
 have hk := keyOf_int_mk Tryz.underlying3 (wfZ hx)
 have ha := h2.at1_ x
 constructor
 ·obtain ⟨c, hrun, hat, -⟩ := h1.lookup_int (t := 114) lawZ Tryz.underlying114 Tryz.underlying3 (zeroZ _) hk
  rw [show (DataW.lit (kZ 0) : DataW Unit) = .lit (.int .i64 0) from rfl, show kZ x = .int .i64 x from rfl, hat] at ha
  unfold kZ at ha
  injection ha with ha
  injection ha with _ ha
  rw [hrun, ha]
 ·obtain ⟨v, ps, hrun, hv⟩ := h1.look_ok (t := 114) lawZ Tryz.underlying114 (zeroZ _) (plainElem_int Tryz.underlying3 (q := .i64) (a := 0) (by decide)) hk
  obtain ⟨c, rfl, hc, -⟩ := plainElem_int_inv Tryz.underlying3 hv
  have hc1 := congrArg Prod.fst hc
  simp only at hc1
  rw [show (DataW.lit (kZ 0) : DataW Unit) = .lit (.int .i64 0) from rfl, show kZ x = .int .i64 x from rfl, hc1] at ha
  unfold kZ at ha
  injection ha with ha
  injection ha with _ ha
  rw [hrun, ← ha, ← h2.hs x]
  rfl
theorem MV.look {w : World} {q : Nat → Prop} {v : Value} {f : Int → Option Int} (h : MV w q v f) {x : Int} (hx : I64 x) :
  (Instr.lookup 114 v (.int .i64 x) false).run Tryz.prog w = .ok (.int .i64 ((f x).getD 0)) w ∧ (Instr.lookup 114 v (.int .i64 x) true).run Tryz.prog w = .ok (.tuple #[.int .i64 ((f x).getD 0), .bool (f x).isSome]) w := by
 rcases h with ⟨rfl, hn⟩ | ⟨b, n, rfl, -, -, h⟩
 ·have hk := keyOf_int_mk Tryz.underlying3 (wfZ hx)
  rw [hn x]
  exact ⟨look_nil false lawZ Tryz.underlying114 (zeroZ w) hk, look_nil true lawZ Tryz.underlying114 (zeroZ w) hk⟩
 ·exact h.look hx
end Go.Proofs.YtahafijpcmphaaaGreat

/- The reference's Has and Named; Same of equal topologies. -/
namespace Go.Proofs.YtahafijpcmphaaaGreat
set_option maxRecDepth 100000
open Go.RowKit Bs
set_option maxHeartbeats 1600000 in
theorem rhas4_any (X : List Int) (x : Int) (p : Option Addr) (c : Nat) (q : Nat → Prop) (w : World) (hR : Rd w q (.slice p X.length c) (X.map tv)) (hm : X.length ≤ 9223372036854775807) :
  Calls Tryz.prog 58 #[.slice p X.length c, .int .i64 x] w fun e w' => e = .returned (.bool (hasI X x)) ∧ w = w' := by
 have HR := Lib.hid hR
 have HN0 : Hid ((X.take 0).any (fun y => decide (y = x)) = false) := Lib.hid rfl
 clear hR
 go_enter Tryz.func58, Tryz.ntmps58
 go_wp2_with fail
 go_loopw [5] (fun a wr => ∃ k : Nat, k ≤ X.length ∧ a = .int .i64 (k : Int) ∧ Hid ((X.take k).any (fun y => decide (y = x)) = false) ∧ wr = w) (fun a _ => X.length - (RowKit.intOf a).toNat)
 case atStart => exact ⟨0, Nat.zero_le _, rfl, HN0, rfl⟩
 case round =>
  obtain ⟨k, hk, rfl, HN, rfl⟩ := hrel
  by_cases hlt : k < X.length
  ·obtain ⟨-, b, off, rfl, -, hc⟩ := rdi_at HR.out (by omega)
   obtain ⟨y, hy⟩ : ∃ y, X[k]? = some y := ⟨_, List.getElem?_eq_getElem hlt⟩
   have d0 := hc k y hy
   have HY := Lib.hid hy
   clear hc hy HN0
   by_cases hyx : y = x
   ·have HT : Hid (hasI X x = true) := Lib.hid (any_at HY.out (decide_eq_true hyx))
    subst hyx
    go_wp2_with fail
    go_ret
    rw [HT.out]
    exact ⟨rfl, rfl⟩
   ·have HN2 := Lib.hid (any_take HN.out HY.out (decide_eq_false hyx))
    have h' : (y == x) = false := by simpa using hyx
    go_wp2_with fail
    exact ⟨⟨k + 1, by omega, congrArg _ (by omega), HN2, (by first | rfl | trivial)⟩, by simp only [RowKit.intOf]; omega⟩
  ·have HT : Hid (hasI X x = false) := Lib.hid (any_end HN.out (by omega))
   obtain rfl : k = X.length := by omega
   go_wp2_with fail
   go_ret
   rw [HT.out]
   exact ⟨rfl, rfl⟩
end Go.Proofs.YtahafijpcmphaaaGreat

/- empty -/
namespace Go.Proofs.YtahafijpcmphaaaGreat
set_option maxRecDepth 100000
end Go.Proofs.YtahafijpcmphaaaGreat

/- Parts of the proof, packed: AdCpA, AdNew, AdOrd, AdOrd2, AdDecM, AdGrow, AdRdr, AdTapB. -/
import Derived.Test.YtnpkihioklpnmaaMg9
import Derived.Test.YtnpkihioklpnmaaMg8
import Derived.Test.YtnpkihioklpnmaaMg6
import Derived.Laws.OwnMore
import Derived.Deep.RegionHeld3
import Derived.Deep.CutBlock
import Derived.Deep.CutRange
import Derived.Test.YtnpkihioklpnmaaMg2
/- advert: compare. -/
namespace Go.Proofs.Ytnpkihioklpnmaa
open Go.RowKit Bs
/-- The order of adverts. -/
def cmpA (A B : Ad) : Int := orV [cmpV A.r B.r, cmpV A.q B.q, cmpV ((A.cp.toNat : Nat) : Int) ((B.cp.toNat : Nat) : Int), cLs A.L B.L, cLs A.C B.C]
set_option maxRecDepth 100000 in
theorem keepTA {w5 w' : World} {b g : Nat} {A B : Ad} (h : w5.heap[b]? = some (.cells (adC A) 38 (0, 0)) ∧ w5.heap[g]? = some (.cells (adC B) 38 (0, 0))) (hg : Hid (w5.grownBy w' none)) :
    w'.cell? ⟨b, 0, none⟩ = some (.int .i64 A.r) ∧ w'.cell? ⟨b, 1, none⟩ = some (.int .i64 A.q) ∧ w'.cell? ⟨b, 2, none⟩ = some (.bool A.cp) ∧ w'.cell? ⟨b, 3, none⟩ = some (.slice A.pL A.L.length A.cL) ∧ w'.cell? ⟨b, 4, none⟩ = some (.slice A.pC A.C.length A.cC) ∧
    w'.cell? ⟨g, 0, none⟩ = some (.int .i64 B.r) ∧ w'.cell? ⟨g, 1, none⟩ = some (.int .i64 B.q) ∧ w'.cell? ⟨g, 2, none⟩ = some (.bool B.cp) ∧ w'.cell? ⟨g, 3, none⟩ = some (.slice B.pL B.L.length B.cL) ∧ w'.cell? ⟨g, 4, none⟩ = some (.slice B.pC B.C.length B.cC) ∧ Hid (w5.grownBy w' none) := by
  obtain ⟨a0, a1, a2, a3, a4⟩ := ad_facts (kept_row h.1 hg.out (by simp))
  obtain ⟨b0, b1, b2, b3, b4⟩ := ad_facts (kept_row h.2 hg.out (by simp))
  exact ⟨a0, a1, a2, a3, a4, b0, b1, b2, b3, b4, hg⟩
set_option maxRecDepth 100000 in
theorem rd_five (w : World) (x y z u v : Int) (q : Nat → Prop) (hq : q w.heap.size) : Rd (w.alloc (.cells #[.int .i64 x, .int .i64 y, .int .i64 z, .int .i64 u, .int .i64 v] 3)) q (.slice (some ⟨w.heap.size, 0, none⟩) 5 5) ([x, y, z, u, v].map (fun z => Value.int .i64 z)) := by
  have hb : (w.alloc (.cells #[.int .i64 x, .int .i64 y, .int .i64 z, .int .i64 u, .int .i64 v] 3)).heap[w.heap.size]? = some (.cells #[.int .i64 x, .int .i64 y, .int .i64 z, .int .i64 u, .int .i64 v] 3 (0, 0)) := heap_alloc_new w _
  refine ⟨_, 5, rfl, fun _ => ⟨_, _, rfl, hq, fun i u hi => ?_⟩⟩
  rw [Nat.zero_add, cell_of_row _ _ _ _ _ _ hb]
  simpa using hi
structure TwoA (w : World) (A B : Ad) (q q2 : Nat → Prop) : Prop where
  a : AdOk w q A
  b : AdOk w q2 B
set_option maxRecDepth 100000 in
theorem aclR_at {w0 w : World} {A B : Ad} {q q2 : Nat → Prop} (h : Hid (w0.grownBy w none)) (H : Hid (TwoA w0 A B q q2)) :
    Calls Try.prog 114 #[.slice A.pL A.L.length A.cL, .slice B.pL B.L.length B.cL, .func (.func 115) #[] #[]] w fun e w' => e = .returned (.int .i64 (cLs A.L B.L)) ∧ w.grownBy w' none :=
  aclR_any A.L B.L _ _ _ _ _ _ w (H.out.a.keep h.out).l (H.out.b.keep h.out).l (Nat.le_trans H.out.a.hl.1 H.out.a.hl.2) (Nat.le_trans H.out.b.hl.1 H.out.b.hl.2)
set_option maxRecDepth 100000 in
theorem aclC_at {w0 w : World} {A B : Ad} {q q2 : Nat → Prop} (h : Hid (w0.grownBy w none)) (H : Hid (TwoA w0 A B q q2)) :
    Calls Try.prog 116 #[.slice A.pC A.C.length A.cC, .slice B.pC B.C.length B.cC, .func (.func 117) #[] #[]] w fun e w' => e = .returned (.int .i64 (cLs A.C B.C)) ∧ w.grownBy w' none :=
  aclC_any A.C B.C _ _ _ _ _ _ w (H.out.a.keep h.out).c (H.out.b.keep h.out).c (Nat.le_trans H.out.a.hc.1 H.out.a.hc.2) (Nat.le_trans H.out.b.hc.1 H.out.b.hc.2)
set_option maxRecDepth 100000 in
theorem two_ads (w : World) (A B : Ad) : (((w.alloc (.cells (adC A) 38)).alloc (.cells (adC B) 38)).heap[w.heap.size]? = some (.cells (adC A) 38 (0, 0)) ∧ ((w.alloc (.cells (adC A) 38)).alloc (.cells (adC B) 38)).heap[w.heap.size + 1]? = some (.cells (adC B) 38 (0, 0))) ∧ w.grownBy ((w.alloc (.cells (adC A) 38)).alloc (.cells (adC B) 38)) none := by
  have g1 := World.grownBy_alloc w (.cells (adC A) 38) none
  have g2 := World.grownBy_alloc (w.alloc (.cells (adC A) 38)) (.cells (adC B) 38) none
  have b1 := kept_row (heap_alloc_new w (.cells (adC A) 38)) g2 (by simp)
  have b2 := heap_alloc_new (w.alloc (.cells (adC A) 38)) (.cells (adC B) 38)
  have s1 : (w.alloc (.cells (adC A) 38)).heap.size = w.heap.size + 1 := by simp
  rw [s1] at b2
  exact ⟨⟨b1, b2⟩, grown_trans g1 g2⟩
set_option maxRecDepth 100000 in
set_option maxHeartbeats 6400000 in
theorem acmpA_any (A B : Ad) (q q2 : Nat → Prop) (w : World) (hA : AdOk w q A) (hB : AdOk w q2 B) :
    Calls Try.prog 84 #[A.val, B.val] w fun e w' => e = .returned (.int .i64 (cmpA A B)) ∧ w.grownBy w' none := by
  have HZ := Lib.hid (two_ads w A B)
  have HOK : Hid (TwoA _ A B q q2) := Lib.hid ⟨hA.keep HZ.out.2, hB.keep HZ.out.2⟩
  have HB := Lib.hid HZ.out.1
  have K := Lib.hid HZ.out.2
  clear HZ hA hB
  unfold Ad.val
  go_enter Try.func84, Try.ntmps84
  go_upto_region 1 with fail
  unfold adC at HB K HOK
  generalize (w.alloc _).alloc _ = wa at *
  have HB : Hid (wa.heap[w.heap.size]? = some (.cells (adC A) 38 (0, 0)) ∧ wa.heap[w.heap.size + 1]? = some (.cells (adC B) 38 (0, 0))) := HB
  have GZ : Hid (wa.grownBy wa none) := Lib.hid (grown_refl _ _)
  obtain ⟨a0, a1, a2, a3, a4, b0, b1, b2, b3, b4, -⟩ := keepTA HB.out GZ
  go_region_held3 (fun w' => w'.cell? ⟨w.heap.size, 0, none⟩ = some (.int .i64 A.r) ∧ w'.cell? ⟨w.heap.size, 1, none⟩ = some (.int .i64 A.q) ∧ w'.cell? ⟨w.heap.size, 2, none⟩ = some (.bool A.cp) ∧ w'.cell? ⟨w.heap.size, 3, none⟩ = some (.slice A.pL A.L.length A.cL) ∧ w'.cell? ⟨w.heap.size, 4, none⟩ = some (.slice A.pC A.C.length A.cC) ∧ w'.cell? ⟨w.heap.size + 1, 0, none⟩ = some (.int .i64 B.r) ∧ w'.cell? ⟨w.heap.size + 1, 1, none⟩ = some (.int .i64 B.q) ∧ w'.cell? ⟨w.heap.size + 1, 2, none⟩ = some (.bool B.cp) ∧ w'.cell? ⟨w.heap.size + 1, 3, none⟩ = some (.slice B.pL B.L.length B.cL) ∧ w'.cell? ⟨w.heap.size + 1, 4, none⟩ = some (.slice B.pC B.C.length B.cC) ∧ Hid (wa.grownBy w' none))
    (first | with_reducible exact keepTA HB.out (hid_drew GZ) | with_reducible exact keepTA HB.out (hid_drew (hid_more GZ (World.grownBy_alloc _ _ _))) | (go_split_ands; with_reducible refine keepTA HB.out ?_; with_reducible assumption) | (go_split_ands; with_reducible refine keepTA HB.out (hid_more ?_ hap); with_reducible assumption) | (go_split_ands; with_reducible refine keepTA HB.out (hid_more ?_ (World.grownBy_alloc _ _ _)); with_reducible assumption))
    (first
      | (go_at_call 112; refine (tcmp_any _ _ _).mono ?_; rintro e w' ⟨rfl, rfl⟩)
      | (go_at_call 113; refine (abit_any _ _).mono ?_; rintro e w' ⟨rfl, rfl⟩)
      | (go_at_call 114; go_split_ands; refine (aclR_at (w0 := wa) ?_ HOK).mono ?_; assumption; rintro e wb ⟨rfl, hap⟩)
      | (go_at_call 116; go_split_ands; refine (aclC_at (w0 := wa) ?_ HOK).mono ?_; assumption; rintro e wc ⟨rfl, hap⟩)
      | (go_at_call 111; refine (tor_any [cmpV A.r B.r, cmpV A.q B.q, cmpV ((A.cp.toNat : Nat) : Int) ((B.cp.toNat : Nat) : Int), cLs A.L B.L, cLs A.C B.C] _ _ (fun _ => True) _ ?_ (by simp)).mono ?_; (first | exact rd_five _ _ _ _ _ _ _ trivial | exact (rd_five _ _ _ _ _ _ _ trivial).keep (grown_drew (grown_refl _ _))); rintro e w' ⟨rfl, rfl⟩))
  all_goals
    go_split_ands
    go_wp2_with fail
    go_ret
    exact ⟨rfl, grown_trans K.out (Hid.out (by assumption))⟩
end Go.Proofs.Ytnpkihioklpnmaa

/- advert: Same, Newer. -/
namespace Go.Proofs.Ytnpkihioklpnmaa
open Go.RowKit Bs
/-- Newer. -/
def nwA (A B : Ad) : Bool := vAd A && (vAd B && (decide (A.r = B.r) && decide (0 < cmpA A B)))
set_option maxRecDepth 100000 in
theorem TwoA.keep {w w' : World} {A B : Ad} {q q2 : Nat → Prop} (h : TwoA w A B q q2) (g : w.grownBy w' none) : TwoA w' A B q q2 := ⟨h.a.keep g, h.b.keep g⟩
set_option maxRecDepth 100000 in
set_option maxHeartbeats 6400000 in
theorem asame_any (A B : Ad) (q q2 : Nat → Prop) (w : World) (hA : AdOk w q A) (hB : AdOk w q2 B) :
    Calls Try.prog 53 #[A.val, B.val] w fun e w' => e = .returned (.bool (decide (cmpA A B = 0))) ∧ w.grownBy w' none := by
  have HZ := Lib.hid (two_ads w A B)
  have HOK : Hid (TwoA _ A B q q2) := Lib.hid ⟨hA.keep HZ.out.2, hB.keep HZ.out.2⟩
  have HB := Lib.hid HZ.out.1
  have K := Lib.hid HZ.out.2
  clear HZ hA hB
  obtain ⟨X, hX⟩ : ∃ X, decide (cmpA A B = 0) = X := ⟨_, rfl⟩
  rw [hX]
  have HX := Lib.hid hX
  clear hX
  unfold Ad.val
  go_enter Try.func53, Try.ntmps53
  go_upto_region 1 with fail
  unfold adC at HB K HOK
  generalize (w.alloc _).alloc _ = wa at *
  have HB : Hid (wa.heap[w.heap.size]? = some (.cells (adC A) 38 (0, 0)) ∧ wa.heap[w.heap.size + 1]? = some (.cells (adC B) 38 (0, 0))) := HB
  have GZ : Hid (wa.grownBy wa none) := Lib.hid (grown_refl _ _)
  obtain ⟨a0, a1, a2, a3, a4, b0, b1, b2, b3, b4, -⟩ := keepTA HB.out GZ
  go_wp2_with fail
  refine (acmpA_any A B q q2 _ HOK.out.a HOK.out.b).mono ?_
  rintro e w1 ⟨rfl, hg⟩
  have HG := Lib.hid (grown_trans K.out hg)
  obtain ⟨z, hz⟩ : ∃ z, cmpA A B = z := ⟨_, rfl⟩
  have HZ := Lib.hid hz
  rw [hz]
  clear hz hg a0 a1 a2 a3 a4 b0 b1 b2 b3 b4 HB HOK K GZ
  by_cases h : z = 0
  · obtain rfl : X = true := by rw [← HX.out, HZ.out, decide_eq_true h]
    clear HX HZ
    subst h
    go_wp2_with fail
    go_ret
    exact ⟨rfl, HG.out⟩
  · have h' : (z == 0) = false := by simpa using h
    obtain rfl : X = false := by rw [← HX.out, HZ.out, decide_eq_false h]
    clear h
    go_wp2_with fail
    go_ret
    exact ⟨rfl, HG.out⟩
set_option maxRecDepth 100000 in
set_option maxHeartbeats 6400000 in
theorem anewer_any (A B : Ad) (q q2 : Nat → Prop) (w : World) (hA : AdOk w q A) (hB : AdOk w q2 B) :
    Calls Try.prog 90 #[A.val, B.val] w fun e w' => e = .returned (.bool (nwA A B)) ∧ w.grownBy w' none := by
  have HZ := Lib.hid (two_ads w A B)
  have HOK : Hid (TwoA _ A B q q2) := Lib.hid ⟨hA.keep HZ.out.2, hB.keep HZ.out.2⟩
  have HB := Lib.hid HZ.out.1
  have K := Lib.hid HZ.out.2
  clear HZ hA hB
  obtain ⟨X, hX⟩ : ∃ X, nwA A B = X := ⟨_, rfl⟩
  rw [hX]
  have HX := Lib.hid hX
  clear hX
  unfold Ad.val
  go_enter Try.func90, Try.ntmps90
  go_upto_region 1 with fail
  unfold adC at HB K HOK
  generalize (w.alloc _).alloc _ = wa at *
  have HB : Hid (wa.heap[w.heap.size]? = some (.cells (adC A) 38 (0, 0)) ∧ wa.heap[w.heap.size + 1]? = some (.cells (adC B) 38 (0, 0))) := HB
  have GZ : Hid (wa.grownBy wa none) := Lib.hid (grown_refl _ _)
  obtain ⟨a0, a1, a2, a3, a4, b0, b1, b2, b3, b4, -⟩ := keepTA HB.out GZ
  go_wp2_with fail
  refine (avalid_any A q _ HOK.out.a).mono ?_
  rintro e w1 ⟨rfl, hg⟩
  have G1 := Lib.hid hg
  clear hg a0 a1 a2 a3 a4 b0 b1 b2 b3 b4
  obtain ⟨a0, a1, a2, a3, a4, b0, b1, b2, b3, b4, -⟩ := keepTA HB.out G1
  obtain ⟨v1, hv1⟩ : ∃ v, vAd A = v := ⟨_, rfl⟩
  have HV1 := Lib.hid hv1
  rw [hv1]
  clear hv1
  cases v1 with
  | false =>
    obtain rfl : X = false := by rw [← HX.out]; unfold nwA; rw [HV1.out]; rfl
    go_wp2_with fail
    go_ret
    exact ⟨rfl, grown_trans K.out G1.out⟩
  | true =>
    go_wp2_with fail
    refine (avalid_any B q2 _ (HOK.out.b.keep G1.out)).mono ?_
    rintro e w2 ⟨rfl, hg⟩
    have G2 := Lib.hid (grown_trans G1.out hg)
    clear hg a0 a1 a2 a3 a4 b0 b1 b2 b3 b4
    obtain ⟨a0, a1, a2, a3, a4, b0, b1, b2, b3, b4, -⟩ := keepTA HB.out G2
    obtain ⟨v2, hv2⟩ : ∃ v, vAd B = v := ⟨_, rfl⟩
    have HV2 := Lib.hid hv2
    rw [hv2]
    clear hv2
    cases v2 with
    | false =>
      obtain rfl : X = false := by rw [← HX.out]; unfold nwA; rw [HV1.out, HV2.out]; rfl
      go_wp2_with fail
      go_ret
      exact ⟨rfl, grown_trans K.out G2.out⟩
    | true =>
      by_cases h : A.r = B.r
      · have h' : (A.r == B.r) = true := by simpa using h
        have HH := Lib.hid h
        clear h
        go_wp2_with fail
        refine (acmpA_any A B q q2 _ (HOK.out.a.keep G2.out) (HOK.out.b.keep G2.out)).mono ?_
        rintro e w3 ⟨rfl, hg⟩
        have G3 := Lib.hid (grown_trans G2.out hg)
        obtain ⟨z, hz⟩ : ∃ z, cmpA A B = z := ⟨_, rfl⟩
        have HZ := Lib.hid hz
        rw [hz]
        clear hz hg a0 a1 a2 a3 a4 b0 b1 b2 b3 b4
        obtain rfl : X = decide (0 < z) := by rw [← HX.out]; unfold nwA; rw [HV1.out, HV2.out, HZ.out, decide_eq_true HH.out]; rfl
        go_wp2_with fail
        go_ret
        exact ⟨rfl, grown_trans K.out G3.out⟩
      · have h' : (A.r == B.r) = false := by simpa using h
        obtain rfl : X = false := by rw [← HX.out]; unfold nwA; rw [HV1.out, HV2.out, decide_eq_false h]; rfl
        clear h
        go_wp2_with fail
        go_ret
        exact ⟨rfl, grown_trans K.out G2.out⟩
end Go.Proofs.Ytnpkihioklpnmaa

/- advert: the order is total. -/
namespace Go.Proofs.Ytnpkihioklpnmaa
open Go.RowKit Bs
/-- A total order up to what compares as nought. -/
structure Cmp {α : Type} (f : α → α → Int) : Prop where
  anti : ∀ x y, f y x = - f x y
  tr : ∀ x y z, 0 < f x y → 0 < f y z → 0 < f x z
  eq0 : ∀ x y, f x y = 0 → ∀ z, f x z = f y z
def lex {α : Type} (f g : α → α → Int) (x y : α) : Int := if f x y = 0 then g x y else f x y
set_option maxRecDepth 100000 in
theorem Cmp.lex {α : Type} {f g : α → α → Int} (hf : Cmp f) (hg : Cmp g) : Cmp (lex f g) := by
  refine ⟨fun x y => ?_, fun x y z h1 h2 => ?_, fun x y h z => ?_⟩
  · have a1 := hf.anti x y
    have a2 := hg.anti x y
    unfold Go.Proofs.Ytnpkihioklpnmaa.lex
    split <;> split <;> omega
  · unfold Go.Proofs.Ytnpkihioklpnmaa.lex at h1 h2 ⊢
    by_cases e1 : f x y = 0
    · rw [if_pos e1] at h1
      have e := hf.eq0 x y e1 z
      by_cases e2 : f y z = 0
      · rw [if_pos e2] at h2
        rw [e, if_pos e2]
        exact hg.tr x y z h1 h2
      · rw [if_neg e2] at h2
        rw [e, if_neg e2]
        exact h2
    · rw [if_neg e1] at h1
      by_cases e2 : f y z = 0
      · have e3 := hf.eq0 y z e2 x
        have a1 := hf.anti x y
        have a2 := hf.anti x z
        have : 0 < f x z := by omega
        rw [if_neg (by omega)]
        exact this
      · rw [if_neg e2] at h2
        have := hf.tr x y z h1 h2
        rw [if_neg (by omega)]
        exact this
  · unfold Go.Proofs.Ytnpkihioklpnmaa.lex at h ⊢
    by_cases e1 : f x y = 0
    · rw [if_pos e1] at h
      rw [hf.eq0 x y e1 z, hg.eq0 x y h z]
    · rw [if_neg e1] at h
      exact absurd h e1
set_option maxRecDepth 100000 in
theorem cmpV_cmp {α : Type} (h : α → Int) : Cmp (fun x y => cmpV (h x) (h y)) := by
  refine ⟨fun x y => ?_, fun x y z => ?_, fun x y e z => ?_⟩ <;> unfold cmpV at *
  · repeat' split
    all_goals omega
  · repeat' split
    all_goals omega
  · repeat' split at e
    all_goals (repeat' split)
    all_goals omega
set_option maxRecDepth 100000 in
theorem orV_two (a b : Int) : orV [a, b] = if a = 0 then b else a := by
  unfold orV orV orV
  split <;> (try split) <;> (try rfl)
  all_goals omega
set_option maxRecDepth 100000 in
theorem orV_cons (a : Int) (r : List Int) : orV (a :: r) = if a = 0 then orV r else a := rfl
set_option maxRecDepth 100000 in
theorem cmp3_cmp : Cmp cmp3 := by
  have h : cmp3 = lex (fun x y => cmpV x.a y.a) (lex (fun x y => cmpV x.b y.b) (fun x y => cmpV x.c y.c)) := by
    funext x y
    unfold cmp3 lex
    rw [orV_cons, orV_two]
  rw [h]
  exact (cmpV_cmp _).lex ((cmpV_cmp _).lex (cmpV_cmp _))
set_option maxRecDepth 100000 in
theorem Cmp.self {α : Type} {f : α → α → Int} (h : Cmp f) (x : α) : f x x = 0 := by have := h.anti x x; omega
set_option maxRecDepth 100000 in
theorem cfL_anti : ∀ L M : List T3, cfL M L = - cfL L M
  | [], [] => rfl
  | [], _ :: _ => rfl
  | _ :: _, [] => rfl
  | x :: s, y :: t => by
    rw [cfL, cfL, cfL_anti s t]
    have := cmp3_cmp.anti x y
    split <;> split <;> omega
set_option maxRecDepth 100000 in
theorem cfL_eq0 : ∀ L M : List T3, cfL L M = 0 → ∀ N, cfL L N = cfL M N
  | [], [], _, _ => rfl
  | [], _ :: _, h, _ => by rw [cfL] at h; exact absurd h (by decide)
  | _ :: _, [], h, _ => by rw [cfL] at h; exact absurd h (by decide)
  | x :: s, y :: t, h, N => by
    rw [cfL] at h
    by_cases e : cmp3 x y = 0
    · rw [if_pos e] at h
      cases N with
      | nil => rfl
      | cons z u => rw [cfL, cfL, cmp3_cmp.eq0 x y e z, cfL_eq0 s t h u]
    · rw [if_neg e] at h
      exact absurd h e
set_option maxRecDepth 100000 in
theorem cfL_tr : ∀ L M N : List T3, 0 < cfL L M → 0 < cfL M N → 0 < cfL L N
  | [], [], _, h, _ => by rw [cfL] at h; exact absurd h (by decide)
  | [], _ :: _, _, h, _ => by rw [cfL] at h; exact absurd h (by decide)
  | _ :: _, [], [], _, h => by rw [cfL] at h; exact absurd h (by decide)
  | _ :: _, [], _ :: _, _, h => by rw [cfL] at h; exact absurd h (by decide)
  | _ :: _, _ :: _, [], _, _ => by rw [cfL]; decide
  | x :: s, y :: t, z :: u, h1, h2 => by
    rw [cfL] at h1 h2 ⊢
    have ih := cfL_tr s t u
    have a1 := cmp3_cmp.anti x y
    have a2 := cmp3_cmp.anti x z
    have a3 := cmp3_cmp.anti y z
    by_cases e1 : cmp3 x y = 0
    · rw [if_pos e1] at h1
      rw [cmp3_cmp.eq0 x y e1 z]
      by_cases e2 : cmp3 y z = 0
      · rw [if_pos e2] at h2 ⊢; exact ih h1 h2
      · rw [if_neg e2] at h2 ⊢; exact h2
    · rw [if_neg e1] at h1
      by_cases e2 : cmp3 y z = 0
      · have e3 := cmp3_cmp.eq0 y z e2 x
        have : 0 < cmp3 x z := by have := cmp3_cmp.anti x z; have := cmp3_cmp.anti x y; omega
        rw [if_neg (by omega)]; exact this
      · rw [if_neg e2] at h2
        have := cmp3_cmp.tr x y z h1 h2
        rw [if_neg (by omega)]; exact this
set_option maxRecDepth 100000 in
theorem cfL_cmp : Cmp cfL := ⟨cfL_anti, cfL_tr, cfL_eq0⟩
set_option maxRecDepth 100000 in
theorem Cmp.on {α β : Type} {f : β → β → Int} (h : Cmp f) (g : α → β) : Cmp (fun x y => f (g x) (g y)) := ⟨fun _ _ => h.anti _ _, fun _ _ _ h1 h2 => h.tr _ _ _ h1 h2, fun _ _ e z => h.eq0 _ _ e (g z)⟩
set_option maxRecDepth 100000 in
theorem cLs_cmp : Cmp cLs := by
  have h : cLs = lex (fun L M => cmpV (L.length : Int) (M.length : Int)) cfL := by
    funext L M
    unfold cLs lex
    rw [orV_two]
  rw [h]
  exact (cmpV_cmp _).lex cfL_cmp
set_option maxRecDepth 100000 in
/-- The order of adverts is total. -/
theorem cmpA_cmp : Cmp cmpA := by
  have h : cmpA = lex (fun A B => cmpV A.r B.r) (lex (fun A B => cmpV A.q B.q) (lex (fun A B => cmpV ((A.cp.toNat : Nat) : Int) ((B.cp.toNat : Nat) : Int)) (lex (fun A B => cLs A.L B.L) (fun A B => cLs A.C B.C)))) := by
    funext A B
    unfold cmpA lex
    rw [orV_cons, orV_cons, orV_cons, orV_two]
  rw [h]
  exact (cmpV_cmp _).lex ((cmpV_cmp _).lex ((cmpV_cmp _).lex ((cLs_cmp.on _).lex (cLs_cmp.on _))))
end Go.Proofs.Ytnpkihioklpnmaa

/- advert: equal adverts, newer adverts. -/
namespace Go.Proofs.Ytnpkihioklpnmaa
open Go.RowKit Bs
set_option maxRecDepth 100000 in
theorem cmpV_zero {x y : Int} : cmpV x y = 0 ↔ x = y := by
  unfold cmpV
  repeat' split
  all_goals omega
set_option maxRecDepth 100000 in
theorem orV_zero {a : Int} {r : List Int} : orV (a :: r) = 0 ↔ (a = 0 ∧ orV r = 0) := by
  rw [orV_cons]
  by_cases e : a = 0
  · rw [if_pos e]; exact ⟨fun h => ⟨e, h⟩, fun h => h.2⟩
  · rw [if_neg e]; exact ⟨fun h => absurd h e, fun h => absurd h.1 e⟩
set_option maxRecDepth 100000 in
theorem orV_nil : orV [] = 0 := rfl
set_option maxRecDepth 100000 in
theorem cmp3_zero {x y : T3} : cmp3 x y = 0 ↔ x = y := by
  unfold cmp3
  rw [orV_zero, orV_zero, orV_zero, orV_nil, cmpV_zero, cmpV_zero, cmpV_zero]
  cases x; cases y
  simp
set_option maxRecDepth 100000 in
theorem cfL_zero : ∀ {L M : List T3}, cfL L M = 0 ↔ L = M
  | [], [] => by rw [cfL]; simp
  | [], _ :: _ => by rw [cfL]; simp
  | _ :: _, [] => by rw [cfL]; simp
  | x :: s, y :: t => by
    rw [cfL]
    by_cases e : cmp3 x y = 0
    · rw [if_pos e, cfL_zero (L := s) (M := t), cmp3_zero.1 e]; simp
    · rw [if_neg e]
      have : x ≠ y := fun h => e (cmp3_zero.2 h)
      simp [e, this]
set_option maxRecDepth 100000 in
theorem cLs_zero {L M : List T3} : cLs L M = 0 ↔ L = M := by
  unfold cLs
  rw [orV_zero, orV_zero, orV_nil, cmpV_zero, cfL_zero]
  exact ⟨fun h => h.2.1, fun h => ⟨by rw [h], h, rfl⟩⟩
/-- Two adverts are equal. -/
def smA (A B : Ad) : Prop := A.r = B.r ∧ A.q = B.q ∧ A.cp = B.cp ∧ A.L = B.L ∧ A.C = B.C
set_option maxRecDepth 100000 in
theorem cmpA_zero {A B : Ad} : cmpA A B = 0 ↔ smA A B := by
  unfold cmpA smA
  rw [orV_zero, orV_zero, orV_zero, orV_zero, orV_zero, orV_nil, cmpV_zero, cmpV_zero, cmpV_zero, cLs_zero, cLs_zero]
  cases A.cp <;> cases B.cp <;> simp
set_option maxRecDepth 100000 in
theorem nw_same {A B : Ad} (h : cmpA A B = 0) : nwA A B = false ∧ nwA B A = false := by
  have h2 : cmpA B A = 0 := by have := cmpA_cmp.anti A B; omega
  unfold nwA
  rw [h, h2]
  simp
set_option maxRecDepth 100000 in
theorem nw_one {A B : Ad} (hA : vAd A = true) (hB : vAd B = true) (hr : A.r = B.r) (h : cmpA A B ≠ 0) : nwA A B = !nwA B A := by
  have h2 := cmpA_cmp.anti A B
  unfold nwA
  rw [hA, hB, decide_eq_true hr, decide_eq_true hr.symm]
  simp only [Bool.true_and]
  by_cases e : 0 < cmpA A B
  · rw [decide_eq_true e, decide_eq_false (by omega)]; rfl
  · rw [decide_eq_false e, decide_eq_true (by omega)]; rfl
set_option maxRecDepth 100000 in
theorem nw_tr {A B C : Ad} (h1 : nwA A B = true) (h2 : nwA B C = true) : nwA A C = true := by
  unfold nwA at *
  simp only [Bool.and_eq_true, decide_eq_true_eq] at *
  exact ⟨h1.1, h2.2.1, h1.2.2.1.trans h2.2.2.1, cmpA_cmp.tr A B C h1.2.2.2 h2.2.2.2⟩
end Go.Proofs.Ytnpkihioklpnmaa

/- advert: what bytes say; Decode undoes Encode, the mathematics. -/
namespace Go.Proofs.Ytnpkihioklpnmaa
open Go.RowKit Bs
/-- The number in a field; 0 if it does not end within the bytes. -/
def fd (l : List Nat) (p k : Nat) : Nat := if 8 * l.length < p + k then 0 else num (bt l) p k
def rdL (l : List Nat) (n : Nat) : List T3 := (List.range n).map fun i => ⟨(fd l (33 + i * 27) 7 : Nat), (fd l (33 + i * 27 + 7) 10 : Nat), (fd l (33 + i * 27 + 7 + 10) 10 : Nat)⟩
def rdC (l : List Nat) (p n : Nat) : List T3 := (List.range n).map fun i => ⟨(fd l (p + i * 14) 3 : Nat), (fd l (p + i * 14 + 3) 9 : Nat), (8 * 2 ^ fd l (p + i * 14 + 3 + 9) 2 : Nat)⟩
def nLk (l : List Nat) : Nat := fd l 28 5
def aCm (l : List Nat) : Nat := 33 + nLk l * 27
def nCm (l : List Nat) : Nat := fd l (aCm l) 4
def eCm (l : List Nat) : Nat := aCm l + 4 + nCm l * 14
/-- The fields of an advert are those that the bytes say. -/
structure AdIs (l : List Nat) (A : Ad) : Prop where
  r : A.r = (fd l 0 7 : Nat)
  q : A.q = (fd l 7 20 : Nat)
  cp : A.cp = decide (fd l 27 1 = 1)
  L : A.L = rdL l (nLk l)
  C : A.C = rdC l (aCm l + 4) (nCm l)
set_option maxRecDepth 100000 in
theorem fd_lt (l : List Nat) (p k : Nat) : fd l p k < 2 ^ k := by
  unfold fd
  split
  · exact Nat.two_pow_pos k
  · exact num_lt _ _ _
set_option maxRecDepth 100000 in
theorem rdL_len (l : List Nat) (n : Nat) : (rdL l n).length = n := by unfold rdL; simp
set_option maxRecDepth 100000 in
theorem rdC_len (l : List Nat) (p n : Nat) : (rdC l p n).length = n := by unfold rdC; simp
set_option maxRecDepth 100000 in
theorem rdL_succ (l : List Nat) (n : Nat) : rdL l (n + 1) = rdL l n ++ [⟨(fd l (33 + n * 27) 7 : Nat), (fd l (33 + n * 27 + 7) 10 : Nat), (fd l (33 + n * 27 + 7 + 10) 10 : Nat)⟩] := by unfold rdL; rw [List.range_succ, List.map_append]; rfl
set_option maxRecDepth 100000 in
theorem rdC_succ (l : List Nat) (p n : Nat) : rdC l p (n + 1) = rdC l p n ++ [⟨(fd l (p + n * 14) 3 : Nat), (fd l (p + n * 14 + 3) 9 : Nat), (8 * 2 ^ fd l (p + n * 14 + 3 + 9) 2 : Nat)⟩] := by unfold rdC; rw [List.range_succ, List.map_append]; rfl
/-- The error of bytes, but for what the fields say. -/
def decE (l : List Nat) (v : Bool) : Nat :=
  if 8 * l.length < eCm l + 16 then 20
  else if num (bt l) (eCm l) 16 ≠ Bs.crcB (bt l) (eCm l) then 23
  else if num (bt l) (eCm l + 16) ((8 - (eCm l + 16) % 8) % 8) ≠ 0 then 24
  else if (eCm l + 16 + 7) / 8 < l.length then 21
  else if v = false then 1 else 0
/-! What an encoding says. -/
set_option maxRecDepth 100000 in
theorem anum_mid (A C : List Bool) (x k : Nat) (hx : x < 2 ^ k) : num (bf (A ++ nb x k ++ C)) A.length k = x := by
  refine (num_eq hx fun t ht => ?_).symm
  rw [bf_left _ _ _ (by rw [List.length_append, nb_len]; omega), bf_right, bf_nb _ _ _ ht]
set_option maxRecDepth 100000 in
theorem anum_pk {B : List Bool} {l : List Nat} {a k : Nat} (hl : l = pk B) (h : a + k ≤ 8 * l.length) : num (bt l) a k = num (bf B) a k := by
  refine num_congr k fun t ht => ?_
  rw [hl]
  refine bt_pk B _ ?_
  rw [hl, pk_len] at h
  omega
set_option maxRecDepth 100000 in
theorem fd_mid {l : List Nat} (P Q : List Bool) (x k p : Nat) (hl : l = pk (P ++ nb x k ++ Q)) (hp : p = P.length) (hx : x < 2 ^ k) : fd l p k = x := by
  have h1 : p + k ≤ 8 * l.length := by rw [hl, pk_len, hp]; simp only [List.length_append, nb_len]; omega
  unfold fd
  rw [if_neg (by omega), anum_pk hl h1, hp]
  exact anum_mid P Q x k hx
/-- The bits of an encoding. -/
def alB (A : Ad) : List Bool := adB A ++ nb (ck (adB A)) 16
set_option maxRecDepth 100000 in
theorem encA_al (A : Ad) : encA A = pk (alB A) := rfl
set_option maxRecDepth 100000 in
theorem flatA_at {f : T3 → List Bool} {l : List T3} {k : Nat} {x : T3} (h : l[k]? = some x) : l.flatMap f = (l.take k).flatMap f ++ f x ++ (l.drop (k + 1)).flatMap f := by
  have e : l = l.take k ++ x :: l.drop (k + 1) := by
    obtain ⟨hk, he⟩ := List.getElem?_eq_some_iff.1 h
    rw [← he, ← List.drop_eq_getElem_cons hk, List.take_append_drop]
  have e2 : l.flatMap f = (l.take k ++ x :: l.drop (k + 1)).flatMap f := congrArg (List.flatMap f) e
  rw [e2, List.flatMap_append, List.flatMap_cons, ← List.append_assoc]
set_option maxRecDepth 100000 in
theorem alB_lk {A : Ad} {k : Nat} {x : T3} (h : A.L[k]? = some x) : ∃ Q, alB A = lkB A k ++ nb x.a.toNat 7 ++ nb x.b.toNat 10 ++ nb x.c.toNat 10 ++ Q := by
  refine ⟨(A.L.drop (k + 1)).flatMap encR ++ nb A.C.length 4 ++ (A.C.take A.C.length).flatMap encK ++ nb (ck (adB A)) 16, ?_⟩
  unfold alB
  generalize nb (ck (adB A)) 16 = T
  unfold adB cmB mdB lkB
  rw [List.take_length, flatA_at (f := encR) h]
  simp only [encR, List.append_assoc]
set_option maxRecDepth 100000 in
theorem alB_cm {A : Ad} {k : Nat} {x : T3} (h : A.C[k]? = some x) : ∃ Q, alB A = cmB A k ++ nb x.a.toNat 3 ++ nb x.b.toNat 9 ++ nb (codeN x.c) 2 ++ Q := by
  refine ⟨(A.C.drop (k + 1)).flatMap encK ++ nb (ck (adB A)) 16, ?_⟩
  unfold alB
  generalize nb (ck (adB A)) 16 = T
  unfold adB cmB
  rw [List.take_length, flatA_at (f := encK) h]
  simp only [encK, List.append_assoc]
set_option maxRecDepth 100000 in
theorem code_bk {c : Int} (h : c = 8 ∨ c = 16 ∨ c = 32 ∨ c = 64) : ((8 * 2 ^ codeN c : Nat) : Int) = c ∧ codeN c < 4 := by
  rcases h with rfl | rfl | rfl | rfl <;> decide
set_option maxRecDepth 100000 in
theorem enc_nLk {A : Ad} (h : VA A) : nLk (encA A) = A.L.length := by
  unfold nLk
  refine fd_mid (nb A.r.toNat 7 ++ nb A.q.toNat 20 ++ nb A.cp.toNat 1) ((A.L.take A.L.length).flatMap encR ++ nb A.C.length 4 ++ (A.C.take A.C.length).flatMap encK ++ nb (ck (adB A)) 16) _ 5 28 ?_ ?_ ?_
  · rw [encA_al]
    refine congrArg pk ?_
    unfold alB
    generalize nb (ck (adB A)) 16 = T
    unfold adB cmB mdB lkB hdB
    simp only [List.append_assoc]
  · simp only [List.length_append, nb_len]
  · have := h.ll; omega
set_option maxRecDepth 100000 in
theorem enc_aCm {A : Ad} (h : VA A) : aCm (encA A) = 33 + A.L.length * 27 := by unfold aCm; rw [enc_nLk h]
set_option maxRecDepth 100000 in
theorem enc_nCm {A : Ad} (h : VA A) : nCm (encA A) = A.C.length := by
  unfold nCm
  rw [enc_aCm h]
  refine fd_mid (lkB A A.L.length) ((A.C.take A.C.length).flatMap encK ++ nb (ck (adB A)) 16) _ 4 _ ?_ ?_ ?_
  · rw [encA_al]
    refine congrArg pk ?_
    unfold alB
    generalize nb (ck (adB A)) 16 = T
    unfold adB cmB mdB
    simp only [List.append_assoc]
  · rw [lkB_len, List.take_length]
  · have := h.cl; omega
set_option maxRecDepth 100000 in
theorem enc_eCm {A : Ad} (h : VA A) : eCm (encA A) = (adB A).length := by
  unfold eCm
  rw [enc_aCm h, enc_nCm h, adB_len]
  omega
set_option maxRecDepth 100000 in
theorem enc_len2 (A : Ad) : (encA A).length = ((adB A).length + 16 + 7) / 8 := by rw [encA_al, pk_len]; unfold alB; rw [List.length_append, nb_len]
set_option maxRecDepth 100000 in
theorem enc_is {A : Ad} (h : VA A) : AdIs (encA A) A := by
  have e := encA_al A
  refine ⟨?_, ?_, ?_, ?_, ?_⟩
  · rw [fd_mid [] (nb A.q.toNat 20 ++ nb A.cp.toNat 1 ++ nb A.L.length 5 ++ (A.L.take A.L.length).flatMap encR ++ nb A.C.length 4 ++ (A.C.take A.C.length).flatMap encK ++ nb (ck (adB A)) 16) A.r.toNat 7 0 ?_ rfl (by have := h.r; omega), Int.toNat_of_nonneg (by have := h.r; omega)]
    rw [e]
    refine congrArg pk ?_
    unfold alB
    generalize nb (ck (adB A)) 16 = T
    unfold adB cmB mdB lkB hdB
    simp only [List.append_assoc, List.nil_append]
  · rw [fd_mid (nb A.r.toNat 7) (nb A.cp.toNat 1 ++ nb A.L.length 5 ++ (A.L.take A.L.length).flatMap encR ++ nb A.C.length 4 ++ (A.C.take A.C.length).flatMap encK ++ nb (ck (adB A)) 16) A.q.toNat 20 7 ?_ (by rw [nb_len]) (by have := h.q; omega), Int.toNat_of_nonneg (by have := h.q; omega)]
    rw [e]
    refine congrArg pk ?_
    unfold alB
    generalize nb (ck (adB A)) 16 = T
    unfold adB cmB mdB lkB hdB
    simp only [List.append_assoc]
  · rw [fd_mid (nb A.r.toNat 7 ++ nb A.q.toNat 20) (nb A.L.length 5 ++ (A.L.take A.L.length).flatMap encR ++ nb A.C.length 4 ++ (A.C.take A.C.length).flatMap encK ++ nb (ck (adB A)) 16) A.cp.toNat 1 27 ?_ (by simp only [List.length_append, nb_len]) (by cases A.cp <;> decide)]
    · cases A.cp <;> rfl
    rw [e]
    refine congrArg pk ?_
    unfold alB
    generalize nb (ck (adB A)) 16 = T
    unfold adB cmB mdB lkB hdB
    simp only [List.append_assoc]
  · rw [enc_nLk h]
    refine List.ext_getElem? fun i => ?_
    rcases Nat.lt_or_ge i A.L.length with hi | hi
    · obtain ⟨x, hx⟩ : ∃ x, A.L[i]? = some x := ⟨_, List.getElem?_eq_getElem hi⟩
      obtain ⟨Q, hQ⟩ := alB_lk hx
      have hb := h.L x (List.mem_of_getElem? hx)
      have hlen : (lkB A i).length = 33 + i * 27 := by rw [lkB_len, List.length_take, Nat.min_eq_left (by omega)]
      unfold rdL
      rw [hx, List.getElem?_map, List.getElem?_range hi]
      show some x = some (⟨_, _, _⟩ : T3)
      rw [fd_mid (lkB A i) (nb x.b.toNat 10 ++ nb x.c.toNat 10 ++ Q) x.a.toNat 7 _ (by rw [e, hQ]; simp only [List.append_assoc]) hlen.symm (by omega),
        fd_mid (lkB A i ++ nb x.a.toNat 7) (nb x.c.toNat 10 ++ Q) x.b.toNat 10 _ (by rw [e, hQ]; simp only [List.append_assoc]) (by rw [List.length_append, hlen, nb_len]) (by omega),
        fd_mid (lkB A i ++ nb x.a.toNat 7 ++ nb x.b.toNat 10) Q x.c.toNat 10 _ (by rw [e, hQ]) (by rw [List.length_append, List.length_append, hlen, nb_len, nb_len]) (by omega),
        Int.toNat_of_nonneg (by omega), Int.toNat_of_nonneg (by omega), Int.toNat_of_nonneg (by omega)]
    · rw [List.getElem?_eq_none hi, List.getElem?_eq_none (by rw [rdL_len]; exact hi)]
  · rw [enc_nCm h, enc_aCm h]
    refine List.ext_getElem? fun i => ?_
    rcases Nat.lt_or_ge i A.C.length with hi | hi
    · obtain ⟨x, hx⟩ : ∃ x, A.C[i]? = some x := ⟨_, List.getElem?_eq_getElem hi⟩
      obtain ⟨Q, hQ⟩ := alB_cm hx
      have hb := h.C x (List.mem_of_getElem? hx)
      obtain ⟨k1, k2⟩ := code_bk hb.2.2
      have hlen : (cmB A i).length = 33 + A.L.length * 27 + 4 + i * 14 := by rw [cmB_len, List.length_take, Nat.min_eq_left (by omega)]; omega
      unfold rdC
      rw [hx, List.getElem?_map, List.getElem?_range hi]
      show some x = some (⟨_, _, _⟩ : T3)
      rw [fd_mid (cmB A i) (nb x.b.toNat 9 ++ nb (codeN x.c) 2 ++ Q) x.a.toNat 3 _ (by rw [e, hQ]; simp only [List.append_assoc]) hlen.symm (by omega),
        fd_mid (cmB A i ++ nb x.a.toNat 3) (nb (codeN x.c) 2 ++ Q) x.b.toNat 9 _ (by rw [e, hQ]; simp only [List.append_assoc]) (by rw [List.length_append, hlen, nb_len]) (by omega),
        fd_mid (cmB A i ++ nb x.a.toNat 3 ++ nb x.b.toNat 9) Q (codeN x.c) 2 _ (by rw [e, hQ]) (by rw [List.length_append, List.length_append, hlen, nb_len, nb_len]) (by omega),
        Int.toNat_of_nonneg (by omega), Int.toNat_of_nonneg (by omega), k1]
    · rw [List.getElem?_eq_none hi, List.getElem?_eq_none (by rw [rdC_len]; exact hi)]
set_option maxRecDepth 100000 in
/-- An encoding has no error. -/
theorem enc_decE {A : Ad} (h : VA A) : decE (encA A) true = 0 := by
  have hE := enc_eCm h
  have hlen := enc_len2 A
  have hal : (alB A).length = (adB A).length + 16 := by unfold alB; rw [List.length_append, nb_len]
  unfold decE
  rw [hE, if_neg (by omega), if_neg, if_neg, if_neg (by omega), if_neg (by decide)]
  · intro hne
    refine hne ?_
    have hx : 0 = num (bt (encA A)) ((adB A).length + 16) ((8 - ((adB A).length + 16) % 8) % 8) := by
      refine num_eq (Nat.two_pow_pos _) fun t ht => ?_
      rw [Nat.zero_testBit, encA_al, bt_pk _ _ (by rw [hal]; omega)]
      exact (bf_out _ _ (by rw [hal]; omega)).symm
    exact hx.symm
  · intro hne
    refine hne ?_
    rw [anum_pk (encA_al A) (by rw [hlen]; omega)]
    have h2 := anum_mid (adB A) [] (ck (adB A)) 16 (chk_lt _ _)
    rw [List.append_nil] at h2
    show num (bf (adB A ++ nb (ck (adB A)) 16)) (adB A).length 16 = _
    rw [h2]
    unfold ck
    refine chk_same _ fun i hi => ?_
    rw [encA_al, bt_pk _ _ (by rw [hal]; omega)]
    unfold alB
    rw [bf_left _ _ _ hi]
end Go.Proofs.Ytnpkihioklpnmaa

/- advert: an advert while its lists grow; the reader while fields are taken. -/
namespace Go.Proofs.Ytnpkihioklpnmaa
open Go.RowKit Bs
/-- While an advert is made in block B: the block holds uL, uC; its lists lie in rows of the call's own, vL and vC. Z is the result's block. -/
structure AG (W : World) (Z B : Nat) (r q : Int) (cp : Bool) (uL uC vL vC : Value) (L C : List T3) (w : World) : Prop where
  zb : w.heap[Z]? = some (.cells #[.int .i64 0, .int .i64 0, .bool false, .slice none 0 0, .slice none 0 0] 38 (0, 0))
  ab : w.heap[B]? = some (.cells #[.int .i64 r, .int .i64 q, .bool cp, uL, uC] 38 (0, 0))
  oL : w.ownsRow (B + 1) 73 3 vL L.length (L.flatMap t3C)
  oC : w.ownsRow (B + 1) 62 3 vC C.length (C.flatMap t3C)
  ap : ∀ g, vL.ownBlock = some g → vC.ownBlock ≠ some g
  lo : W.heap.size ≤ Z ∧ Z < B
  sz : B < w.heap.size
section
variable {W w w1 : World} {Z B : Nat} {r q : Int} {cp : Bool} {uL uC vL vC v' : Value} {L C : List T3}
set_option maxRecDepth 100000 in
theorem AG.keep (h : AG W Z B r q cp uL uC vL vC L C w) (g : w.grownBy w1 none) : AG W Z B r q cp uL uC vL vC L C w1 :=
  ⟨kept_row h.zb g (by simp), kept_row h.ab g (by simp), h.oL.kept g (by cases vL.ownBlock <;> simp), h.oC.kept g (by cases vC.ownBlock <;> simp), h.ap, h.lo, Nat.lt_of_lt_of_le h.sz g.size⟩
set_option maxRecDepth 100000 in
theorem AG.out (h : AG W Z B r q cp uL uC vL vC L C w) {b : Nat} (g : w.grownBy w1 (some b)) (hb : b < W.heap.size) : AG W Z B r q cp uL uC vL vC L C w1 := by
  have hlo := h.lo
  exact ⟨kept_row h.zb g (fun e => by have := Option.some.inj e; omega), kept_row h.ab g (fun e => by have := Option.some.inj e; omega), own_otherA h.oL g (by omega), own_otherA h.oC g (by omega), h.ap, h.lo, Nat.lt_of_lt_of_le h.sz g.size⟩
set_option maxRecDepth 100000 in
theorem AG.geL (h : AG W Z B r q cp uL uC vL vC L C w) : ∀ g, vL.ownBlock = some g → B + 1 ≤ g ∧ g < w.heap.size := fun g hg => h.oL.lt g hg
set_option maxRecDepth 100000 in
theorem AG.geC (h : AG W Z B r q cp uL uC vL vC L C w) : ∀ g, vC.ownBlock = some g → B + 1 ≤ g ∧ g < w.heap.size := fun g hg => h.oC.lt g hg
set_option maxRecDepth 100000 in
theorem AG.addL (h : AG W Z B r q cp uL uC vL vC L C w) {M : List T3} (hown : w1.ownsRow (B + 1) 73 3 v' M.length (M.flatMap t3C)) (hg : w.grownBy w1 vL.ownBlock) (hat : v'.ownBlock = vL.ownBlock ∨ v'.ownBlock = some w.heap.size) : AG W Z B r q cp uL uC v' vC M C w1 := by
  have hlo := h.lo
  have hne : ∀ k, k < B + 1 → some k ≠ vL.ownBlock := fun k hk e => by have := (h.geL k e.symm).1; omega
  refine ⟨kept_row h.zb hg (hne _ (by omega)), kept_row h.ab hg (hne _ (by omega)), hown, h.oC.kept hg ?_, ?_, h.lo, Nat.lt_of_lt_of_le h.sz hg.size⟩
  · cases hv : vC.ownBlock with
    | none => exact .inl rfl
    | some k => exact .inr (fun e => h.ap k e.symm hv)
  · intro g2 hg2 e
    rcases hat with h1 | h1
    · exact h.ap g2 (by rw [← h1]; exact hg2) e
    · rw [h1] at hg2
      have := Option.some.inj hg2
      have := (h.geC g2 e).2
      omega
set_option maxRecDepth 100000 in
theorem AG.addC (h : AG W Z B r q cp uL uC vL vC L C w) {M : List T3} (hown : w1.ownsRow (B + 1) 62 3 v' M.length (M.flatMap t3C)) (hg : w.grownBy w1 vC.ownBlock) (hat : v'.ownBlock = vC.ownBlock ∨ v'.ownBlock = some w.heap.size) : AG W Z B r q cp uL uC vL v' L M w1 := by
  have hlo := h.lo
  have hne : ∀ k, k < B + 1 → some k ≠ vC.ownBlock := fun k hk e => by have := (h.geC k e.symm).1; omega
  refine ⟨kept_row h.zb hg (hne _ (by omega)), kept_row h.ab hg (hne _ (by omega)), h.oL.kept hg ?_, hown, ?_, h.lo, Nat.lt_of_lt_of_le h.sz hg.size⟩
  · cases hv : vL.ownBlock with
    | none => exact .inl rfl
    | some k => exact .inr (fun e => h.ap k hv e.symm)
  · intro g2 hg2 e
    rcases hat with h1 | h1
    · exact h.ap g2 hg2 (by rw [← h1]; exact e)
    · rw [h1] at e
      have := Option.some.inj e
      have := (h.geL g2 hg2).2
      omega
set_option maxRecDepth 100000 in
theorem AG.putL (h : AG W Z B r q cp uL uC vL vC L C w) : AG W Z B r q cp vL uC vL vC L C (w.setCell ⟨B, 3, none⟩ vL) := by
  have g := grown_setCell w ⟨B, 3, none⟩ vL
  have hlo := h.lo
  refine ⟨kept_row h.zb g (fun e => by have : Z = B := Option.some.inj e; omega), ?_, own_otherA h.oL g (Nat.lt_succ_self _), own_otherA h.oC g (Nat.lt_succ_self _), h.ap, h.lo, Nat.lt_of_lt_of_le h.sz g.size⟩
  have h1 := heap_setCell_same w B 3 _ _ vL h.ab
  rw [h1]; rfl
set_option maxRecDepth 100000 in
theorem AG.putC (h : AG W Z B r q cp uL uC vL vC L C w) : AG W Z B r q cp uL vC vL vC L C (w.setCell ⟨B, 4, none⟩ vC) := by
  have g := grown_setCell w ⟨B, 4, none⟩ vC
  have hlo := h.lo
  refine ⟨kept_row h.zb g (fun e => by have : Z = B := Option.some.inj e; omega), ?_, own_otherA h.oL g (Nat.lt_succ_self _), own_otherA h.oC g (Nat.lt_succ_self _), h.ap, h.lo, Nat.lt_of_lt_of_le h.sz g.size⟩
  have h1 := heap_setCell_same w B 4 _ _ vC h.ab
  rw [h1]; rfl
set_option maxRecDepth 100000 in
theorem AG.cells (h : AG W Z B r q cp uL uC vL vC L C w) : w.cell? ⟨B, 0, none⟩ = some (.int .i64 r) ∧ w.cell? ⟨B, 1, none⟩ = some (.int .i64 q) ∧ w.cell? ⟨B, 2, none⟩ = some (.bool cp) ∧ w.cell? ⟨B, 3, none⟩ = some uL ∧ w.cell? ⟨B, 4, none⟩ = some uC := by
  refine ⟨?_, ?_, ?_, ?_, ?_⟩ <;> (rw [cell_of_row _ _ _ _ _ _ h.ab]; rfl)
set_option maxRecDepth 100000 in
theorem AG.ok (h : AG W Z B r q cp uL uC vL vC L C w) {pL pC : Option Addr} {cL cC : Nat} (h1 : vL = .slice pL L.length cL) (h2 : vC = .slice pC C.length cC) : AdOk w (B < ·) ⟨r, q, cp, L, C, pL, cL, pC, cC⟩ := by
  obtain ⟨p1, c1, e1, n1, m1⟩ := own_shape h.oL
  obtain ⟨p2, c2, e2, n2, m2⟩ := own_shape h.oC
  have r1 := rdf_of_own h.oL
  have r2 := rdf_of_own h.oC
  subst h1
  subst h2
  injection e1 with a1 a2 a3
  injection e2 with b1 b2 b3
  subst a3
  subst b3
  exact ⟨r1.mono fun b hb => hb, r2.mono fun b hb => hb, ⟨n1, m1⟩, ⟨n2, m2⟩⟩
end
section
variable {W w w1 : World} {S : Nat} {l : List Nat} {p : Option Addr} {c pos : Nat}
end
end Go.Proofs.Ytnpkihioklpnmaa

/- advert: the reader's advert: the fields that the bytes say. -/
namespace Go.Proofs.Ytnpkihioklpnmaa
open Go.RowKit Bs
set_option maxRecDepth 100000 in
theorem fd_le (l : List Nat) (p k n : Nat) (h : 2 ^ k ≤ n) : fd l p k < n := Nat.lt_of_lt_of_le (fd_lt l p k) h
set_option maxRecDepth 100000 in
theorem shl8 {x : Nat} (h : x < 4) : (8 : Int) * 2 ^ x = ((8 * 2 ^ x : Nat) : Int) := by
  rcases (show x = 0 ∨ x = 1 ∨ x = 2 ∨ x = 3 by omega) with rfl | rfl | rfl | rfl <;> rfl
set_option maxRecDepth 100000 in
theorem ag_start {W w : World} {Z : Nat} {r q : Int} {cp : Bool} (hz : w.heap[Z]? = some (.cells #[.int .i64 0, .int .i64 0, .bool false, .slice none 0 0, .slice none 0 0] 38 (0, 0))) (h1 : W.heap.size ≤ Z) (h2 : Z < w.heap.size) :
    AG W Z w.heap.size r q cp (.slice none 0 0) (.slice none 0 0) (.slice none 0 0) (.slice none 0 0) [] [] (w.alloc (.cells #[.int .i64 r, .int .i64 q, .bool cp, .slice none 0 0, .slice none 0 0] 38)) := by
  have g := World.grownBy_alloc w (.cells #[.int .i64 r, .int .i64 q, .bool cp, .slice none 0 0, .slice none 0 0] 38) none
  exact ⟨kept_row hz g (by simp), heap_alloc_new w _, World.ownsRow_nil _ _ _ _, World.ownsRow_nil _ _ _ _, fun g hg => (by cases hg), ⟨h1, h2⟩, by simp⟩
set_option maxRecDepth 100000 in
theorem adv_size : (Try.prog.info? 38).map (·.size) = some 5 := by kernel_rfl
set_option maxRecDepth 100000 in
theorem res_adv {fn : Func} {p : Tmp} (h : fn.results = #[.cell p 38]) (tmps : Array Value) (w : World) (g : Nat) (x y z u v : Value) (hp : tmps.getD p undef = .pointer (some ⟨g, 0, none⟩)) (hg : w.heap[g]? = some (.cells #[x, y, z, u, v] 38 (0, 0))) :
    (results fn tmps).run Try.prog w = .ok (.agg #[x, y, z, u, v]) w :=
  results_cell_row h tmps w g _ _ _ _ hp hg Try.underlying38 rfl adv_size
set_option maxRecDepth 100000 in
theorem row5 {w : World} {b : Nat} {t : TypeId} {x0 x1 x2 x3 x4 : Value} (h : w.heap[b]? = some (.cells #[x0, x1, x2, x3, x4] t (0, 0))) :
    w.cell? ⟨b, 0, none⟩ = some x0 ∧ w.cell? ⟨b, 1, none⟩ = some x1 ∧ w.cell? ⟨b, 2, none⟩ = some x2 ∧ w.cell? ⟨b, 3, none⟩ = some x3 ∧ w.cell? ⟨b, 4, none⟩ = some x4 := by
  refine ⟨?_, ?_, ?_, ?_, ?_⟩ <;> (rw [cell_of_row _ _ _ _ _ _ h]; rfl)
set_option maxRecDepth 100000 in
theorem store5 {w : World} {b : Nat} {t : TypeId} {x0 x1 x2 x3 x4 : Value} (u0 u1 u2 u3 u4 : Value) (h : w.heap[b]? = some (.cells #[x0, x1, x2, x3, x4] t (0, 0))) :
    (((((w.setCell ⟨b, 0, none⟩ u0).setCell ⟨b, 1, none⟩ u1).setCell ⟨b, 2, none⟩ u2).setCell ⟨b, 3, none⟩ u3).setCell ⟨b, 4, none⟩ u4).heap[b]? = some (.cells #[u0, u1, u2, u3, u4] t (0, 0)) ∧
    w.grownBy (((((w.setCell ⟨b, 0, none⟩ u0).setCell ⟨b, 1, none⟩ u1).setCell ⟨b, 2, none⟩ u2).setCell ⟨b, 3, none⟩ u3).setCell ⟨b, 4, none⟩ u4) (some b) := by
  have h1 := heap_setCell_same w b 0 _ _ u0 h
  have h2 := heap_setCell_same _ b 1 _ _ u1 h1
  have h3 := heap_setCell_same _ b 2 _ _ u2 h2
  have h4 := heap_setCell_same _ b 3 _ _ u3 h3
  have h5 := heap_setCell_same _ b 4 _ _ u4 h4
  refine ⟨by rw [h5]; rfl, ?_⟩
  have g1 := grown_setCell w ⟨b, 0, none⟩ u0
  have g2 := grown_setCell (w.setCell ⟨b, 0, none⟩ u0) ⟨b, 1, none⟩ u1
  have g3 := grown_setCell ((w.setCell ⟨b, 0, none⟩ u0).setCell ⟨b, 1, none⟩ u1) ⟨b, 2, none⟩ u2
  have g4 := grown_setCell (((w.setCell ⟨b, 0, none⟩ u0).setCell ⟨b, 1, none⟩ u1).setCell ⟨b, 2, none⟩ u2) ⟨b, 3, none⟩ u3
  have g5 := grown_setCell ((((w.setCell ⟨b, 0, none⟩ u0).setCell ⟨b, 1, none⟩ u1).setCell ⟨b, 2, none⟩ u2).setCell ⟨b, 3, none⟩ u3) ⟨b, 4, none⟩ u4
  exact grown_trans (grown_trans (grown_trans (grown_trans g1 g2) g3) g4) g5
end Go.Proofs.Ytnpkihioklpnmaa

/- While the tape makes an advert. -/
namespace Go.Proofs.Ytnpkihioklpnmaa
open Go.RowKit Bs
/-! What a list of the tape's keeps. -/
def GL (r b : Int) (L : List T3) : Prop := vRe r 0 L = true ∧ ∀ x ∈ L, x.a < b
def GC (b : Int) (C : List T3) : Prop := vCm (-1) C = true ∧ ∀ x ∈ C, x.a < b
set_option maxRecDepth 100000 in
theorem vRe_snoc {r : Int} {y : T3} (hy : y.a ≤ 99 ∧ y.a ≠ r ∧ (1 ≤ y.b ∧ y.b ≤ 1000) ∧ 0 ≤ y.c ∧ y.c ≤ 1000) : ∀ {L : List T3} {d : Int}, vRe r d L = true → (∀ x ∈ L, x.a < y.a) → d < y.a → vRe r d (L ++ [y]) = true
  | [], d, _, _, hd => by
    rw [List.nil_append, vRe, vRe, Bool.and_true]
    exact decide_eq_true ⟨hd, hy⟩
  | x :: t, d, h, hx, hd => by
    rw [List.cons_append, vRe, Bool.and_eq_true]
    rw [vRe, Bool.and_eq_true] at h
    exact ⟨h.1, vRe_snoc hy h.2 (fun z hz => hx z (List.mem_cons_of_mem _ hz)) (hx x List.mem_cons_self)⟩
set_option maxRecDepth 100000 in
theorem vCm_snoc {y : T3} (hy : y.a ≤ 7 ∧ (1 ≤ y.b ∧ y.b ≤ 256) ∧ (y.c = 8 ∨ y.c = 16 ∨ y.c = 32 ∨ y.c = 64)) : ∀ {L : List T3} {d : Int}, vCm d L = true → (∀ x ∈ L, x.a < y.a) → d < y.a → vCm d (L ++ [y]) = true
  | [], d, _, _, hd => by
    rw [List.nil_append, vCm, vCm, Bool.and_true]
    exact decide_eq_true ⟨hd, hy⟩
  | x :: t, d, h, hx, hd => by
    rw [List.cons_append, vCm, Bool.and_eq_true]
    rw [vCm, Bool.and_eq_true] at h
    exact ⟨h.1, vCm_snoc hy h.2 (fun z hz => hx z (List.mem_cons_of_mem _ hz)) (hx x List.mem_cons_self)⟩
set_option maxRecDepth 100000 in
theorem GL.nil (r b : Int) : GL r b [] := ⟨rfl, fun _ h => by cases h⟩
set_option maxRecDepth 100000 in
theorem GC.nil (b : Int) : GC b [] := ⟨rfl, fun _ h => by cases h⟩
set_option maxRecDepth 100000 in
theorem GL.next {r b : Int} {L : List T3} (h : GL r b L) : GL r (b + 1) L := ⟨h.1, fun x hx => by have := h.2 x hx; omega⟩
set_option maxRecDepth 100000 in
theorem GC.next {b : Int} {L : List T3} (h : GC b L) : GC (b + 1) L := ⟨h.1, fun x hx => by have := h.2 x hx; omega⟩
set_option maxRecDepth 100000 in
theorem GL.add {r b : Int} {L : List T3} (h : GL r b L) (y2 y3 : Int) (hb : 0 < b ∧ b ≤ 99) (hr : b ≠ r) (h2 : 1 ≤ y2 ∧ y2 ≤ 1000) (h3 : 0 ≤ y3 ∧ y3 ≤ 1000) : GL r (b + 1) (L ++ [⟨b, y2, y3⟩]) := by
  refine ⟨vRe_snoc ⟨hb.2, hr, h2, h3⟩ h.1 h.2 hb.1, fun x hx => ?_⟩
  rcases List.mem_append.1 hx with hx | hx
  · have := h.2 x hx; omega
  · rw [List.mem_singleton] at hx
    subst hx
    simp only
    omega
set_option maxRecDepth 100000 in
theorem GC.add {b : Int} {L : List T3} (h : GC b L) (y2 y3 : Int) (hb : -1 < b ∧ b ≤ 7) (h2 : 1 ≤ y2 ∧ y2 ≤ 256) (h3 : y3 = 8 ∨ y3 = 16 ∨ y3 = 32 ∨ y3 = 64) : GC (b + 1) (L ++ [⟨b, y2, y3⟩]) := by
  refine ⟨vCm_snoc ⟨hb.2, h2, h3⟩ h.1 h.2 hb.1, fun x hx => ?_⟩
  rcases List.mem_append.1 hx with hx | hx
  · have := h.2 x hx; omega
  · rw [List.mem_singleton] at hx
    subst hx
    simp only
    omega
/-- While the tape makes an advert. -/
structure AT (a : Nat) (W : World) (Z B : Nat) (r q : Int) (cp : Bool) (uL uC vL vC : Value) (L C : List T3) (w : World) : Prop where
  g : AG W Z B r q cp uL uC vL vC L C w
  st : St a W w
set_option maxRecDepth 100000 in
theorem St.newA {a b : Nat} {W w w1 : World} (h : St a W w) (g : w.grownBy w1 (some b)) (hb : W.heap.size ≤ b) (ha : a < W.heap.size) : St a W w1 := by
  refine ⟨⟨g.os.trans h.1.os, g.tape.trans h.1.tape, g.output.trans h.1.output, Nat.le_trans h.1.size g.size, fun i hi hia => (g.block i (Nat.lt_of_lt_of_le hi h.1.size) (fun e => by have := Option.some.inj e; omega)).trans (h.1.block i hi hia)⟩, ?_⟩
  obtain ⟨v, n, i, T⟩ := h.2
  have hlt : a < w.heap.size := Nat.lt_of_lt_of_le ha h.1.size
  have hk : w1.heap[a]? = w.heap[a]? := g.block a hlt (fun e => by have := Option.some.inj e; omega)
  refine ⟨v, n, i, (World.cell?_of_block (a := ⟨a, 0, none⟩) hk).trans T.l, (World.cell?_of_block (a := ⟨a, 1, none⟩) hk).trans T.p, (World.frozen?_of_block (a := ⟨a, 1, none⟩) hk).trans T.fr, ?_, T.le, T.len⟩
  obtain ⟨p, c, hv, hc⟩ := T.ints
  refine ⟨p, c, hv, fun hn => ?_⟩
  obtain ⟨b1, off, hp, hb1, hx⟩ := hc hn
  refine ⟨b1, off, hp, hb1, fun i hi => ?_⟩
  obtain ⟨x, hx1, hcell⟩ := hx i hi
  exact ⟨x, hx1, g.cell hcell (fun e => by have : b1 = b := Option.some.inj e; omega)⟩
section
variable {a : Nat} {W w w1 : World} {Z B : Nat} {r q : Int} {cp : Bool} {uL uC vL vC v' : Value} {L C : List T3}
set_option maxRecDepth 100000 in
theorem AT.keep (h : AT a W Z B r q cp uL uC vL vC L C w) (g : w.grownBy w1 none) : AT a W Z B r q cp uL uC vL vC L C w1 := ⟨h.g.keep g, h.st.trans ⟨grown_none g _, h.st.2.keep g⟩⟩
set_option maxRecDepth 100000 in
theorem AT.tape (h : AT a W Z B r q cp uL uC vL vC L C w) (ha : a < W.heap.size) (k : St a w w1) : AT a W Z B r q cp uL uC vL vC L C w1 := ⟨h.g.out k.1 ha, h.st.trans k⟩
set_option maxRecDepth 100000 in
theorem AT.stRow (h : AT a W Z B r q cp uL uC vL vC L C w) (ha : a < W.heap.size) {o : Option Nat} (g : w.grownBy w1 o) (hb : ∀ b, o = some b → W.heap.size ≤ b) : St a W w1 := by
  cases o with
  | none => exact h.st.trans ⟨grown_none g _, h.st.2.keep g⟩
  | some b => exact h.st.newA g (hb b rfl) ha
set_option maxRecDepth 100000 in
theorem AT.addL (h : AT a W Z B r q cp uL uC vL vC L C w) (ha : a < W.heap.size) {M : List T3} (hown : w1.ownsRow (B + 1) 73 3 v' M.length (M.flatMap t3C)) (hg : w.grownBy w1 vL.ownBlock) (hat : v'.ownBlock = vL.ownBlock ∨ v'.ownBlock = some w.heap.size) : AT a W Z B r q cp uL uC v' vC M C w1 :=
  ⟨h.g.addL hown hg hat, h.stRow ha hg (fun b hb => by have := h.g.geL b hb; have := h.g.lo; omega)⟩
set_option maxRecDepth 100000 in
theorem AT.addC (h : AT a W Z B r q cp uL uC vL vC L C w) (ha : a < W.heap.size) {M : List T3} (hown : w1.ownsRow (B + 1) 62 3 v' M.length (M.flatMap t3C)) (hg : w.grownBy w1 vC.ownBlock) (hat : v'.ownBlock = vC.ownBlock ∨ v'.ownBlock = some w.heap.size) : AT a W Z B r q cp uL uC vL v' L M w1 :=
  ⟨h.g.addC hown hg hat, h.stRow ha hg (fun b hb => by have := h.g.geC b hb; have := h.g.lo; omega)⟩
set_option maxRecDepth 100000 in
theorem AT.putL (h : AT a W Z B r q cp uL uC vL vC L C w) (ha : a < W.heap.size) : AT a W Z B r q cp vL uC vL vC L C (w.setCell ⟨B, 3, none⟩ vL) :=
  ⟨h.g.putL, h.st.newA (grown_setCell w ⟨B, 3, none⟩ vL) (by have := h.g.lo; show W.heap.size ≤ B; omega) ha⟩
set_option maxRecDepth 100000 in
theorem AT.putC (h : AT a W Z B r q cp uL uC vL vC L C w) (ha : a < W.heap.size) : AT a W Z B r q cp uL vC vL vC L C (w.setCell ⟨B, 4, none⟩ vC) :=
  ⟨h.g.putC, h.st.newA (grown_setCell w ⟨B, 4, none⟩ vC) (by have := h.g.lo; show W.heap.size ≤ B; omega) ha⟩
set_option maxRecDepth 100000 in
theorem AG.put0 (h : AG W Z B r q cp uL uC vL vC L C w) (x : Int) : AG W Z B x q cp uL uC vL vC L C (w.setCell ⟨B, 0, none⟩ (.int .i64 x)) := by
  have g := grown_setCell w ⟨B, 0, none⟩ (.int .i64 x)
  have hlo := h.lo
  refine ⟨kept_row h.zb g (fun e => by have : Z = B := Option.some.inj e; omega), ?_, own_otherA h.oL g (Nat.lt_succ_self _), own_otherA h.oC g (Nat.lt_succ_self _), h.ap, h.lo, Nat.lt_of_lt_of_le h.sz g.size⟩
  have h1 := heap_setCell_same w B 0 _ _ (.int .i64 x) h.ab
  rw [h1]; rfl
set_option maxRecDepth 100000 in
theorem AG.put1 (h : AG W Z B r q cp uL uC vL vC L C w) (x : Int) : AG W Z B r x cp uL uC vL vC L C (w.setCell ⟨B, 1, none⟩ (.int .i64 x)) := by
  have g := grown_setCell w ⟨B, 1, none⟩ (.int .i64 x)
  have hlo := h.lo
  refine ⟨kept_row h.zb g (fun e => by have : Z = B := Option.some.inj e; omega), ?_, own_otherA h.oL g (Nat.lt_succ_self _), own_otherA h.oC g (Nat.lt_succ_self _), h.ap, h.lo, Nat.lt_of_lt_of_le h.sz g.size⟩
  have h1 := heap_setCell_same w B 1 _ _ (.int .i64 x) h.ab
  rw [h1]; rfl
set_option maxRecDepth 100000 in
theorem AT.put0 (h : AT a W Z B r q cp uL uC vL vC L C w) (ha : a < W.heap.size) (x : Int) : AT a W Z B x q cp uL uC vL vC L C (w.setCell ⟨B, 0, none⟩ (.int .i64 x)) :=
  ⟨h.g.put0 x, h.st.newA (grown_setCell w ⟨B, 0, none⟩ (.int .i64 x)) (by have := h.g.lo; show W.heap.size ≤ B; omega) ha⟩
set_option maxRecDepth 100000 in
theorem AT.put1 (h : AT a W Z B r q cp uL uC vL vC L C w) (ha : a < W.heap.size) (x : Int) : AT a W Z B r x cp uL uC vL vC L C (w.setCell ⟨B, 1, none⟩ (.int .i64 x)) :=
  ⟨h.g.put1 x, h.st.newA (grown_setCell w ⟨B, 1, none⟩ (.int .i64 x)) (by have := h.g.lo; show W.heap.size ≤ B; omega) ha⟩
end
set_option maxRecDepth 100000 in
theorem own_formA {w : World} {base size n : Nat} {e : TypeId} {v : Value} {xs : List Value} (h : w.ownsRow base e size v n xs) : (v = .slice none 0 0 ∧ n = 0) ∨ ∃ g cap, v = .slice (some ⟨g, 0, none⟩) n cap ∧ n ≤ cap ∧ cap ≤ 9223372036854775807 := by
  rcases h.2 with ⟨rfl, h0⟩ | ⟨g, cap, cur, rfl, _, _, hn, hm, _⟩
  · exact .inl ⟨rfl, h0⟩
  · unfold maxLen at hm
    exact .inr ⟨g, cap, rfl, hn, by omega⟩
set_option maxRecDepth 100000 in
theorem AG.set0 {W w : World} {Z B g n cap : Nat} {r q : Int} {cp : Bool} {uL uC vC : Value} {L C : List T3} (h : AG W Z B r q cp uL uC (.slice (some ⟨g, 0, none⟩) n cap) vC L C w) (hL : 0 < L.length) (x : Int) :
    ∃ L' : List T3, L'.length = L.length ∧ AG W Z B r q cp uL uC (.slice (some ⟨g, 0, none⟩) n cap) vC L' C (w.setCell ⟨g, 1, none⟩ (.int .i64 x)) := by
  cases L with
  | nil => cases hL
  | cons y t =>
    have hg0 := h.geL g rfl
    have hlo := h.lo
    obtain ⟨p, c, e, _⟩ := own_shape h.oL
    have hn : n = (y :: t).length := by injection e
    subst hn
    obtain ⟨s1, s2⟩ := h.oL.stored 1 (.int .i64 x)
    refine ⟨⟨y.a, x, y.c⟩ :: t, rfl, kept_row h.zb s2 (fun e => by have : Z = g := Option.some.inj e; omega), kept_row h.ab s2 (fun e => by have : B = g := Option.some.inj e; omega), s1, h.oC.kept s2 ?_, h.ap, h.lo, Nat.lt_of_lt_of_le h.sz s2.size⟩
    cases hv : vC.ownBlock with
    | none => exact .inl rfl
    | some k => exact .inr (fun e => h.ap g rfl (by rw [hv]; exact e))
set_option maxRecDepth 100000 in
theorem AT.set0 {a : Nat} {W w : World} {Z B g n cap : Nat} {r q : Int} {cp : Bool} {uL uC vC : Value} {L C : List T3} (h : AT a W Z B r q cp uL uC (.slice (some ⟨g, 0, none⟩) n cap) vC L C w) (ha : a < W.heap.size) (hL : 0 < L.length) (x : Int) :
    ∃ L' : List T3, L'.length = L.length ∧ AT a W Z B r q cp uL uC (.slice (some ⟨g, 0, none⟩) n cap) vC L' C (w.setCell ⟨g, 1, none⟩ (.int .i64 x)) := by
  obtain ⟨L', h1, h2⟩ := h.g.set0 hL x
  have hg0 := h.g.geL g rfl
  have hlo := h.g.lo
  exact ⟨L', h1, h2, h.st.newA (grown_setCell w ⟨g, 1, none⟩ (.int .i64 x)) (by show W.heap.size ≤ g; omega) ha⟩
set_option maxRecDepth 100000 in
theorem AT.ints {a : Nat} {W w : World} {Z B : Nat} {r q : Int} {cp : Bool} {uL uC vL vC : Value} {L C : List T3} (h : AT a W Z B r q cp uL uC vL vC L C w) (xs : List Int) (cs : Array Value) (hx : ∀ x ∈ xs, I64 x) (hcs : cs = (xs.map fun x => Value.int .i64 x).toArray) :
    ∀ p, p = w.heap.size → Among I64 (w.alloc (.cells cs 3)) a p 0 cs.size := by
  rintro p rfl
  exact among_list I64 w a xs cs 3 h.st.2.lt hcs hx
set_option maxRecDepth 100000 in
theorem Among.keepA {P : Int → Prop} {w w' : World} {a b off n : Nat} {r : Option Nat} (h : Among P w a b off n) (g : w.grownBy w' r) (hne : some b ≠ r) : Among P w' a b off n :=
  ⟨h.1, Nat.lt_of_lt_of_le h.2.1 g.size, fun i hi => by obtain ⟨x, hx, hc⟩ := h.2.2 i hi; exact ⟨x, hx, g.cell hc (by exact hne)⟩⟩
/-- What is known of an advert of the tape's. -/
structure TA (R n : Int) (r q : Int) (L C : List T3) : Prop where
  ll : L.length ≤ 40
  cl : C.length ≤ 10
  ok : ¬ 0 < n → r = R ∧ (1 ≤ q ∧ q ≤ 1000000) ∧ L.length ≤ 23 ∧ C.length ≤ 8 ∧ vRe R 0 L = true ∧ vCm (-1) C = true
def TAPost (a : Nat) (R n : Int) (w : World) (e : Ending) (w' : World) : Prop :=
  ∃ A : Ad, e = .returned A.val ∧ TA R n A.r A.q A.L A.C ∧ AdOk w' (w.heap.size ≤ ·) A ∧ St a w w'
/-- Lists that are nil have no room. -/
def AdNl (A : Ad) : Prop := (A.pL = none → A.cL = 0) ∧ (A.pC = none → A.cC = 0)
/-- What the tape's Advert returns; its lists, if they are nil, have no room. -/
def TAPost3 (a : Nat) (R n : Int) (w : World) (e : Ending) (w' : World) : Prop :=
  ∃ A : Ad, e = .returned A.val ∧ TA R n A.r A.q A.L A.C ∧ AdOk w' (w.heap.size ≤ ·) A ∧ St a w w' ∧ AdNl A
/-- The same; a list of claims that is nil has no room. -/
def TAPost2 (a : Nat) (R n : Int) (w : World) (e : Ending) (w' : World) : Prop :=
  ∃ A : Ad, e = .returned A.val ∧ TA R n A.r A.q A.L A.C ∧ AdOk w' (w.heap.size ≤ ·) A ∧ St a w w' ∧ (A.pC = none → A.cC = 0)
set_option maxRecDepth 100000 in
theorem TAPost2.less {a : Nat} {R n : Int} {w : World} {e : Ending} {w' : World} (h : TAPost2 a R n w e w') : TAPost a R n w e w' := by
  obtain ⟨A, h1, h2, h3, h4, -⟩ := h
  exact ⟨A, h1, h2, h3, h4⟩
set_option maxRecDepth 100000 in
theorem TAPost3.less {a : Nat} {R n : Int} {w : World} {e : Ending} {w' : World} (h : TAPost3 a R n w e w') : TAPost2 a R n w e w' := by
  obtain ⟨A, h1, h2, h3, h4, h5⟩ := h
  exact ⟨A, h1, h2, h3, h4, h5.2⟩
set_option maxRecDepth 100000 in
theorem own_nilc {w : World} {base size n c : Nat} {p : Option Addr} {e : TypeId} {xs : List Value} (h : w.ownsRow base e size (.slice p n c) n xs) (hp : p = none) : c = 0 := by
  subst hp
  rcases h.2 with ⟨e, _⟩ | ⟨g', cap', cur, hv, _⟩
  · injection e
  · cases hv
set_option maxRecDepth 100000 in
theorem TA.valid {R n : Int} {A : Ad} (h : TA R n A.r A.q A.L A.C) (hn : ¬ 0 < n) (hR : 1 ≤ R ∧ R ≤ 99) : vAd A = true ∧ A.r = R := by
  obtain ⟨h1, h2, h3, h4, h5, h6⟩ := h.ok hn
  refine ⟨?_, h1⟩
  unfold vAd vHd vClaims
  rw [decide_eq_true ⟨h1 ▸ hR, h2, h3⟩, h1, h5, decide_eq_true h4, h6]
  rfl
end Go.Proofs.Ytnpkihioklpnmaa

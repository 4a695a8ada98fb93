/- Parts of the proof, packed: AdRDe. -/
import Derived.Test.YtpoocenooomghaaDoorDc12
import Derived.Test.YtpoocenooomghaaDoorDc13
import Derived.Test.YtpoocenooomghaaDoorDc6
import Derived.Deep.CutBlock
import Derived.Deep.CutRange
/- The reference's Decode of adverts. -/
namespace Go.Proofs.YtpoocenooomghaaDoor
open Go.RowKit Bs
/-- What get returns. -/
def gtV (l : List Nat) (a k : Nat) : Int := if 8 * l.length < a + k then -1 else ((num (bt l) a k : Nat) : Int)
set_option maxRecDepth 100000 in
theorem gtV_ok {l : List Nat} {a k : Nat} (h : a + k ≤ 8 * l.length) : gtV l a k = ((fd l a k : Nat) : Int) := by
  unfold gtV fd
  rw [if_neg (by omega), if_neg (by omega)]
set_option maxRecDepth 100000 in
theorem gtV_no {l : List Nat} {a k : Nat} (h : 8 * l.length < a + k) : gtV l a k = -1 := by unfold gtV; rw [if_pos h]
set_option maxRecDepth 100000 in
set_option maxHeartbeats 3200000 in
theorem rget_any (l : List Nat) (hl : By l) (h1 : l.length ≤ 1024) (a k : Int) (A K : Nat) (ha : a = (A : Int)) (hk : k = (K : Int)) (hK : K ≤ 20) (hA : A ≤ 8192) (q : Nat → Prop) (p : Option Addr) (c : Nat) (w : World) (hR : Rd w q (.slice p l.length c) (l.map nv)) :
    Calls Tryd.prog 55 #[.agg #[.slice p l.length c, .int .i64 (8 * (l.length : Int))], .int .i64 a, .int .i64 k] w fun e w' => e = .returned (.int .i64 (gtV l A K)) ∧ w.grownBy w' none := by
  obtain ⟨k1, k2⟩ := one_box w #[.slice p l.length c, .int .i64 (8 * (l.length : Int))] 47
  have hx : num (bt l) A K < 1048576 := Nat.lt_of_lt_of_le (num_lt _ _ _) (Nat.pow_le_pow_right (n := 2) (by decide) hK)
  have HT : Hid (∀ wz, Rd wz q (.slice p l.length c) (l.map nv) → Calls Tryd.prog 91 #[.agg #[.slice p l.length c, .int .i64 (8 * (l.length : Int))], .int .i64 a, .int .i64 k] wz fun e w' => ((¬ 8 * l.length < A + K ∧ e = .returned (.tuple #[.int .u64 ((num (bt l) A K : Nat) : Int), .int .i64 0])) ∨ (8 * l.length < A + K ∧ e = .returned (.tuple #[.int .u64 ((0 : Nat) : Int), .int .i64 20]))) ∧ wz.grownBy w' none) := Lib.hid (fun wz hz => by
    refine (taker_any l (8 * (l.length : Int)) a k _ p c hl (by unfold I64; omega) wz (fun _ h => h) hz.bound).mono fun e w' hp => ?_
    obtain ⟨he, hg⟩ := hp
    have hvs : vs l (8 * (l.length : Int)) = true := by
      have h := vs_whole (l := l) (by omega)
      rw [Int.natCast_mul] at h
      exact h
    subst ha hk
    by_cases hs : 8 * l.length < A + K
    · rw [takeV_short hvs (by unfold vw; simp; omega) (by omega) (by omega)] at he
      exact ⟨.inr ⟨hs, he⟩, hg⟩
    · rw [takeV_ok hvs (by unfold vw; simp; omega) (by omega) (by omega), Int.toNat_natCast, Int.toNat_natCast] at he
      exact ⟨.inl ⟨hs, he⟩, hg⟩)
  have H0 := Lib.hid (And.intro k1 (And.intro k2 (hR.keep k2)))
  clear k1 k2 hR ha hk
  obtain ⟨x, hxx⟩ : ∃ x, num (bt l) A K = x := ⟨_, rfl⟩
  rw [hxx] at HT hx
  have HXX := Lib.hid hxx
  clear hxx
  go_enter Tryd.func55, Tryd.ntmps55
  go_upto_region 1 with fail
  generalize w.alloc _ = wa at *
  obtain ⟨c0, c1⟩ := row_cells H0.out.1
  go_wp2_with fail
  refine (HT.out wa H0.out.2.2).mono ?_
  rintro e w1 ⟨hE, hg⟩
  have HG := Lib.hid (grown_trans H0.out.2.1 hg)
  clear hg c0 c1
  rcases hE with ⟨hs, rfl⟩ | ⟨hs, rfl⟩
  · have HV : Hid (gtV l A K = (x : Int)) := Lib.hid (by unfold gtV; rw [if_neg hs, HXX.out])
    clear hs
    go_wp2_with fail
    go_ret
    exact ⟨by rw [HV.out]; rfl, HG.out⟩
  · have HV : Hid (gtV l A K = -1) := Lib.hid (gtV_no hs)
    clear hs
    go_wp2_with fail
    go_ret
    exact ⟨by rw [HV.out]; rfl, HG.out⟩
/-- The advert that bytes say, its lists nowhere. -/
def adOf (l : List Nat) : Ad := ⟨(fd l 0 7 : Nat), (fd l 7 20 : Nat), decide (fd l 27 1 = 1), rdL l (nLk l), rdC l (aCm l + 4) (nCm l), none, 0, none, 0⟩
set_option maxRecDepth 100000 in
theorem adOf_is (l : List Nat) : AdIs l (adOf l) := ⟨rfl, rfl, rfl, rfl, rfl⟩
/-- The error of bytes, r of which stand behind what is read. -/
def decEh (l : List Nat) (r : Nat) (v : Bool) : Nat :=
  if 8 * l.length < eCm l + 16 then 20
  else if num (bt l) (eCm l) 16 ≠ Bs.crcB (bt l) (eCm l) then 23
  else if num (bt l) (eCm l + 16) ((8 - (eCm l + 16) % 8) % 8) ≠ 0 then 24
  else if (eCm l + 16 + 7) / 8 < l.length + r then 21
  else if v = false then 1 else 0
set_option maxRecDepth 100000 in
theorem decEh_zero (l : List Nat) (v : Bool) : decEh l 0 v = decE l v := rfl
def zA : Value := .agg #[.int .i64 0, .int .i64 0, .bool false, .slice none 0 0, .slice none 0 0]
/-- What the reference's Decode returns. -/
def RDec (l : List Nat) (r : Nat) (w : World) (e : Ending) (w' : World) : Prop :=
  w.grownBy w' none ∧ ((decEh l r (vAd (adOf l)) = 0 ∧ ∃ A : Ad, AdIs l A ∧ AdOk w' (w.heap.size ≤ ·) A ∧ e = .returned (.tuple #[A.val, .int .i64 0])) ∨
    (decEh l r (vAd (adOf l)) ≠ 0 ∧ e = .returned (.tuple #[zA, .int .i64 ((decEh l r (vAd (adOf l)) : Nat) : Int)])))
/-- While bytes are read: the result's box, the stream's box. -/
structure DS (W : World) (Z S : Nat) (l : List Nat) (p : Option Addr) (c : Nat) (w : World) : Prop where
  zb : w.heap[Z]? = some (.cells #[.int .i64 0, .int .i64 0, .bool false, .slice none 0 0, .slice none 0 0] 26 (0, 0))
  sb : w.heap[S]? = some (.cells #[.slice p l.length c, .int .i64 (8 * (l.length : Int))] 47 (0, 0))
  rd : Rd w (· < W.heap.size) (.slice p l.length c) (l.map nv)
  gr : W.grownBy w none
  lo : W.heap.size ≤ Z ∧ Z < S
section
variable {W w w1 : World} {Z S : Nat} {l : List Nat} {p : Option Addr} {c : Nat}
set_option maxRecDepth 100000 in
theorem DS.keep (h : DS W Z S l p c w) (g : w.grownBy w1 none) : DS W Z S l p c w1 := ⟨kept_row h.zb g (by simp), kept_row h.sb g (by simp), h.rd.keep g, grown_trans h.gr g, h.lo⟩
set_option maxRecDepth 100000 in
theorem DS.new (h : DS W Z S l p c w) {b : Nat} (g : w.grownBy w1 (some b)) (hb : S < b) : DS W Z S l p c w1 := by
  have hlo := h.lo
  exact ⟨kept_row h.zb g (fun e => by have := Option.some.inj e; omega), kept_row h.sb g (fun e => by have := Option.some.inj e; omega), h.rd.grown g (fun x hx e => by have := Option.some.inj e; omega), grown_new h.gr g (by omega), h.lo⟩
set_option maxRecDepth 100000 in
theorem DS.row (h : DS W Z S l p c w) {o : Option Nat} (g : w.grownBy w1 o) (hb : ∀ b, o = some b → S < b) : DS W Z S l p c w1 := by
  cases o with
  | none => exact h.keep g
  | some b => exact h.new g (hb b rfl)
set_option maxRecDepth 100000 in
theorem DS.get (h : DS W Z S l p c w) (hl : By l) (h1 : l.length ≤ 1024) (a k : Int) (A K : Nat) (ha : a = (A : Int)) (hk : k = (K : Int)) (hK : K ≤ 20) (hA : A ≤ 8192) :
    Calls Tryd.prog 55 #[.agg #[.slice p l.length c, .int .i64 (8 * (l.length : Int))], .int .i64 a, .int .i64 k] w fun e w' => e = .returned (.int .i64 (gtV l A K)) ∧ w.grownBy w' none :=
  rget_any l hl h1 a k A K ha hk hK hA _ p c w h.rd
set_option maxRecDepth 100000 in
theorem DS.getf (h : DS W Z S l p c w) (hl : By l) (h1 : l.length ≤ 1024) (a k : Int) (A K : Nat) (ha : a = (A : Int)) (hk : k = (K : Int)) (hK : K ≤ 20) (hA : A + K ≤ 8 * l.length) :
    Calls Tryd.prog 55 #[.agg #[.slice p l.length c, .int .i64 (8 * (l.length : Int))], .int .i64 a, .int .i64 k] w fun e w' => e = .returned (.int .i64 ((fd l A K : Nat) : Int)) ∧ w.grownBy w' none := by
  have h2 := h.get hl h1 a k A K ha hk hK (by omega)
  rwa [gtV_ok hA] at h2
end
/-- While the reference makes an advert of bytes. -/
structure DA (W : World) (Z S B : Nat) (l : List Nat) (p : Option Addr) (c : Nat) (r q : Int) (cp : Bool) (uL uC vL vC : Value) (L C : List T3) (w : World) : Prop where
  g : AG W Z B r q cp uL uC vL vC L C w
  d : DS W Z S l p c w
  lt : S < B
section
variable {W w w1 : World} {Z S B : Nat} {l : List Nat} {p : Option Addr} {c : Nat} {r q : Int} {cp : Bool} {uL uC vL vC v' : Value} {L C : List T3}
set_option maxRecDepth 100000 in
theorem DA.keep (h : DA W Z S B l p c r q cp uL uC vL vC L C w) (g : w.grownBy w1 none) : DA W Z S B l p c r q cp uL uC vL vC L C w1 := ⟨h.g.keep g, h.d.keep g, h.lt⟩
set_option maxRecDepth 100000 in
theorem DA.addL (h : DA W Z S B l p c r q cp uL uC vL vC L C w) {M : List T3} (hown : w1.ownsRow (B + 1) 70 3 v' M.length (M.flatMap t3C)) (hg : w.grownBy w1 vL.ownBlock) (hat : v'.ownBlock = vL.ownBlock ∨ v'.ownBlock = some w.heap.size) : DA W Z S B l p c r q cp uL uC v' vC M C w1 :=
  ⟨h.g.addL hown hg hat, h.d.row hg (fun b hb => by have := h.g.geL b hb; have := h.lt; omega), h.lt⟩
set_option maxRecDepth 100000 in
theorem DA.addC (h : DA W Z S B l p c r q cp uL uC vL vC L C w) {M : List T3} (hown : w1.ownsRow (B + 1) 73 3 v' M.length (M.flatMap t3C)) (hg : w.grownBy w1 vC.ownBlock) (hat : v'.ownBlock = vC.ownBlock ∨ v'.ownBlock = some w.heap.size) : DA W Z S B l p c r q cp uL uC vL v' L M w1 :=
  ⟨h.g.addC hown hg hat, h.d.row hg (fun b hb => by have := h.g.geC b hb; have := h.lt; omega), h.lt⟩
set_option maxRecDepth 100000 in
theorem DA.putL (h : DA W Z S B l p c r q cp uL uC vL vC L C w) : DA W Z S B l p c r q cp vL uC vL vC L C (w.setCell ⟨B, 3, none⟩ vL) := ⟨h.g.putL, h.d.new (grown_setCell w ⟨B, 3, none⟩ vL) h.lt, h.lt⟩
set_option maxRecDepth 100000 in
theorem DA.putC (h : DA W Z S B l p c r q cp uL uC vL vC L C w) : DA W Z S B l p c r q cp uL vC vL vC L C (w.setCell ⟨B, 4, none⟩ vC) := ⟨h.g.putC, h.d.new (grown_setCell w ⟨B, 4, none⟩ vC) h.lt, h.lt⟩
end
set_option maxRecDepth 100000 in
theorem DS.start {W w : World} {Z S : Nat} {l : List Nat} {p : Option Addr} {c : Nat} (h : DS W Z S l p c w) (r q : Int) (cp : Bool) :
    DA W Z S w.heap.size l p c r q cp (.slice none 0 0) (.slice none 0 0) (.slice none 0 0) (.slice none 0 0) [] [] (w.alloc (.cells #[.int .i64 r, .int .i64 q, .bool cp, .slice none 0 0, .slice none 0 0] 26)) :=
  ⟨ag_start h.zb h.lo.1 (World.lt_of_row' h.zb), h.keep (World.grownBy_alloc w _ none), World.lt_of_row' h.sb⟩
/-- A box for an advert has come. -/
structure NA (S B : Nat) (w : World) : Prop where
  ab : w.heap[B]? = some (.cells #[.int .i64 0, .int .i64 0, .bool false, .slice none 0 0, .slice none 0 0] 26 (0, 0))
  lt : S < B
set_option maxRecDepth 100000 in
theorem NA.keep {w w1 : World} {S B : Nat} (h : NA S B w) (g : w.grownBy w1 none) : NA S B w1 := ⟨kept_row h.ab g (by simp), h.lt⟩
set_option maxRecDepth 100000 in
theorem DS.na {W w : World} {Z S : Nat} {l : List Nat} {p : Option Addr} {c : Nat} (h : DS W Z S l p c w) : ∀ b, b = w.heap.size → NA S b (w.alloc (.cells #[.int .i64 0, .int .i64 0, .bool false, .slice none 0 0, .slice none 0 0] 26)) := by
  rintro b rfl
  exact ⟨heap_alloc_new w _, World.lt_of_row' h.sb⟩
set_option maxRecDepth 100000 in
theorem da_put {W w : World} {Z S B : Nat} {l : List Nat} {p : Option Addr} {c : Nat} (h : DS W Z S l p c w) (hb : NA S B w) (r q : Int) (cp : Bool) :
    DA W Z S B l p c r q cp (.slice none 0 0) (.slice none 0 0) (.slice none 0 0) (.slice none 0 0) [] [] (((((w.setCell ⟨B, 0, none⟩ (.int .i64 r)).setCell ⟨B, 1, none⟩ (.int .i64 q)).setCell ⟨B, 2, none⟩ (.bool cp)).setCell ⟨B, 3, none⟩ (.slice none 0 0)).setCell ⟨B, 4, none⟩ (.slice none 0 0)) := by
  obtain ⟨t1, t2⟩ := store5 (.int .i64 r) (.int .i64 q) (.bool cp) (.slice none 0 0) (.slice none 0 0) hb.ab
  have hd := h.new t2 hb.lt
  have hlo := h.lo
  have hlt := hb.lt
  exact ⟨⟨hd.zb, t1, World.ownsRow_nil _ _ _ _, World.ownsRow_nil _ _ _ _, fun g hg => (by cases hg), ⟨hlo.1, by omega⟩, World.lt_of_row' t1⟩, hd, hlt⟩
set_option maxRecDepth 100000 in
set_option maxHeartbeats 12800000 in
theorem radec_any (l0 : List Nat) (hl0 : By l0) (h10 : l0.length ≤ 1024) (p : Option Addr) (c : Nat) (hc : l0.length ≤ c) (q0 : Nat → Prop) (w : World) (hR : Rd w q0 (.slice p l0.length c) (l0.map nv)) :
    Calls Tryd.prog 23 #[.slice p l0.length c] w fun e w' => RDec (l0.take 200) (l0.length - 200) w e w' := by
  obtain ⟨ir, hir, hr0, hr1, hr2⟩ := info_parts info_re
  obtain ⟨ic, hic, hc0, hc1, hc2⟩ := info_parts info_cm
  obtain ⟨l, hlt⟩ : ∃ l, l0.take 200 = l := ⟨_, rfl⟩
  obtain ⟨rs, hrs⟩ : ∃ rs, l0.length - 200 = rs := ⟨_, rfl⟩
  have hln : l.length = min 200 l0.length := by rw [← hlt, List.length_take]
  have hl : By l := fun x hx => hl0 x (by rw [← hlt] at hx; exact List.mem_of_mem_take hx)
  have h1 : l.length ≤ 200 := by omega
  have h1k : l.length ≤ 1024 := by omega
  have hRl : ∀ c', Rd w (· < w.heap.size) (.slice p l.length c') (l.map nv) := fun c' => by
    obtain ⟨p1, c1, e1, hx⟩ := hR.bound
    injection e1 with a1 a2 a3
    subst a1
    refine ⟨p, c', by rw [List.length_map], fun hne => ?_⟩
    obtain ⟨b, off, hp, hb, hy⟩ := hx (fun e => hne (by rw [← hlt, List.map_take, e]; simp))
    refine ⟨b, off, hp, hb, fun i x hi => hy i x ?_⟩
    rw [← hlt, List.map_take, List.getElem?_take] at hi
    split at hi
    · exact hi
    · cases hi
  have HRl := Lib.hid hRl
  rw [hlt, hrs]
  have hz := heap_alloc_new w (.cells #[.int .i64 0, .int .i64 0, .bool false, .slice none 0 0, .slice none 0 0] 26)
  have hzg := World.grownBy_alloc w (.cells #[.int .i64 0, .int .i64 0, .bool false, .slice none 0 0, .slice none 0 0] 26) none
  have HZ := Lib.hid (And.intro hz hzg)
  have HZS : Hid ((w.alloc (.cells #[.int .i64 0, .int .i64 0, .bool false, .slice none 0 0, .slice none 0 0] 26)).heap.size = w.heap.size + 1) := Lib.hid (by simp)
  clear hz hzg hR hRl hlt
  go_enter Tryd.func23, Tryd.ntmps23
  go_upto_region 1 with fail
  generalize w.alloc _ = wa at *
  go_upto_if 22 with fail
  go_cut [0, 4] from 20 to 27 (fun x y wx => x = .slice p l.length c ∧ y = .int .i64 (rs : Int) ∧ wx = wa)
  case first =>
    by_cases h200 : (200 : Int) < (l0.length : Int)
    · have hb : decide ((200 : Int) < (l0.length : Int)) = true := decide_eq_true h200
      have hc200 : (200 : Int) ≤ (c : Int) := by omega
      have hsub : (l0.length : Int) - 200 = (rs : Int) := by omega
      have hl200 : l.length = 200 := by omega
      go_wp2_with fail
      go_meet
      refine ⟨?_, ?_, rfl⟩
      · rw [hl200]
      · first | rfl | rw [hsub] | (congr 1; omega)
    · have hb : decide ((200 : Int) < (l0.length : Int)) = false := decide_eq_false h200
      have hle : l.length = l0.length := by omega
      have hr00 : rs = 0 := by omega
      go_wp2_with fail
      go_meet
      refine ⟨?_, ?_, rfl⟩
      · rw [hle]
      · rw [hr00]; rfl
  case rest =>
  obtain ⟨rfl, rfl, rfl⟩ := hcut
  have HRB : Hid (rs ≤ 1024) := Lib.hid (by omega)
  clear hln hrs
  have hb := heap_alloc_new wc (.cells #[.slice p l.length c, .int .i64 (8 * (l.length : Int))] 47)
  have hbg := World.grownBy_alloc wc (.cells #[.slice p l.length c, .int .i64 (8 * (l.length : Int))] 47) none
  have HD0 : Hid (DS w w.heap.size wc.heap.size l p c (wc.alloc (.cells #[.slice p l.length c, .int .i64 (8 * (l.length : Int))] 47))) := Lib.hid ⟨kept_row HZ.out.1 hbg (by simp), hb, (HRl.out c).keep (grown_trans HZ.out.2 hbg), grown_trans HZ.out.2 hbg, Nat.le_refl _, by rw [HZS.out]; omega⟩
  clear hb hbg HZ HZS HRl
  go_upto_region 6 with fail
  generalize wc.alloc _ = w1 at *
  obtain ⟨S, hS⟩ : ∃ S, wc.heap.size = S := ⟨_, rfl⟩
  rw [hS] at HD0
  rw [hS]
  clear hS
  obtain ⟨s0, s1⟩ := row_cells HD0.out.sb
  go_wp2_with fail
  refine (HD0.out.get hl h1k 28 5 28 5 rfl rfl (by decide) (by decide)).mono ?_
  rintro e w2 ⟨rfl, hg⟩
  have HD1 := Lib.hid (HD0.out.keep hg)
  clear hg HD0 s0 s1
  by_cases h33 : 8 * l.length < 28 + 5
  · rw [gtV_no h33]
    have HE : Hid (decEh l rs (vAd (adOf l)) = 20) := Lib.hid (by unfold decEh; rw [if_pos]; unfold eCm aCm; omega)
    obtain ⟨d0, d1, d2, d3, d4⟩ := row5 HD1.out.zb
    have f0 := frozen_of_row _ _ 0 _ _ HD1.out.zb
    have f1 := frozen_of_row _ _ 1 _ _ HD1.out.zb
    have f2 := frozen_of_row _ _ 2 _ _ HD1.out.zb
    have f3 := frozen_of_row _ _ 3 _ _ HD1.out.zb
    have f4 := frozen_of_row _ _ 4 _ _ HD1.out.zb
    obtain ⟨t1, t2⟩ := store5 (.int .i64 0) (.int .i64 0) (.bool false) (.slice none 0 0) (.slice none 0 0) HD1.out.zb
    have HT := Lib.hid (And.intro t1 (grown_new HD1.out.gr t2 (Nat.le_refl _)))
    clear t1 t2
    go_wp2_with fail
    refine bodyPost_ret (res_adv_err rfl _ _ w.heap.size _ _ _ _ _ rfl HT.out.1) rfl ?_
    exact ⟨HT.out.2, .inr ⟨by rw [HE.out]; decide, by rw [HE.out]; rfl⟩⟩
  rw [gtV_ok (by omega)]
  obtain ⟨n, hn⟩ : ∃ n, fd l 28 5 = n := ⟨_, rfl⟩
  have hn32 : n < 32 := by rw [← hn]; exact fd_lt _ _ 5
  rw [hn]
  have HN := Lib.hid (show nLk l = n from hn)
  clear hn
  obtain ⟨P, hP⟩ : ∃ P : Nat, P = 33 + n * 27 := ⟨_, rfl⟩
  have HP := Lib.hid (show aCm l = P by unfold aCm; rw [HN.out, hP])
  have hPi : 33 + 27 * (n : Int) = (P : Int) := by omega
  have hPb : P ≤ 900 := by omega
  have HPP := Lib.hid hP
  clear hP
  obtain ⟨s0, s1⟩ := row_cells HD1.out.sb
  go_wp2_with fail
  refine (HD1.out.get hl h1k (P : Int) 4 P 4 rfl rfl (by decide) (by omega)).mono ?_
  rintro e w3 ⟨rfl, hg⟩
  have HD2 := Lib.hid (HD1.out.keep hg)
  clear hg HD1 s0 s1
  by_cases h37 : 8 * l.length < P + 4
  · rw [gtV_no h37]
    have HE : Hid (decEh l rs (vAd (adOf l)) = 20) := Lib.hid (by unfold decEh; rw [if_pos]; unfold eCm; rw [HP.out]; omega)
    obtain ⟨s0, s1⟩ := row_cells HD2.out.sb
    obtain ⟨d0, d1, d2, d3, d4⟩ := row5 HD2.out.zb
    have f0 := frozen_of_row _ _ 0 _ _ HD2.out.zb
    have f1 := frozen_of_row _ _ 1 _ _ HD2.out.zb
    have f2 := frozen_of_row _ _ 2 _ _ HD2.out.zb
    have f3 := frozen_of_row _ _ 3 _ _ HD2.out.zb
    have f4 := frozen_of_row _ _ 4 _ _ HD2.out.zb
    obtain ⟨t1, t2⟩ := store5 (.int .i64 0) (.int .i64 0) (.bool false) (.slice none 0 0) (.slice none 0 0) HD2.out.zb
    have HT := Lib.hid (And.intro t1 (grown_new HD2.out.gr t2 (Nat.le_refl _)))
    clear t1 t2
    go_wp2_with fail
    refine bodyPost_ret (res_adv_err rfl _ _ w.heap.size _ _ _ _ _ rfl HT.out.1) rfl ?_
    exact ⟨HT.out.2, .inr ⟨by rw [HE.out]; decide, by rw [HE.out]; rfl⟩⟩
  rw [gtV_ok (by omega)]
  obtain ⟨m, hm⟩ : ∃ m, fd l P 4 = m := ⟨_, rfl⟩
  have hm16 : m < 16 := by rw [← hm]; exact fd_lt _ _ 4
  rw [hm]
  have HM := Lib.hid (show nCm l = m by unfold nCm; rw [HP.out]; exact hm)
  clear hm
  obtain ⟨E, hE⟩ : ∃ E : Nat, E = P + 4 + m * 14 := ⟨_, rfl⟩
  have HEE := Lib.hid (show eCm l = E by unfold eCm; rw [HP.out, HM.out, hE])
  have hEi : (P : Int) + 4 + 14 * (m : Int) = (E : Int) := by omega
  have hEb : E ≤ 1200 := by omega
  have hEm : m * 14 + P + 4 = E := by omega
  have HEm := Lib.hid hE
  clear hE hEm
  obtain ⟨s0, s1⟩ := row_cells HD2.out.sb
  go_wp2_with fail
  refine (HD2.out.get hl h1k (E : Int) 16 E 16 rfl rfl (by decide) (by omega)).mono ?_
  rintro e w4 ⟨rfl, hg⟩
  have HD3 := Lib.hid (HD2.out.keep hg)
  clear hg HD2 s0 s1
  by_cases hsh : 8 * l.length < E + 16
  · rw [gtV_no hsh]
    have HE : Hid (decEh l rs (vAd (adOf l)) = 20) := Lib.hid (by unfold decEh; rw [HEE.out, if_pos hsh])
    obtain ⟨d0, d1, d2, d3, d4⟩ := row5 HD3.out.zb
    have f0 := frozen_of_row _ _ 0 _ _ HD3.out.zb
    have f1 := frozen_of_row _ _ 1 _ _ HD3.out.zb
    have f2 := frozen_of_row _ _ 2 _ _ HD3.out.zb
    have f3 := frozen_of_row _ _ 3 _ _ HD3.out.zb
    have f4 := frozen_of_row _ _ 4 _ _ HD3.out.zb
    obtain ⟨t1, t2⟩ := store5 (.int .i64 0) (.int .i64 0) (.bool false) (.slice none 0 0) (.slice none 0 0) HD3.out.zb
    have HT := Lib.hid (And.intro t1 (grown_new HD3.out.gr t2 (Nat.le_refl _)))
    clear t1 t2
    go_wp2_with fail
    refine bodyPost_ret (res_adv_err rfl _ _ w.heap.size _ _ _ _ _ rfl HT.out.1) rfl ?_
    exact ⟨HT.out.2, .inr ⟨by rw [HE.out]; decide, by rw [HE.out]; rfl⟩⟩
  rw [gtV_ok (by omega)]
  obtain ⟨x, hx⟩ : ∃ x, fd l E 16 = x := ⟨_, rfl⟩
  have hx16 : x < 65536 := by rw [← hx]; exact fd_lt _ _ 16
  rw [hx]
  have HX0 := Lib.hid hx
  clear hx
  have hxn : ¬ (x : Int) < 0 := by omega
  go_upto_region 13 with fail
  obtain ⟨r, hr⟩ : ∃ r, ((fd l 0 7 : Nat) : Int) = r := ⟨_, rfl⟩
  obtain ⟨q, hq⟩ : ∃ q, ((fd l 7 20 : Nat) : Int) = q := ⟨_, rfl⟩
  obtain ⟨cp, hcp⟩ : ∃ cp, (((fd l 27 1 : Nat) : Int) == 1) = cp := ⟨_, rfl⟩
  obtain ⟨o1, ho1⟩ : ∃ o, ((fd l 27 1 : Nat) : Int) = o := ⟨_, rfl⟩
  have HHD := Lib.hid (And.intro hr (And.intro hq hcp))
  have hcp2 : (o1 == 1) = cp := by rw [← ho1]; exact hcp
  have HO1 := Lib.hid ho1
  have HG1 : Hid (∀ wz, Hid (DS w w.heap.size S l p c wz) → Calls Tryd.prog 55 #[.agg #[.slice p l.length c, .int .i64 (8 * (l.length : Int))], .int .i64 0, .int .i64 7] wz fun e w' => e = .returned (.int .i64 r) ∧ wz.grownBy w' none) := Lib.hid (fun wz h => by rw [← hr]; exact h.out.getf hl h1k 0 7 0 7 rfl rfl (by decide) (by omega))
  have HG2 : Hid (∀ wz, Hid (DS w w.heap.size S l p c wz) → Calls Tryd.prog 55 #[.agg #[.slice p l.length c, .int .i64 (8 * (l.length : Int))], .int .i64 7, .int .i64 20] wz fun e w' => e = .returned (.int .i64 q) ∧ wz.grownBy w' none) := Lib.hid (fun wz h => by rw [← hq]; exact h.out.getf hl h1k 7 20 7 20 rfl rfl (by decide) (by omega))
  have HG3 : Hid (∀ wz, Hid (DS w w.heap.size S l p c wz) → Calls Tryd.prog 55 #[.agg #[.slice p l.length c, .int .i64 (8 * (l.length : Int))], .int .i64 27, .int .i64 1] wz fun e w' => e = .returned (.int .i64 o1) ∧ wz.grownBy w' none) := Lib.hid (fun wz h => by rw [← ho1]; exact h.out.getf hl h1k 27 1 27 1 rfl rfl (by decide) (by omega))
  clear hr hq hcp ho1
  go_cut [9] from 57 to 64 (fun y wx => ∃ B, y = .pointer (some ⟨B, 0, none⟩) ∧ Hid (DA w w.heap.size S B l p c r q cp (.slice none 0 0) (.slice none 0 0) (.slice none 0 0) (.slice none 0 0) [] [] wx))
  case first =>
    have HD := Lib.hid (HD3.out.keep (grown_drew (grown_refl w4 none)))
    clear HD3
    refine region_until (S := fun w' => Hid (DS w w.heap.size S l p c w')) (fun j => j == 9) (by kernel_rfl) (HD) (fun hHeld => ?_)
    refine anyU_take (i := 0) (oi := { dst := some 57, op := Op.load 47 (Operand.tmp 5), type := 47, pos := "ref.go:113", after := #[], guard := none }) (v := ?_) rfl (by kernel_rfl) (by kernel_rfl) (by kernel_rfl) (by kernel_rfl) (by kernel_rfl) (fun _ _ _ h => h) (Or.inl ⟨by rfl, ?_⟩) hHeld ?_
    rotate_left 1
    · intro u hSu
      obtain ⟨s0, s1⟩ := row_cells hSu.out.sb
      go_simp
      first | done | with_reducible rfl
    (try simp only [Act.put, List.setIfInBounds_toArray, List.set_cons_zero, List.set_cons_succ])
    refine anyU_take (i := 2) (oi := { dst := some 59, op := Op.load 47 (Operand.tmp 5), type := 47, pos := "ref.go:113", after := #[], guard := none }) (v := ?_) rfl (by kernel_rfl) (by kernel_rfl) (by kernel_rfl) (by kernel_rfl) (by kernel_rfl) (fun _ _ _ h => h) (Or.inl ⟨by rfl, ?_⟩) hHeld ?_
    rotate_left 1
    · intro u hSu
      obtain ⟨s0, s1⟩ := row_cells hSu.out.sb
      go_simp
      first | done | with_reducible rfl
    (try simp only [Act.put, List.setIfInBounds_toArray, List.set_cons_zero, List.set_cons_succ])
    refine anyU_take (i := 4) (oi := { dst := some 61, op := Op.load 47 (Operand.tmp 5), type := 47, pos := "ref.go:113", after := #[], guard := none }) (v := ?_) rfl (by kernel_rfl) (by kernel_rfl) (by kernel_rfl) (by kernel_rfl) (by kernel_rfl) (fun _ _ _ h => h) (Or.inl ⟨by rfl, ?_⟩) hHeld ?_
    rotate_left 1
    · intro u hSu
      obtain ⟨s0, s1⟩ := row_cells hSu.out.sb
      go_simp
      first | done | with_reducible rfl
    (try simp only [Act.put, List.setIfInBounds_toArray, List.set_cons_zero, List.set_cons_succ])
    refine anyU_ready (rs := [1, 8]) (by kernel_rfl) (by simp) ?_
    refine EachU.cons (o := { dst := some 58, op := Op.call { callee := Callee.value (Operand.func 55), args := #[Operand.tmp 57, Operand.const (Value.int IntKind.i64 0), Operand.const (Value.int IntKind.i64 7)], argTypes := #[47, 3, 3] }, type := 3, pos := "ref.go:113", after := #[{ on := 0, ground := Ground.data }], guard := none }) rfl (fun Kz hK => ?_) (EachU.cons (o := { dst := some 9, op := Op.alloc 26, type := 0, pos := "ref.go:113", after := #[], guard := none }) rfl (fun Kz hK => ?_) EachU.nil)
    · go_simp
      go_at_call 55
      refine (HG1.out _ hHeld).mono ?_
      rintro e w5 ⟨rfl, hg⟩
      have hHn := Lib.hid (hHeld.out.keep hg)
      try replace HS := Lib.hid (show ∀ b, b = _ → _ from fun b hb => (HS.out b hb).keep hg)
      clear hg
      refine hK.out _ _ (fun _ => hHn) (fun hH2 => ?_)
      clear hK Kz hHeld
      have hHeld := hH2 rfl
      clear hH2
      (try simp only [Act.put, List.setIfInBounds_toArray, List.set_cons_zero, List.set_cons_succ])
      refine anyU_ready (rs := [3, 8]) (by kernel_rfl) (by simp) ?_
      refine EachU.cons (o := { dst := some 60, op := Op.call { callee := Callee.value (Operand.func 55), args := #[Operand.tmp 59, Operand.const (Value.int IntKind.i64 7), Operand.const (Value.int IntKind.i64 20)], argTypes := #[47, 3, 3] }, type := 3, pos := "ref.go:113", after := #[{ on := 2, ground := Ground.data }, { on := 1, ground := Ground.chain }], guard := none }) rfl (fun Kz hK => ?_) (EachU.cons (o := { dst := some 9, op := Op.alloc 26, type := 0, pos := "ref.go:113", after := #[], guard := none }) rfl (fun Kz hK => ?_) EachU.nil)
      · go_simp
        go_at_call 55
        refine (HG2.out _ hHeld).mono ?_
        rintro e w5 ⟨rfl, hg⟩
        have hHn := Lib.hid (hHeld.out.keep hg)
        try replace HS := Lib.hid (show ∀ b, b = _ → _ from fun b hb => (HS.out b hb).keep hg)
        clear hg
        refine hK.out _ _ (fun _ => hHn) (fun hH2 => ?_)
        clear hK Kz hHeld
        have hHeld := hH2 rfl
        clear hH2
        (try simp only [Act.put, List.setIfInBounds_toArray, List.set_cons_zero, List.set_cons_succ])
        refine anyU_ready (rs := [5, 8]) (by kernel_rfl) (by simp) ?_
        refine EachU.cons (o := { dst := some 62, op := Op.call { callee := Callee.value (Operand.func 55), args := #[Operand.tmp 61, Operand.const (Value.int IntKind.i64 27), Operand.const (Value.int IntKind.i64 1)], argTypes := #[47, 3, 3] }, type := 3, pos := "ref.go:113", after := #[{ on := 4, ground := Ground.data }, { on := 3, ground := Ground.chain }], guard := none }) rfl (fun Kz hK => ?_) (EachU.cons (o := { dst := some 9, op := Op.alloc 26, type := 0, pos := "ref.go:113", after := #[], guard := none }) rfl (fun Kz hK => ?_) EachU.nil)
        · go_simp
          go_at_call 55
          refine (HG3.out _ hHeld).mono ?_
          rintro e w5 ⟨rfl, hg⟩
          have hHn := Lib.hid (hHeld.out.keep hg)
          try replace HS := Lib.hid (show ∀ b, b = _ → _ from fun b hb => (HS.out b hb).keep hg)
          clear hg
          refine hK.out _ _ (fun _ => hHn) (fun hH2 => ?_)
          clear hK Kz hHeld
          have hHeld := hH2 rfl
          clear hH2
          (try simp only [Act.put, List.setIfInBounds_toArray, List.set_cons_zero, List.set_cons_succ])
          refine anyU_take (i := 6) (oi := { dst := some 63, op := Op.binOp BinOp.eql 3 (Operand.tmp 62) (Operand.const (Value.int IntKind.i64 1)) 3, type := 4, pos := "ref.go:113", after := #[{ on := 5, ground := Ground.data }], guard := none }) (v := ?_) rfl (by kernel_rfl) (by kernel_rfl) (by kernel_rfl) (by kernel_rfl) (by kernel_rfl) (fun _ _ _ h => h) (Or.inl ⟨by rfl, ?_⟩) hHeld ?_
          rotate_left 1
          · intro u hSu
            obtain ⟨s0, s1⟩ := row_cells hSu.out.sb
            go_simp
            first | done | with_reducible rfl
          (try simp only [Act.put, List.setIfInBounds_toArray, List.set_cons_zero, List.set_cons_succ])
          refine anyU_take (i := 7) (oi := { dst := some 64, op := Op.build 26 #[(0, Operand.tmp 58), (1, Operand.tmp 60), (2, Operand.tmp 63)], type := 26, pos := "ref.go:113", after := #[{ on := 1, ground := Ground.data }, { on := 3, ground := Ground.data }, { on := 6, ground := Ground.data }], guard := none }) (v := ?_) rfl (by kernel_rfl) (by kernel_rfl) (by kernel_rfl) (by kernel_rfl) (by kernel_rfl) (fun _ _ _ h => h) (Or.inl ⟨by rfl, ?_⟩) hHeld ?_
          rotate_left 1
          · intro u hSu
            obtain ⟨s0, s1⟩ := row_cells hSu.out.sb
            go_simp
            first | done | with_reducible rfl
          (try simp only [Act.put, List.setIfInBounds_toArray, List.set_cons_zero, List.set_cons_succ])
          refine anyU_ready (rs := [8]) (by kernel_rfl) (by simp) ?_
          refine EachU.cons (o := { dst := some 9, op := Op.alloc 26, type := 0, pos := "ref.go:113", after := #[], guard := none }) rfl (fun Kz hK => ?_) EachU.nil
          go_simp
          try have HE2 := Lib.hid (hHeld.out.start r q cp)
          have HSN := hHeld.out.na
          have hHn := Lib.hid (hHeld.out.keep (World.grownBy_alloc _ (.cells #[.int .i64 0, .int .i64 0, .bool false, .slice none 0 0, .slice none 0 0] 26) none))
          have HS := Lib.hid HSN
          clear HSN
          refine hK.out _ _ (fun _ => hHn) (fun hH2 => ?_)
          clear hK Kz hHeld
          have hHeld := hH2 rfl
          clear hH2
          (try simp only [Act.put, List.setIfInBounds_toArray, List.set_cons_zero, List.set_cons_succ])
          refine anyU_ready (rs := [9]) (by kernel_rfl) (by simp) ?_
          refine EachU.cons (o := { dst := none, op := Op.store 26 (Operand.tmp 9) (Operand.tmp 64), type := 0, pos := "ref.go:113", after := #[{ on := 8, ground := Ground.data }, { on := 7, ground := Ground.data }, { on := 5, ground := Ground.chain }, { on := 0, ground := Ground.phase }, { on := 1, ground := Ground.phase }, { on := 2, ground := Ground.phase }, { on := 3, ground := Ground.phase }, { on := 4, ground := Ground.phase }, { on := 5, ground := Ground.phase }, { on := 6, ground := Ground.phase }, { on := 7, ground := Ground.phase }, { on := 8, ground := Ground.phase }], guard := none }) rfl (fun Kz hK => ?_) EachU.nil
          have hna := HS.out _ (by first | rfl | simp)
          obtain ⟨k0, k1, k2, k3, k4⟩ := row5 hna.ab
          have f0 := frozen_of_row _ _ 0 _ _ hna.ab
          have f1 := frozen_of_row _ _ 1 _ _ hna.ab
          have f2 := frozen_of_row _ _ 2 _ _ hna.ab
          have f3 := frozen_of_row _ _ 3 _ _ hna.ab
          have f4 := frozen_of_row _ _ 4 _ _ hna.ab
          try (have hna2 : NA S w4.heap.size _ := hna; obtain ⟨j0, j1, j2, j3, j4⟩ := row5 hna2.ab; have g0 := frozen_of_row _ _ 0 _ _ hna2.ab; have g1 := frozen_of_row _ _ 1 _ _ hna2.ab; have g2 := frozen_of_row _ _ 2 _ _ hna2.ab; have g3 := frozen_of_row _ _ 3 _ _ hna2.ab; have g4 := frozen_of_row _ _ 4 _ _ hna2.ab)
          have HE := Lib.hid (da_put hHeld.out hna r q cp)
          go_simp
          refine hK.out _ _ (fun h => by cases h) (fun _ => ?_)
          clear hK Kz
          (try simp only [Act.put, List.setIfInBounds_toArray, List.set_cons_zero, List.set_cons_succ])
          refine anyU_done (by kernel_rfl) ?_ _
          clear HD HS
          go_wp2_with fail
          go_meet
          first | exact ⟨_, rfl, HE⟩ | exact ⟨_, rfl, HE2⟩
        · go_simp
          try have HE2 := Lib.hid (hHeld.out.start r q cp)
          have HSN := hHeld.out.na
          have hHn := Lib.hid (hHeld.out.keep (World.grownBy_alloc _ (.cells #[.int .i64 0, .int .i64 0, .bool false, .slice none 0 0, .slice none 0 0] 26) none))
          have HS := Lib.hid HSN
          clear HSN
          refine hK.out _ _ (fun _ => hHn) (fun hH2 => ?_)
          clear hK Kz hHeld
          have hHeld := hH2 rfl
          clear hH2
          (try simp only [Act.put, List.setIfInBounds_toArray, List.set_cons_zero, List.set_cons_succ])
          refine anyU_ready (rs := [5]) (by kernel_rfl) (by simp) ?_
          refine EachU.cons (o := { dst := some 62, op := Op.call { callee := Callee.value (Operand.func 55), args := #[Operand.tmp 61, Operand.const (Value.int IntKind.i64 27), Operand.const (Value.int IntKind.i64 1)], argTypes := #[47, 3, 3] }, type := 3, pos := "ref.go:113", after := #[{ on := 4, ground := Ground.data }, { on := 3, ground := Ground.chain }], guard := none }) rfl (fun Kz hK => ?_) EachU.nil
          go_simp
          go_at_call 55
          refine (HG3.out _ hHeld).mono ?_
          rintro e w5 ⟨rfl, hg⟩
          have hHn := Lib.hid (hHeld.out.keep hg)
          try replace HS := Lib.hid (show ∀ b, b = _ → _ from fun b hb => (HS.out b hb).keep hg)
          clear hg
          refine hK.out _ _ (fun _ => hHn) (fun hH2 => ?_)
          clear hK Kz hHeld
          have hHeld := hH2 rfl
          clear hH2
          (try simp only [Act.put, List.setIfInBounds_toArray, List.set_cons_zero, List.set_cons_succ])
          refine anyU_take (i := 6) (oi := { dst := some 63, op := Op.binOp BinOp.eql 3 (Operand.tmp 62) (Operand.const (Value.int IntKind.i64 1)) 3, type := 4, pos := "ref.go:113", after := #[{ on := 5, ground := Ground.data }], guard := none }) (v := ?_) rfl (by kernel_rfl) (by kernel_rfl) (by kernel_rfl) (by kernel_rfl) (by kernel_rfl) (fun _ _ _ h => h) (Or.inl ⟨by rfl, ?_⟩) hHeld ?_
          rotate_left 1
          · intro u hSu
            obtain ⟨s0, s1⟩ := row_cells hSu.out.sb
            go_simp
            first | done | with_reducible rfl
          (try simp only [Act.put, List.setIfInBounds_toArray, List.set_cons_zero, List.set_cons_succ])
          refine anyU_take (i := 7) (oi := { dst := some 64, op := Op.build 26 #[(0, Operand.tmp 58), (1, Operand.tmp 60), (2, Operand.tmp 63)], type := 26, pos := "ref.go:113", after := #[{ on := 1, ground := Ground.data }, { on := 3, ground := Ground.data }, { on := 6, ground := Ground.data }], guard := none }) (v := ?_) rfl (by kernel_rfl) (by kernel_rfl) (by kernel_rfl) (by kernel_rfl) (by kernel_rfl) (fun _ _ _ h => h) (Or.inl ⟨by rfl, ?_⟩) hHeld ?_
          rotate_left 1
          · intro u hSu
            obtain ⟨s0, s1⟩ := row_cells hSu.out.sb
            go_simp
            first | done | with_reducible rfl
          (try simp only [Act.put, List.setIfInBounds_toArray, List.set_cons_zero, List.set_cons_succ])
          refine anyU_ready (rs := [9]) (by kernel_rfl) (by simp) ?_
          refine EachU.cons (o := { dst := none, op := Op.store 26 (Operand.tmp 9) (Operand.tmp 64), type := 0, pos := "ref.go:113", after := #[{ on := 8, ground := Ground.data }, { on := 7, ground := Ground.data }, { on := 5, ground := Ground.chain }, { on := 0, ground := Ground.phase }, { on := 1, ground := Ground.phase }, { on := 2, ground := Ground.phase }, { on := 3, ground := Ground.phase }, { on := 4, ground := Ground.phase }, { on := 5, ground := Ground.phase }, { on := 6, ground := Ground.phase }, { on := 7, ground := Ground.phase }, { on := 8, ground := Ground.phase }], guard := none }) rfl (fun Kz hK => ?_) EachU.nil
          have hna := HS.out _ (by first | rfl | simp)
          obtain ⟨k0, k1, k2, k3, k4⟩ := row5 hna.ab
          have f0 := frozen_of_row _ _ 0 _ _ hna.ab
          have f1 := frozen_of_row _ _ 1 _ _ hna.ab
          have f2 := frozen_of_row _ _ 2 _ _ hna.ab
          have f3 := frozen_of_row _ _ 3 _ _ hna.ab
          have f4 := frozen_of_row _ _ 4 _ _ hna.ab
          try (have hna2 : NA S w4.heap.size _ := hna; obtain ⟨j0, j1, j2, j3, j4⟩ := row5 hna2.ab; have g0 := frozen_of_row _ _ 0 _ _ hna2.ab; have g1 := frozen_of_row _ _ 1 _ _ hna2.ab; have g2 := frozen_of_row _ _ 2 _ _ hna2.ab; have g3 := frozen_of_row _ _ 3 _ _ hna2.ab; have g4 := frozen_of_row _ _ 4 _ _ hna2.ab)
          have HE := Lib.hid (da_put hHeld.out hna r q cp)
          go_simp
          refine hK.out _ _ (fun h => by cases h) (fun _ => ?_)
          clear hK Kz
          (try simp only [Act.put, List.setIfInBounds_toArray, List.set_cons_zero, List.set_cons_succ])
          refine anyU_done (by kernel_rfl) ?_ _
          clear HD HS
          go_wp2_with fail
          go_meet
          first | exact ⟨_, rfl, HE⟩ | exact ⟨_, rfl, HE2⟩
      · go_simp
        try have HE2 := Lib.hid (hHeld.out.start r q cp)
        have HSN := hHeld.out.na
        have hHn := Lib.hid (hHeld.out.keep (World.grownBy_alloc _ (.cells #[.int .i64 0, .int .i64 0, .bool false, .slice none 0 0, .slice none 0 0] 26) none))
        have HS := Lib.hid HSN
        clear HSN
        refine hK.out _ _ (fun _ => hHn) (fun hH2 => ?_)
        clear hK Kz hHeld
        have hHeld := hH2 rfl
        clear hH2
        (try simp only [Act.put, List.setIfInBounds_toArray, List.set_cons_zero, List.set_cons_succ])
        refine anyU_ready (rs := [3]) (by kernel_rfl) (by simp) ?_
        refine EachU.cons (o := { dst := some 60, op := Op.call { callee := Callee.value (Operand.func 55), args := #[Operand.tmp 59, Operand.const (Value.int IntKind.i64 7), Operand.const (Value.int IntKind.i64 20)], argTypes := #[47, 3, 3] }, type := 3, pos := "ref.go:113", after := #[{ on := 2, ground := Ground.data }, { on := 1, ground := Ground.chain }], guard := none }) rfl (fun Kz hK => ?_) EachU.nil
        go_simp
        go_at_call 55
        refine (HG2.out _ hHeld).mono ?_
        rintro e w5 ⟨rfl, hg⟩
        have hHn := Lib.hid (hHeld.out.keep hg)
        try replace HS := Lib.hid (show ∀ b, b = _ → _ from fun b hb => (HS.out b hb).keep hg)
        clear hg
        refine hK.out _ _ (fun _ => hHn) (fun hH2 => ?_)
        clear hK Kz hHeld
        have hHeld := hH2 rfl
        clear hH2
        (try simp only [Act.put, List.setIfInBounds_toArray, List.set_cons_zero, List.set_cons_succ])
        refine anyU_ready (rs := [5]) (by kernel_rfl) (by simp) ?_
        refine EachU.cons (o := { dst := some 62, op := Op.call { callee := Callee.value (Operand.func 55), args := #[Operand.tmp 61, Operand.const (Value.int IntKind.i64 27), Operand.const (Value.int IntKind.i64 1)], argTypes := #[47, 3, 3] }, type := 3, pos := "ref.go:113", after := #[{ on := 4, ground := Ground.data }, { on := 3, ground := Ground.chain }], guard := none }) rfl (fun Kz hK => ?_) EachU.nil
        go_simp
        go_at_call 55
        refine (HG3.out _ hHeld).mono ?_
        rintro e w5 ⟨rfl, hg⟩
        have hHn := Lib.hid (hHeld.out.keep hg)
        try replace HS := Lib.hid (show ∀ b, b = _ → _ from fun b hb => (HS.out b hb).keep hg)
        clear hg
        refine hK.out _ _ (fun _ => hHn) (fun hH2 => ?_)
        clear hK Kz hHeld
        have hHeld := hH2 rfl
        clear hH2
        (try simp only [Act.put, List.setIfInBounds_toArray, List.set_cons_zero, List.set_cons_succ])
        refine anyU_take (i := 6) (oi := { dst := some 63, op := Op.binOp BinOp.eql 3 (Operand.tmp 62) (Operand.const (Value.int IntKind.i64 1)) 3, type := 4, pos := "ref.go:113", after := #[{ on := 5, ground := Ground.data }], guard := none }) (v := ?_) rfl (by kernel_rfl) (by kernel_rfl) (by kernel_rfl) (by kernel_rfl) (by kernel_rfl) (fun _ _ _ h => h) (Or.inl ⟨by rfl, ?_⟩) hHeld ?_
        rotate_left 1
        · intro u hSu
          obtain ⟨s0, s1⟩ := row_cells hSu.out.sb
          go_simp
          first | done | with_reducible rfl
        (try simp only [Act.put, List.setIfInBounds_toArray, List.set_cons_zero, List.set_cons_succ])
        refine anyU_take (i := 7) (oi := { dst := some 64, op := Op.build 26 #[(0, Operand.tmp 58), (1, Operand.tmp 60), (2, Operand.tmp 63)], type := 26, pos := "ref.go:113", after := #[{ on := 1, ground := Ground.data }, { on := 3, ground := Ground.data }, { on := 6, ground := Ground.data }], guard := none }) (v := ?_) rfl (by kernel_rfl) (by kernel_rfl) (by kernel_rfl) (by kernel_rfl) (by kernel_rfl) (fun _ _ _ h => h) (Or.inl ⟨by rfl, ?_⟩) hHeld ?_
        rotate_left 1
        · intro u hSu
          obtain ⟨s0, s1⟩ := row_cells hSu.out.sb
          go_simp
          first | done | with_reducible rfl
        (try simp only [Act.put, List.setIfInBounds_toArray, List.set_cons_zero, List.set_cons_succ])
        refine anyU_ready (rs := [9]) (by kernel_rfl) (by simp) ?_
        refine EachU.cons (o := { dst := none, op := Op.store 26 (Operand.tmp 9) (Operand.tmp 64), type := 0, pos := "ref.go:113", after := #[{ on := 8, ground := Ground.data }, { on := 7, ground := Ground.data }, { on := 5, ground := Ground.chain }, { on := 0, ground := Ground.phase }, { on := 1, ground := Ground.phase }, { on := 2, ground := Ground.phase }, { on := 3, ground := Ground.phase }, { on := 4, ground := Ground.phase }, { on := 5, ground := Ground.phase }, { on := 6, ground := Ground.phase }, { on := 7, ground := Ground.phase }, { on := 8, ground := Ground.phase }], guard := none }) rfl (fun Kz hK => ?_) EachU.nil
        have hna := HS.out _ (by first | rfl | simp)
        obtain ⟨k0, k1, k2, k3, k4⟩ := row5 hna.ab
        have f0 := frozen_of_row _ _ 0 _ _ hna.ab
        have f1 := frozen_of_row _ _ 1 _ _ hna.ab
        have f2 := frozen_of_row _ _ 2 _ _ hna.ab
        have f3 := frozen_of_row _ _ 3 _ _ hna.ab
        have f4 := frozen_of_row _ _ 4 _ _ hna.ab
        try (have hna2 : NA S w4.heap.size _ := hna; obtain ⟨j0, j1, j2, j3, j4⟩ := row5 hna2.ab; have g0 := frozen_of_row _ _ 0 _ _ hna2.ab; have g1 := frozen_of_row _ _ 1 _ _ hna2.ab; have g2 := frozen_of_row _ _ 2 _ _ hna2.ab; have g3 := frozen_of_row _ _ 3 _ _ hna2.ab; have g4 := frozen_of_row _ _ 4 _ _ hna2.ab)
        have HE := Lib.hid (da_put hHeld.out hna r q cp)
        go_simp
        refine hK.out _ _ (fun h => by cases h) (fun _ => ?_)
        clear hK Kz
        (try simp only [Act.put, List.setIfInBounds_toArray, List.set_cons_zero, List.set_cons_succ])
        refine anyU_done (by kernel_rfl) ?_ _
        clear HD HS
        go_wp2_with fail
        go_meet
        first | exact ⟨_, rfl, HE⟩ | exact ⟨_, rfl, HE2⟩
    · go_simp
      try have HE2 := Lib.hid (hHeld.out.start r q cp)
      have HSN := hHeld.out.na
      have hHn := Lib.hid (hHeld.out.keep (World.grownBy_alloc _ (.cells #[.int .i64 0, .int .i64 0, .bool false, .slice none 0 0, .slice none 0 0] 26) none))
      have HS := Lib.hid HSN
      clear HSN
      refine hK.out _ _ (fun _ => hHn) (fun hH2 => ?_)
      clear hK Kz hHeld
      have hHeld := hH2 rfl
      clear hH2
      (try simp only [Act.put, List.setIfInBounds_toArray, List.set_cons_zero, List.set_cons_succ])
      refine anyU_ready (rs := [1]) (by kernel_rfl) (by simp) ?_
      refine EachU.cons (o := { dst := some 58, op := Op.call { callee := Callee.value (Operand.func 55), args := #[Operand.tmp 57, Operand.const (Value.int IntKind.i64 0), Operand.const (Value.int IntKind.i64 7)], argTypes := #[47, 3, 3] }, type := 3, pos := "ref.go:113", after := #[{ on := 0, ground := Ground.data }], guard := none }) rfl (fun Kz hK => ?_) EachU.nil
      go_simp
      go_at_call 55
      refine (HG1.out _ hHeld).mono ?_
      rintro e w5 ⟨rfl, hg⟩
      have hHn := Lib.hid (hHeld.out.keep hg)
      try replace HS := Lib.hid (show ∀ b, b = _ → _ from fun b hb => (HS.out b hb).keep hg)
      clear hg
      refine hK.out _ _ (fun _ => hHn) (fun hH2 => ?_)
      clear hK Kz hHeld
      have hHeld := hH2 rfl
      clear hH2
      (try simp only [Act.put, List.setIfInBounds_toArray, List.set_cons_zero, List.set_cons_succ])
      refine anyU_ready (rs := [3]) (by kernel_rfl) (by simp) ?_
      refine EachU.cons (o := { dst := some 60, op := Op.call { callee := Callee.value (Operand.func 55), args := #[Operand.tmp 59, Operand.const (Value.int IntKind.i64 7), Operand.const (Value.int IntKind.i64 20)], argTypes := #[47, 3, 3] }, type := 3, pos := "ref.go:113", after := #[{ on := 2, ground := Ground.data }, { on := 1, ground := Ground.chain }], guard := none }) rfl (fun Kz hK => ?_) EachU.nil
      go_simp
      go_at_call 55
      refine (HG2.out _ hHeld).mono ?_
      rintro e w5 ⟨rfl, hg⟩
      have hHn := Lib.hid (hHeld.out.keep hg)
      try replace HS := Lib.hid (show ∀ b, b = _ → _ from fun b hb => (HS.out b hb).keep hg)
      clear hg
      refine hK.out _ _ (fun _ => hHn) (fun hH2 => ?_)
      clear hK Kz hHeld
      have hHeld := hH2 rfl
      clear hH2
      (try simp only [Act.put, List.setIfInBounds_toArray, List.set_cons_zero, List.set_cons_succ])
      refine anyU_ready (rs := [5]) (by kernel_rfl) (by simp) ?_
      refine EachU.cons (o := { dst := some 62, op := Op.call { callee := Callee.value (Operand.func 55), args := #[Operand.tmp 61, Operand.const (Value.int IntKind.i64 27), Operand.const (Value.int IntKind.i64 1)], argTypes := #[47, 3, 3] }, type := 3, pos := "ref.go:113", after := #[{ on := 4, ground := Ground.data }, { on := 3, ground := Ground.chain }], guard := none }) rfl (fun Kz hK => ?_) EachU.nil
      go_simp
      go_at_call 55
      refine (HG3.out _ hHeld).mono ?_
      rintro e w5 ⟨rfl, hg⟩
      have hHn := Lib.hid (hHeld.out.keep hg)
      try replace HS := Lib.hid (show ∀ b, b = _ → _ from fun b hb => (HS.out b hb).keep hg)
      clear hg
      refine hK.out _ _ (fun _ => hHn) (fun hH2 => ?_)
      clear hK Kz hHeld
      have hHeld := hH2 rfl
      clear hH2
      (try simp only [Act.put, List.setIfInBounds_toArray, List.set_cons_zero, List.set_cons_succ])
      refine anyU_take (i := 6) (oi := { dst := some 63, op := Op.binOp BinOp.eql 3 (Operand.tmp 62) (Operand.const (Value.int IntKind.i64 1)) 3, type := 4, pos := "ref.go:113", after := #[{ on := 5, ground := Ground.data }], guard := none }) (v := ?_) rfl (by kernel_rfl) (by kernel_rfl) (by kernel_rfl) (by kernel_rfl) (by kernel_rfl) (fun _ _ _ h => h) (Or.inl ⟨by rfl, ?_⟩) hHeld ?_
      rotate_left 1
      · intro u hSu
        obtain ⟨s0, s1⟩ := row_cells hSu.out.sb
        go_simp
        first | done | with_reducible rfl
      (try simp only [Act.put, List.setIfInBounds_toArray, List.set_cons_zero, List.set_cons_succ])
      refine anyU_take (i := 7) (oi := { dst := some 64, op := Op.build 26 #[(0, Operand.tmp 58), (1, Operand.tmp 60), (2, Operand.tmp 63)], type := 26, pos := "ref.go:113", after := #[{ on := 1, ground := Ground.data }, { on := 3, ground := Ground.data }, { on := 6, ground := Ground.data }], guard := none }) (v := ?_) rfl (by kernel_rfl) (by kernel_rfl) (by kernel_rfl) (by kernel_rfl) (by kernel_rfl) (fun _ _ _ h => h) (Or.inl ⟨by rfl, ?_⟩) hHeld ?_
      rotate_left 1
      · intro u hSu
        obtain ⟨s0, s1⟩ := row_cells hSu.out.sb
        go_simp
        first | done | with_reducible rfl
      (try simp only [Act.put, List.setIfInBounds_toArray, List.set_cons_zero, List.set_cons_succ])
      refine anyU_ready (rs := [9]) (by kernel_rfl) (by simp) ?_
      refine EachU.cons (o := { dst := none, op := Op.store 26 (Operand.tmp 9) (Operand.tmp 64), type := 0, pos := "ref.go:113", after := #[{ on := 8, ground := Ground.data }, { on := 7, ground := Ground.data }, { on := 5, ground := Ground.chain }, { on := 0, ground := Ground.phase }, { on := 1, ground := Ground.phase }, { on := 2, ground := Ground.phase }, { on := 3, ground := Ground.phase }, { on := 4, ground := Ground.phase }, { on := 5, ground := Ground.phase }, { on := 6, ground := Ground.phase }, { on := 7, ground := Ground.phase }, { on := 8, ground := Ground.phase }], guard := none }) rfl (fun Kz hK => ?_) EachU.nil
      have hna := HS.out _ (by first | rfl | simp)
      obtain ⟨k0, k1, k2, k3, k4⟩ := row5 hna.ab
      have f0 := frozen_of_row _ _ 0 _ _ hna.ab
      have f1 := frozen_of_row _ _ 1 _ _ hna.ab
      have f2 := frozen_of_row _ _ 2 _ _ hna.ab
      have f3 := frozen_of_row _ _ 3 _ _ hna.ab
      have f4 := frozen_of_row _ _ 4 _ _ hna.ab
      try (have hna2 : NA S w4.heap.size _ := hna; obtain ⟨j0, j1, j2, j3, j4⟩ := row5 hna2.ab; have g0 := frozen_of_row _ _ 0 _ _ hna2.ab; have g1 := frozen_of_row _ _ 1 _ _ hna2.ab; have g2 := frozen_of_row _ _ 2 _ _ hna2.ab; have g3 := frozen_of_row _ _ 3 _ _ hna2.ab; have g4 := frozen_of_row _ _ 4 _ _ hna2.ab)
      have HE := Lib.hid (da_put hHeld.out hna r q cp)
      go_simp
      refine hK.out _ _ (fun h => by cases h) (fun _ => ?_)
      clear hK Kz
      (try simp only [Act.put, List.setIfInBounds_toArray, List.set_cons_zero, List.set_cons_succ])
      refine anyU_done (by kernel_rfl) ?_ _
      clear HD HS
      go_wp2_with fail
      go_meet
      first | exact ⟨_, rfl, HE⟩ | exact ⟨_, rfl, HE2⟩
  case rest =>
  obtain ⟨B, rfl, H5⟩ := hcut
  clear HD3 HG1 HG2 HG3 hcp2

  have hEP : P + 4 + m * 14 = E := HEm.out.symm
  have hPn : 33 + n * 27 = P := HPP.out.symm
  have HBB := Lib.hid (And.intro hEP hPn)
  clear hEP hPn hPi hEi
  go_upto_block 0 with fail
  go_cut [] from 65 to 89 (fun wx => ∃ vL, Hid (DA w w.heap.size S B l p c r q cp vL (.slice none 0 0) vL (.slice none 0 0) (rdL l n) [] wx))
  case first =>
    go_wp2_with fail
    go_loopw [10] (fun i wr => ∃ k : Nat, k ≤ n ∧ i = .int .i64 (k : Int) ∧ ∃ vL, Hid (DA w w.heap.size S B l p c r q cp vL (.slice none 0 0) vL (.slice none 0 0) (rdL l k) [] wr)) (fun i _ => n - (RowKit.intOf i).toNat)
    case atStart => exact ⟨0, Nat.zero_le _, rfl, _, H5⟩
    case round =>
      obtain ⟨k, hk, rfl, vL, HK⟩ := hrel
      clear H5
      by_cases hlt : k < n
      · obtain ⟨Q, hQ⟩ : ∃ Q : Nat, Q = 33 + k * 27 := ⟨_, rfl⟩
        have HSU : Hid (rdL l (k + 1) = rdL l k ++ [⟨((fd l Q 7 : Nat) : Int), ((fd l (Q + 7) 10 : Nat) : Int), ((fd l (Q + 7 + 10) 10 : Nat) : Int)⟩]) := Lib.hid (by rw [rdL_succ, hQ])
        have hQi : 33 + 27 * (k : Int) = (Q : Int) := by omega
        have hQb : Q + 27 ≤ 8 * l.length := by have := HBB.out.1; have := HBB.out.2; omega
        have hQ3 : Q ≤ 2000 := by omega
        have hw7 : IntKind.i64.wrap ((Q : Int) + 7) = (Q : Int) + 7 := by rw [IntKind.wrap_i64]; omega
        have hw17 : IntKind.i64.wrap ((Q : Int) + 17) = (Q : Int) + 17 := by rw [IntKind.wrap_i64]; omega
        have HGa : Hid (∀ wz, DS w w.heap.size S l p c wz → Calls Tryd.prog 55 #[.agg #[.slice p l.length c, .int .i64 (8 * (l.length : Int))], .int .i64 ((Q : Int)), .int .i64 7] wz fun e w' => e = .returned (.int .i64 ((fd l (Q) 7 : Nat) : Int)) ∧ wz.grownBy w' none) := Lib.hid (fun wz h => h.getf hl h1k ((Q : Int)) 7 (Q) 7 (by omega) rfl (by decide) (by omega))
        have HGb : Hid (∀ wz, DS w w.heap.size S l p c wz → Calls Tryd.prog 55 #[.agg #[.slice p l.length c, .int .i64 (8 * (l.length : Int))], .int .i64 ((Q : Int) + 7), .int .i64 10] wz fun e w' => e = .returned (.int .i64 ((fd l (Q + 7) 10 : Nat) : Int)) ∧ wz.grownBy w' none) := Lib.hid (fun wz h => h.getf hl h1k ((Q : Int) + 7) 10 (Q + 7) 10 (by omega) rfl (by decide) (by omega))
        have HGc : Hid (∀ wz, DS w w.heap.size S l p c wz → Calls Tryd.prog 55 #[.agg #[.slice p l.length c, .int .i64 (8 * (l.length : Int))], .int .i64 ((Q : Int) + 17), .int .i64 10] wz fun e w' => e = .returned (.int .i64 ((fd l (Q + 7 + 10) 10 : Nat) : Int)) ∧ wz.grownBy w' none) := Lib.hid (fun wz h => h.getf hl h1k ((Q : Int) + 17) 10 (Q + 7 + 10) 10 (by omega) rfl (by decide) (by omega))
        clear hQ
        go_upto_region 18 with fail
        have HD := Lib.hid (HK.out.keep (grown_drew (grown_refl wr none)))
        clear HK hQi
        refine region_until (S := fun w' => Hid (DA w w.heap.size S B l p c r q cp vL (.slice none 0 0) vL (.slice none 0 0) (rdL l k) ([]) w')) (fun j => j == 15 || j == 16 || j == 17) (by kernel_rfl) (HD) (fun hHeld => ?_)
        refine anyU_take (i := 0) (oi := { dst := some 73, op := Op.fieldAddr 26 (Operand.tmp 9) 3, type := 0, pos := "ref.go:116", after := #[], guard := none }) (v := ?_) rfl (by kernel_rfl) (by kernel_rfl) (by kernel_rfl) (by kernel_rfl) (by kernel_rfl) (fun _ _ _ h => h) (Or.inl ⟨by rfl, ?_⟩) hHeld ?_
        rotate_left 1
        · intro u hSu
          have q0 := (cell_of_row _ _ 3 _ _ _ hSu.out.g.ab)
          obtain ⟨s0, s1⟩ := row_cells hSu.out.d.sb
          go_simp
          first | done | with_reducible rfl
        (try simp only [Act.put, List.setIfInBounds_toArray, List.set_cons_zero, List.set_cons_succ])
        refine anyU_take (i := 1) (oi := { dst := some 74, op := Op.load 23 (Operand.tmp 73), type := 23, pos := "ref.go:116", after := #[{ on := 0, ground := Ground.data }], guard := none }) (v := ?_) rfl (by kernel_rfl) (by kernel_rfl) (by kernel_rfl) (by kernel_rfl) (by kernel_rfl) (fun _ _ _ h => h) (Or.inl ⟨by rfl, ?_⟩) hHeld ?_
        rotate_left 1
        · intro u hSu
          have q0 := (cell_of_row _ _ 3 _ _ _ hSu.out.g.ab)
          obtain ⟨s0, s1⟩ := row_cells hSu.out.d.sb
          go_simp
          first | done | with_reducible rfl
        (try simp only [Act.put, List.setIfInBounds_toArray, List.set_cons_zero, List.set_cons_succ])
        refine anyU_take (i := 2) (oi := { dst := some 75, op := Op.load 47 (Operand.tmp 5), type := 47, pos := "ref.go:116", after := #[], guard := none }) (v := ?_) rfl (by kernel_rfl) (by kernel_rfl) (by kernel_rfl) (by kernel_rfl) (by kernel_rfl) (fun _ _ _ h => h) (Or.inl ⟨by rfl, ?_⟩) hHeld ?_
        rotate_left 1
        · intro u hSu
          have q0 := (cell_of_row _ _ 3 _ _ _ hSu.out.g.ab)
          obtain ⟨s0, s1⟩ := row_cells hSu.out.d.sb
          go_simp
          first | done | with_reducible rfl
        (try simp only [Act.put, List.setIfInBounds_toArray, List.set_cons_zero, List.set_cons_succ])
        refine anyU_take (i := 3) (oi := { dst := some 76, op := Op.move (Operand.tmp 11), type := 3, pos := "ref.go:116", after := #[], guard := none }) (v := ?_) rfl (by kernel_rfl) (by kernel_rfl) (by kernel_rfl) (by kernel_rfl) (by kernel_rfl) (fun _ _ _ h => h) (Or.inl ⟨by rfl, ?_⟩) hHeld ?_
        rotate_left 1
        · intro u hSu
          have q0 := (cell_of_row _ _ 3 _ _ _ hSu.out.g.ab)
          obtain ⟨s0, s1⟩ := row_cells hSu.out.d.sb
          go_simp
          first | done | with_reducible rfl
        (try simp only [Act.put, List.setIfInBounds_toArray, List.set_cons_zero, List.set_cons_succ])
        refine anyU_take (i := 5) (oi := { dst := some 78, op := Op.load 47 (Operand.tmp 5), type := 47, pos := "ref.go:116", after := #[], guard := none }) (v := ?_) rfl (by kernel_rfl) (by kernel_rfl) (by kernel_rfl) (by kernel_rfl) (by kernel_rfl) (fun _ _ _ h => h) (Or.inl ⟨by rfl, ?_⟩) hHeld ?_
        rotate_left 1
        · intro u hSu
          have q0 := (cell_of_row _ _ 3 _ _ _ hSu.out.g.ab)
          obtain ⟨s0, s1⟩ := row_cells hSu.out.d.sb
          go_simp
          first | done | with_reducible rfl
        (try simp only [Act.put, List.setIfInBounds_toArray, List.set_cons_zero, List.set_cons_succ])
        refine anyU_take (i := 6) (oi := { dst := some 79, op := Op.move (Operand.tmp 11), type := 3, pos := "ref.go:116", after := #[], guard := none }) (v := ?_) rfl (by kernel_rfl) (by kernel_rfl) (by kernel_rfl) (by kernel_rfl) (by kernel_rfl) (fun _ _ _ h => h) (Or.inl ⟨by rfl, ?_⟩) hHeld ?_
        rotate_left 1
        · intro u hSu
          have q0 := (cell_of_row _ _ 3 _ _ _ hSu.out.g.ab)
          obtain ⟨s0, s1⟩ := row_cells hSu.out.d.sb
          go_simp
          first | done | with_reducible rfl
        (try simp only [Act.put, List.setIfInBounds_toArray, List.set_cons_zero, List.set_cons_succ])
        refine anyU_take (i := 7) (oi := { dst := some 80, op := Op.binOp BinOp.add 3 (Operand.tmp 79) (Operand.const (Value.int IntKind.i64 7)) 3, type := 3, pos := "ref.go:116", after := #[{ on := 6, ground := Ground.data }], guard := none }) (v := ?_) rfl (by kernel_rfl) (by kernel_rfl) (by kernel_rfl) (by kernel_rfl) (by kernel_rfl) (fun _ _ _ h => h) (Or.inl ⟨by rfl, ?_⟩) hHeld ?_
        rotate_left 1
        · intro u hSu
          have q0 := (cell_of_row _ _ 3 _ _ _ hSu.out.g.ab)
          obtain ⟨s0, s1⟩ := row_cells hSu.out.d.sb
          go_simp
          first | done | with_reducible rfl
        (try simp only [Act.put, List.setIfInBounds_toArray, List.set_cons_zero, List.set_cons_succ])
        refine anyU_take (i := 9) (oi := { dst := some 82, op := Op.load 47 (Operand.tmp 5), type := 47, pos := "ref.go:116", after := #[], guard := none }) (v := ?_) rfl (by kernel_rfl) (by kernel_rfl) (by kernel_rfl) (by kernel_rfl) (by kernel_rfl) (fun _ _ _ h => h) (Or.inl ⟨by rfl, ?_⟩) hHeld ?_
        rotate_left 1
        · intro u hSu
          have q0 := (cell_of_row _ _ 3 _ _ _ hSu.out.g.ab)
          obtain ⟨s0, s1⟩ := row_cells hSu.out.d.sb
          go_simp
          first | done | with_reducible rfl
        (try simp only [Act.put, List.setIfInBounds_toArray, List.set_cons_zero, List.set_cons_succ])
        refine anyU_take (i := 10) (oi := { dst := some 83, op := Op.move (Operand.tmp 11), type := 3, pos := "ref.go:116", after := #[], guard := none }) (v := ?_) rfl (by kernel_rfl) (by kernel_rfl) (by kernel_rfl) (by kernel_rfl) (by kernel_rfl) (fun _ _ _ h => h) (Or.inl ⟨by rfl, ?_⟩) hHeld ?_
        rotate_left 1
        · intro u hSu
          have q0 := (cell_of_row _ _ 3 _ _ _ hSu.out.g.ab)
          obtain ⟨s0, s1⟩ := row_cells hSu.out.d.sb
          go_simp
          first | done | with_reducible rfl
        (try simp only [Act.put, List.setIfInBounds_toArray, List.set_cons_zero, List.set_cons_succ])
        refine anyU_take (i := 11) (oi := { dst := some 84, op := Op.binOp BinOp.add 3 (Operand.tmp 83) (Operand.const (Value.int IntKind.i64 17)) 3, type := 3, pos := "ref.go:116", after := #[{ on := 10, ground := Ground.data }], guard := none }) (v := ?_) rfl (by kernel_rfl) (by kernel_rfl) (by kernel_rfl) (by kernel_rfl) (by kernel_rfl) (fun _ _ _ h => h) (Or.inl ⟨by rfl, ?_⟩) hHeld ?_
        rotate_left 1
        · intro u hSu
          have q0 := (cell_of_row _ _ 3 _ _ _ hSu.out.g.ab)
          obtain ⟨s0, s1⟩ := row_cells hSu.out.d.sb
          go_simp
          first | done | with_reducible rfl
        (try simp only [Act.put, List.setIfInBounds_toArray, List.set_cons_zero, List.set_cons_succ])
        refine anyU_ready (rs := [4]) (by kernel_rfl) (by simp) ?_
        refine EachU.cons (o := { dst := some 77, op := Op.call { callee := Callee.value (Operand.func 55), args := #[Operand.tmp 75, Operand.tmp 76, Operand.const (Value.int IntKind.i64 7)], argTypes := #[47, 3, 3] }, type := 3, pos := "ref.go:116", after := #[{ on := 2, ground := Ground.data }, { on := 3, ground := Ground.data }], guard := none }) rfl (fun Kz hK => ?_) EachU.nil
        go_simp
        go_at_call 55
        with_reducible refine (HGa.out _ hHeld.out.d).mono ?_
        rintro e w5 ⟨rfl, hg⟩
        have hHn := Lib.hid (hHeld.out.keep hg)
        clear hg
        refine hK.out _ _ (fun _ => hHn) (fun hH2 => ?_)
        clear hK Kz hHeld
        have hHeld := hH2 rfl
        clear hH2
        (try simp only [Act.put, List.setIfInBounds_toArray, List.set_cons_zero, List.set_cons_succ])
        refine anyU_ready (rs := [8]) (by kernel_rfl) (by simp) ?_
        refine EachU.cons (o := { dst := some 81, op := Op.call { callee := Callee.value (Operand.func 55), args := #[Operand.tmp 78, Operand.tmp 80, Operand.const (Value.int IntKind.i64 10)], argTypes := #[47, 3, 3] }, type := 3, pos := "ref.go:116", after := #[{ on := 5, ground := Ground.data }, { on := 7, ground := Ground.data }, { on := 4, ground := Ground.chain }], guard := none }) rfl (fun Kz hK => ?_) EachU.nil
        go_simp
        go_at_call 55
        with_reducible refine (HGb.out _ hHeld.out.d).mono ?_
        rintro e w5 ⟨rfl, hg⟩
        have hHn := Lib.hid (hHeld.out.keep hg)
        clear hg
        refine hK.out _ _ (fun _ => hHn) (fun hH2 => ?_)
        clear hK Kz hHeld
        have hHeld := hH2 rfl
        clear hH2
        (try simp only [Act.put, List.setIfInBounds_toArray, List.set_cons_zero, List.set_cons_succ])
        refine anyU_ready (rs := [12]) (by kernel_rfl) (by simp) ?_
        refine EachU.cons (o := { dst := some 85, op := Op.call { callee := Callee.value (Operand.func 55), args := #[Operand.tmp 82, Operand.tmp 84, Operand.const (Value.int IntKind.i64 10)], argTypes := #[47, 3, 3] }, type := 3, pos := "ref.go:116", after := #[{ on := 9, ground := Ground.data }, { on := 11, ground := Ground.data }, { on := 8, ground := Ground.chain }], guard := none }) rfl (fun Kz hK => ?_) EachU.nil
        go_simp
        go_at_call 55
        with_reducible refine (HGc.out _ hHeld.out.d).mono ?_
        rintro e w5 ⟨rfl, hg⟩
        have hHn := Lib.hid (hHeld.out.keep hg)
        clear hg
        refine hK.out _ _ (fun _ => hHn) (fun hH2 => ?_)
        clear hK Kz hHeld
        have hHeld := hH2 rfl
        clear hH2
        (try simp only [Act.put, List.setIfInBounds_toArray, List.set_cons_zero, List.set_cons_succ])
        refine anyU_take (i := 13) (oi := { dst := some 86, op := Op.build 70 #[(0, Operand.tmp 77), (1, Operand.tmp 81), (2, Operand.tmp 85)], type := 70, pos := "ref.go:116", after := #[{ on := 4, ground := Ground.data }, { on := 8, ground := Ground.data }, { on := 12, ground := Ground.data }], guard := none }) (v := ?_) rfl (by kernel_rfl) (by kernel_rfl) (by kernel_rfl) (by kernel_rfl) (by kernel_rfl) (fun _ _ _ h => h) (Or.inl ⟨by rfl, ?_⟩) hHeld ?_
        rotate_left 1
        · intro u hSu
          have q0 := (cell_of_row _ _ 3 _ _ _ hSu.out.g.ab)
          obtain ⟨s0, s1⟩ := row_cells hSu.out.d.sb
          go_simp
          first | done | with_reducible rfl
        (try simp only [Act.put, List.setIfInBounds_toArray, List.set_cons_zero, List.set_cons_succ])
        refine anyU_ready (rs := [14]) (by kernel_rfl) (by simp) ?_
        refine EachU.cons (o := { dst := some 87, op := Op.buildSlice 23 1 #[(0, Operand.tmp 86)], type := 23, pos := "ref.go:116", after := #[{ on := 13, ground := Ground.data }], guard := none }) rfl (fun Kz hK => ?_) EachU.nil
        go_simp
        have hHn := Lib.hid (hHeld.out.keep (World.grownBy_alloc _ (.cells #[.int .i64 ((fd l Q 7 : Nat) : Int), .int .i64 ((fd l (Q + 7) 10 : Nat) : Int), .int .i64 ((fd l (Q + 7 + 10) 10 : Nat) : Int)] 70) none))
        refine hK.out _ _ (fun _ => hHn) (fun hH2 => ?_)
        clear hK Kz hHeld
        have hHeld := hH2 rfl
        clear hH2
        (try simp only [Act.put, List.setIfInBounds_toArray, List.set_cons_zero, List.set_cons_succ])
        refine anyU_ready (rs := [15]) (by kernel_rfl) (by simp) ?_
        refine EachU.cons (o := { dst := some 88, op := Op.call { callee := Callee.builtin Builtin.append, args := #[Operand.tmp 74, Operand.tmp 87], argTypes := #[23, 23] }, type := 23, pos := "ref.go:116", after := #[{ on := 1, ground := Ground.data }, { on := 14, ground := Ground.data }, { on := 12, ground := Ground.chain }], guard := none }) rfl (fun Kz hK => ?_) EachU.nil
        refine (astep_app t3C 3 24 (by decide) (fun _ => rfl) t3_one 70 23 ir _ Tryd.underlying23 hir hr0 hr1 hr2 rfl (by decide) (by rfl) _ _ (by rfl) (B + 1) vL (rdL l k) (by rfl) hHeld.out.g.oL (some ⟨_, 0, none⟩) 1 1 [⟨((fd l Q 7 : Nat) : Int), ((fd l (Q + 7) 10 : Nat) : Int), ((fd l (Q + 7 + 10) 10 : Nat) : Int)⟩] (by rfl) rfl (by simp) (fun _ => True) (rdf_one _ trivial (cells3 _ _ _ _ _) 1) (by omega) (by rw [rdL_len]; simp; omega) (by have := hHeld.out.g.sz; omega) ?_)
        intro p4 c4 w8 hown hg hat
        have HD5 := Lib.hid (hHeld.out.addL (M := rdL l k ++ [⟨((fd l Q 7 : Nat) : Int), ((fd l (Q + 7) 10 : Nat) : Int), ((fd l (Q + 7 + 10) 10 : Nat) : Int)⟩]) hown hg hat)
        rw [← HSU.out] at HD5
        obtain ⟨c90, c91, c92, c93, c94⟩ := HD5.out.g.cells
        have fB := frozen_of_row _ _ 3 _ _ HD5.out.g.ab
        clear hown hg hat
        refine hK.out _ _ (fun h => by cases h) (fun _ => ?_)
        clear hK Kz
        (try simp only [Act.put, List.setIfInBounds_toArray, List.set_cons_zero, List.set_cons_succ])
        refine anyU_ready (rs := [16]) (by kernel_rfl) (by simp) ?_
        refine EachU.cons (o := { dst := some 89, op := Op.fieldAddr 26 (Operand.tmp 9) 3, type := 0, pos := "ref.go:116", after := #[{ on := 0, ground := Ground.phase }, { on := 1, ground := Ground.phase }, { on := 2, ground := Ground.phase }, { on := 3, ground := Ground.phase }, { on := 4, ground := Ground.phase }, { on := 5, ground := Ground.phase }, { on := 6, ground := Ground.phase }, { on := 7, ground := Ground.phase }, { on := 8, ground := Ground.phase }, { on := 9, ground := Ground.phase }, { on := 10, ground := Ground.phase }, { on := 11, ground := Ground.phase }, { on := 12, ground := Ground.phase }, { on := 13, ground := Ground.phase }, { on := 14, ground := Ground.phase }, { on := 15, ground := Ground.phase }], guard := none }) rfl (fun Kz hK => ?_) EachU.nil
        go_simp
        refine hK.out _ _ (fun h => by cases h) (fun _ => ?_)
        clear hK Kz
        (try simp only [Act.put, List.setIfInBounds_toArray, List.set_cons_zero, List.set_cons_succ])
        refine anyU_ready (rs := [17]) (by kernel_rfl) (by simp) ?_
        refine EachU.cons (o := { dst := none, op := Op.store 23 (Operand.tmp 89) (Operand.tmp 88), type := 0, pos := "ref.go:116", after := #[{ on := 16, ground := Ground.data }, { on := 15, ground := Ground.data }, { on := 15, ground := Ground.chain }, { on := 0, ground := Ground.phase }, { on := 1, ground := Ground.phase }, { on := 2, ground := Ground.phase }, { on := 3, ground := Ground.phase }, { on := 4, ground := Ground.phase }, { on := 5, ground := Ground.phase }, { on := 6, ground := Ground.phase }, { on := 7, ground := Ground.phase }, { on := 8, ground := Ground.phase }, { on := 9, ground := Ground.phase }, { on := 10, ground := Ground.phase }, { on := 11, ground := Ground.phase }, { on := 12, ground := Ground.phase }, { on := 13, ground := Ground.phase }, { on := 14, ground := Ground.phase }, { on := 15, ground := Ground.phase }], guard := none }) rfl (fun Kz hK => ?_) EachU.nil
        go_simp
        refine hK.out _ _ (fun h => by cases h) (fun _ => ?_)
        clear hK Kz
        (try simp only [Act.put, List.setIfInBounds_toArray, List.set_cons_zero, List.set_cons_succ])
        refine anyU_done (by kernel_rfl) ?_ _
        have HNx := Lib.hid HD5.out.putL
        clear HD5 c90 c91 c92 c93 c94 fB
        go_wp2_with fail
        exact ⟨⟨k + 1, by omega, congrArg _ (by omega), _, HNx⟩, by simp only [RowKit.intOf]; omega⟩
      · obtain rfl : k = n := by omega
        go_wp2_with fail
        go_meet
        exact ⟨vL, HK⟩
  case rest =>
  obtain ⟨vL, H6⟩ := hcut
  clear H5
  go_upto_block 2 with fail
  go_cut [] from 90 to 117 (fun wx => ∃ vC, Hid (DA w w.heap.size S B l p c r q cp vL vC vL vC (rdL l n) (rdC l (P + 4) m) wx))
  case first =>
    go_wp2_with fail
    go_loopw [12] (fun i wr => ∃ k : Nat, k ≤ m ∧ i = .int .i64 (k : Int) ∧ ∃ vC, Hid (DA w w.heap.size S B l p c r q cp vL vC vL vC (rdL l n) (rdC l (P + 4) k) wr)) (fun i _ => m - (RowKit.intOf i).toNat)
    case atStart => exact ⟨0, Nat.zero_le _, rfl, _, H6⟩
    case round =>
      obtain ⟨k, hk, rfl, vC, HK⟩ := hrel
      clear H6
      by_cases hlt : k < m
      · obtain ⟨Q, hQ⟩ : ∃ Q : Nat, Q = P + 4 + k * 14 := ⟨_, rfl⟩
        obtain ⟨X, hX⟩ : ∃ X : Int, X = ((8 * 2 ^ fd l (Q + 3 + 9) 2 : Nat) : Int) := ⟨_, rfl⟩
        have HX := Lib.hid hX
        have HSU : Hid (rdC l (P + 4) (k + 1) = rdC l (P + 4) k ++ [⟨((fd l Q 3 : Nat) : Int), ((fd l (Q + 3) 9 : Nat) : Int), X⟩]) := Lib.hid (by rw [rdC_succ, hX, hQ])
        have hQi : (P : Int) + 4 + 14 * (k : Int) = (Q : Int) := by omega
        have hQb : Q + 14 ≤ 8 * l.length := by have := HBB.out.1; omega
        have hQ3 : Q ≤ 2000 := by omega
        have hw3 : IntKind.i64.wrap ((Q : Int) + 3) = (Q : Int) + 3 := by rw [IntKind.wrap_i64]; omega
        have hw12 : IntKind.i64.wrap ((Q : Int) + 12) = (Q : Int) + 12 := by rw [IntKind.wrap_i64]; omega
        have HGa : Hid (∀ wz, DS w w.heap.size S l p c wz → Calls Tryd.prog 55 #[.agg #[.slice p l.length c, .int .i64 (8 * (l.length : Int))], .int .i64 ((Q : Int)), .int .i64 3] wz fun e w' => e = .returned (.int .i64 ((fd l (Q) 3 : Nat) : Int)) ∧ wz.grownBy w' none) := Lib.hid (fun wz h => h.getf hl h1k ((Q : Int)) 3 (Q) 3 (by omega) rfl (by decide) (by omega))
        have HGb : Hid (∀ wz, DS w w.heap.size S l p c wz → Calls Tryd.prog 55 #[.agg #[.slice p l.length c, .int .i64 (8 * (l.length : Int))], .int .i64 ((Q : Int) + 3), .int .i64 9] wz fun e w' => e = .returned (.int .i64 ((fd l (Q + 3) 9 : Nat) : Int)) ∧ wz.grownBy w' none) := Lib.hid (fun wz h => h.getf hl h1k ((Q : Int) + 3) 9 (Q + 3) 9 (by omega) rfl (by decide) (by omega))
        have HGc : Hid (∀ wz, DS w w.heap.size S l p c wz → Calls Tryd.prog 55 #[.agg #[.slice p l.length c, .int .i64 (8 * (l.length : Int))], .int .i64 ((Q : Int) + 12), .int .i64 2] wz fun e w' => e = .returned (.int .i64 ((fd l (Q + 3 + 9) 2 : Nat) : Int)) ∧ wz.grownBy w' none) := Lib.hid (fun wz h => h.getf hl h1k ((Q : Int) + 12) 2 (Q + 3 + 9) 2 (by omega) rfl (by decide) (by omega))
        clear hQ hX
        go_upto_region 23 with fail
        have HD := Lib.hid (HK.out.keep (grown_drew (grown_refl wr none)))
        clear HK hQi
        refine region_until (S := fun w' => Hid (DA w w.heap.size S B l p c r q cp vL vC vL vC (rdL l n) (rdC l (P + 4) k) w')) (fun j => j == 16 || j == 17 || j == 18) (by kernel_rfl) (HD) (fun hHeld => ?_)
        refine anyU_take (i := 0) (oi := { dst := some 100, op := Op.fieldAddr 26 (Operand.tmp 9) 4, type := 0, pos := "ref.go:120", after := #[], guard := none }) (v := ?_) rfl (by kernel_rfl) (by kernel_rfl) (by kernel_rfl) (by kernel_rfl) (by kernel_rfl) (fun _ _ _ h => h) (Or.inl ⟨by rfl, ?_⟩) hHeld ?_
        rotate_left 1
        · intro u hSu
          have q0 := (cell_of_row _ _ 4 _ _ _ hSu.out.g.ab)
          obtain ⟨s0, s1⟩ := row_cells hSu.out.d.sb
          go_simp
          first | done | with_reducible rfl
        (try simp only [Act.put, List.setIfInBounds_toArray, List.set_cons_zero, List.set_cons_succ])
        refine anyU_take (i := 1) (oi := { dst := some 101, op := Op.load 24 (Operand.tmp 100), type := 24, pos := "ref.go:120", after := #[{ on := 0, ground := Ground.data }], guard := none }) (v := ?_) rfl (by kernel_rfl) (by kernel_rfl) (by kernel_rfl) (by kernel_rfl) (by kernel_rfl) (fun _ _ _ h => h) (Or.inl ⟨by rfl, ?_⟩) hHeld ?_
        rotate_left 1
        · intro u hSu
          have q0 := (cell_of_row _ _ 4 _ _ _ hSu.out.g.ab)
          obtain ⟨s0, s1⟩ := row_cells hSu.out.d.sb
          go_simp
          first | done | with_reducible rfl
        (try simp only [Act.put, List.setIfInBounds_toArray, List.set_cons_zero, List.set_cons_succ])
        refine anyU_take (i := 2) (oi := { dst := some 102, op := Op.load 47 (Operand.tmp 5), type := 47, pos := "ref.go:120", after := #[], guard := none }) (v := ?_) rfl (by kernel_rfl) (by kernel_rfl) (by kernel_rfl) (by kernel_rfl) (by kernel_rfl) (fun _ _ _ h => h) (Or.inl ⟨by rfl, ?_⟩) hHeld ?_
        rotate_left 1
        · intro u hSu
          have q0 := (cell_of_row _ _ 4 _ _ _ hSu.out.g.ab)
          obtain ⟨s0, s1⟩ := row_cells hSu.out.d.sb
          go_simp
          first | done | with_reducible rfl
        (try simp only [Act.put, List.setIfInBounds_toArray, List.set_cons_zero, List.set_cons_succ])
        refine anyU_take (i := 3) (oi := { dst := some 103, op := Op.move (Operand.tmp 13), type := 3, pos := "ref.go:120", after := #[], guard := none }) (v := ?_) rfl (by kernel_rfl) (by kernel_rfl) (by kernel_rfl) (by kernel_rfl) (by kernel_rfl) (fun _ _ _ h => h) (Or.inl ⟨by rfl, ?_⟩) hHeld ?_
        rotate_left 1
        · intro u hSu
          have q0 := (cell_of_row _ _ 4 _ _ _ hSu.out.g.ab)
          obtain ⟨s0, s1⟩ := row_cells hSu.out.d.sb
          go_simp
          first | done | with_reducible rfl
        (try simp only [Act.put, List.setIfInBounds_toArray, List.set_cons_zero, List.set_cons_succ])
        refine anyU_take (i := 5) (oi := { dst := some 105, op := Op.load 47 (Operand.tmp 5), type := 47, pos := "ref.go:120", after := #[], guard := none }) (v := ?_) rfl (by kernel_rfl) (by kernel_rfl) (by kernel_rfl) (by kernel_rfl) (by kernel_rfl) (fun _ _ _ h => h) (Or.inl ⟨by rfl, ?_⟩) hHeld ?_
        rotate_left 1
        · intro u hSu
          have q0 := (cell_of_row _ _ 4 _ _ _ hSu.out.g.ab)
          obtain ⟨s0, s1⟩ := row_cells hSu.out.d.sb
          go_simp
          first | done | with_reducible rfl
        (try simp only [Act.put, List.setIfInBounds_toArray, List.set_cons_zero, List.set_cons_succ])
        refine anyU_take (i := 6) (oi := { dst := some 106, op := Op.move (Operand.tmp 13), type := 3, pos := "ref.go:120", after := #[], guard := none }) (v := ?_) rfl (by kernel_rfl) (by kernel_rfl) (by kernel_rfl) (by kernel_rfl) (by kernel_rfl) (fun _ _ _ h => h) (Or.inl ⟨by rfl, ?_⟩) hHeld ?_
        rotate_left 1
        · intro u hSu
          have q0 := (cell_of_row _ _ 4 _ _ _ hSu.out.g.ab)
          obtain ⟨s0, s1⟩ := row_cells hSu.out.d.sb
          go_simp
          first | done | with_reducible rfl
        (try simp only [Act.put, List.setIfInBounds_toArray, List.set_cons_zero, List.set_cons_succ])
        refine anyU_take (i := 7) (oi := { dst := some 107, op := Op.binOp BinOp.add 3 (Operand.tmp 106) (Operand.const (Value.int IntKind.i64 3)) 3, type := 3, pos := "ref.go:120", after := #[{ on := 6, ground := Ground.data }], guard := none }) (v := ?_) rfl (by kernel_rfl) (by kernel_rfl) (by kernel_rfl) (by kernel_rfl) (by kernel_rfl) (fun _ _ _ h => h) (Or.inl ⟨by rfl, ?_⟩) hHeld ?_
        rotate_left 1
        · intro u hSu
          have q0 := (cell_of_row _ _ 4 _ _ _ hSu.out.g.ab)
          obtain ⟨s0, s1⟩ := row_cells hSu.out.d.sb
          go_simp
          first | done | with_reducible rfl
        (try simp only [Act.put, List.setIfInBounds_toArray, List.set_cons_zero, List.set_cons_succ])
        refine anyU_take (i := 9) (oi := { dst := some 109, op := Op.load 47 (Operand.tmp 5), type := 47, pos := "ref.go:120", after := #[], guard := none }) (v := ?_) rfl (by kernel_rfl) (by kernel_rfl) (by kernel_rfl) (by kernel_rfl) (by kernel_rfl) (fun _ _ _ h => h) (Or.inl ⟨by rfl, ?_⟩) hHeld ?_
        rotate_left 1
        · intro u hSu
          have q0 := (cell_of_row _ _ 4 _ _ _ hSu.out.g.ab)
          obtain ⟨s0, s1⟩ := row_cells hSu.out.d.sb
          go_simp
          first | done | with_reducible rfl
        (try simp only [Act.put, List.setIfInBounds_toArray, List.set_cons_zero, List.set_cons_succ])
        refine anyU_take (i := 10) (oi := { dst := some 110, op := Op.move (Operand.tmp 13), type := 3, pos := "ref.go:120", after := #[], guard := none }) (v := ?_) rfl (by kernel_rfl) (by kernel_rfl) (by kernel_rfl) (by kernel_rfl) (by kernel_rfl) (fun _ _ _ h => h) (Or.inl ⟨by rfl, ?_⟩) hHeld ?_
        rotate_left 1
        · intro u hSu
          have q0 := (cell_of_row _ _ 4 _ _ _ hSu.out.g.ab)
          obtain ⟨s0, s1⟩ := row_cells hSu.out.d.sb
          go_simp
          first | done | with_reducible rfl
        (try simp only [Act.put, List.setIfInBounds_toArray, List.set_cons_zero, List.set_cons_succ])
        refine anyU_take (i := 11) (oi := { dst := some 111, op := Op.binOp BinOp.add 3 (Operand.tmp 110) (Operand.const (Value.int IntKind.i64 12)) 3, type := 3, pos := "ref.go:120", after := #[{ on := 10, ground := Ground.data }], guard := none }) (v := ?_) rfl (by kernel_rfl) (by kernel_rfl) (by kernel_rfl) (by kernel_rfl) (by kernel_rfl) (fun _ _ _ h => h) (Or.inl ⟨by rfl, ?_⟩) hHeld ?_
        rotate_left 1
        · intro u hSu
          have q0 := (cell_of_row _ _ 4 _ _ _ hSu.out.g.ab)
          obtain ⟨s0, s1⟩ := row_cells hSu.out.d.sb
          go_simp
          first | done | with_reducible rfl
        (try simp only [Act.put, List.setIfInBounds_toArray, List.set_cons_zero, List.set_cons_succ])
        refine anyU_ready (rs := [4]) (by kernel_rfl) (by simp) ?_
        refine EachU.cons (o := { dst := some 104, op := Op.call { callee := Callee.value (Operand.func 55), args := #[Operand.tmp 102, Operand.tmp 103, Operand.const (Value.int IntKind.i64 3)], argTypes := #[47, 3, 3] }, type := 3, pos := "ref.go:120", after := #[{ on := 2, ground := Ground.data }, { on := 3, ground := Ground.data }], guard := none }) rfl (fun Kz hK => ?_) EachU.nil
        go_simp
        go_at_call 55
        with_reducible refine (HGa.out _ hHeld.out.d).mono ?_
        rintro e w5 ⟨rfl, hg⟩
        have hHn := Lib.hid (hHeld.out.keep hg)
        clear hg
        refine hK.out _ _ (fun _ => hHn) (fun hH2 => ?_)
        clear hK Kz hHeld
        have hHeld := hH2 rfl
        clear hH2
        (try simp only [Act.put, List.setIfInBounds_toArray, List.set_cons_zero, List.set_cons_succ])
        refine anyU_ready (rs := [8]) (by kernel_rfl) (by simp) ?_
        refine EachU.cons (o := { dst := some 108, op := Op.call { callee := Callee.value (Operand.func 55), args := #[Operand.tmp 105, Operand.tmp 107, Operand.const (Value.int IntKind.i64 9)], argTypes := #[47, 3, 3] }, type := 3, pos := "ref.go:120", after := #[{ on := 5, ground := Ground.data }, { on := 7, ground := Ground.data }, { on := 4, ground := Ground.chain }], guard := none }) rfl (fun Kz hK => ?_) EachU.nil
        go_simp
        go_at_call 55
        with_reducible refine (HGb.out _ hHeld.out.d).mono ?_
        rintro e w5 ⟨rfl, hg⟩
        have hHn := Lib.hid (hHeld.out.keep hg)
        clear hg
        refine hK.out _ _ (fun _ => hHn) (fun hH2 => ?_)
        clear hK Kz hHeld
        have hHeld := hH2 rfl
        clear hH2
        (try simp only [Act.put, List.setIfInBounds_toArray, List.set_cons_zero, List.set_cons_succ])
        refine anyU_ready (rs := [12]) (by kernel_rfl) (by simp) ?_
        refine EachU.cons (o := { dst := some 112, op := Op.call { callee := Callee.value (Operand.func 55), args := #[Operand.tmp 109, Operand.tmp 111, Operand.const (Value.int IntKind.i64 2)], argTypes := #[47, 3, 3] }, type := 3, pos := "ref.go:120", after := #[{ on := 9, ground := Ground.data }, { on := 11, ground := Ground.data }, { on := 8, ground := Ground.chain }], guard := none }) rfl (fun Kz hK => ?_) EachU.nil
        go_simp
        go_at_call 55
        with_reducible refine (HGc.out _ hHeld.out.d).mono ?_
        rintro e w5 ⟨rfl, hg⟩
        have hHn := Lib.hid (hHeld.out.keep hg)
        clear hg
        refine hK.out _ _ (fun _ => hHn) (fun hH2 => ?_)
        clear hK Kz hHeld
        have hHeld := hH2 rfl
        clear hH2
        (try simp only [Act.put, List.setIfInBounds_toArray, List.set_cons_zero, List.set_cons_succ])
        refine anyU_ready (rs := [13]) (by kernel_rfl) (by simp) ?_
        refine EachU.cons (o := { dst := some 113, op := Op.call { callee := Callee.value (Operand.func 56), args := #[Operand.tmp 112], argTypes := #[3] }, type := 3, pos := "ref.go:120", after := #[{ on := 12, ground := Ground.data }, { on := 12, ground := Ground.chain }], guard := none }) rfl (fun Kz hK => ?_) EachU.nil
        go_simp
        go_at_call 56
        refine (decoded_any (fd l (Q + 3 + 9) 2) (fd_lt _ _ 2) _).mono ?_
        rintro e w5 ⟨rfl, rfl⟩
        rw [← HX.out]
        refine hK.out _ _ (fun _ => hHeld) (fun hH2 => ?_)
        clear hK Kz hHeld
        have hHeld := hH2 rfl
        clear hH2
        (try simp only [Act.put, List.setIfInBounds_toArray, List.set_cons_zero, List.set_cons_succ])
        refine anyU_take (i := 14) (oi := { dst := some 114, op := Op.build 73 #[(0, Operand.tmp 104), (1, Operand.tmp 108), (2, Operand.tmp 113)], type := 73, pos := "ref.go:120", after := #[{ on := 4, ground := Ground.data }, { on := 8, ground := Ground.data }, { on := 13, ground := Ground.data }], guard := none }) (v := ?_) rfl (by kernel_rfl) (by kernel_rfl) (by kernel_rfl) (by kernel_rfl) (by kernel_rfl) (fun _ _ _ h => h) (Or.inl ⟨by rfl, ?_⟩) hHeld ?_
        rotate_left 1
        · intro u hSu
          have q0 := (cell_of_row _ _ 4 _ _ _ hSu.out.g.ab)
          obtain ⟨s0, s1⟩ := row_cells hSu.out.d.sb
          go_simp
          first | done | with_reducible rfl
        (try simp only [Act.put, List.setIfInBounds_toArray, List.set_cons_zero, List.set_cons_succ])
        refine anyU_ready (rs := [15]) (by kernel_rfl) (by simp) ?_
        refine EachU.cons (o := { dst := some 115, op := Op.buildSlice 24 1 #[(0, Operand.tmp 114)], type := 24, pos := "ref.go:120", after := #[{ on := 14, ground := Ground.data }], guard := none }) rfl (fun Kz hK => ?_) EachU.nil
        go_simp
        have hHn := Lib.hid (hHeld.out.keep (World.grownBy_alloc _ (.cells #[.int .i64 ((fd l Q 3 : Nat) : Int), .int .i64 ((fd l (Q + 3) 9 : Nat) : Int), .int .i64 X] 73) none))
        refine hK.out _ _ (fun _ => hHn) (fun hH2 => ?_)
        clear hK Kz hHeld
        have hHeld := hH2 rfl
        clear hH2
        (try simp only [Act.put, List.setIfInBounds_toArray, List.set_cons_zero, List.set_cons_succ])
        refine anyU_ready (rs := [16]) (by kernel_rfl) (by simp) ?_
        refine EachU.cons (o := { dst := some 116, op := Op.call { callee := Callee.builtin Builtin.append, args := #[Operand.tmp 101, Operand.tmp 115], argTypes := #[24, 24] }, type := 24, pos := "ref.go:120", after := #[{ on := 1, ground := Ground.data }, { on := 15, ground := Ground.data }, { on := 13, ground := Ground.chain }], guard := none }) rfl (fun Kz hK => ?_) EachU.nil
        refine (astep_app t3C 3 24 (by decide) (fun _ => rfl) t3_one 73 24 ic _ Tryd.underlying24 hic hc0 hc1 hc2 rfl (by decide) (by rfl) _ _ (by rfl) (B + 1) vC (rdC l (P + 4) k) (by rfl) hHeld.out.g.oC (some ⟨_, 0, none⟩) 1 1 [⟨((fd l Q 3 : Nat) : Int), ((fd l (Q + 3) 9 : Nat) : Int), X⟩] (by rfl) rfl (by simp) (fun _ => True) (rdf_one _ trivial (cells3 _ _ _ _ _) 1) (by omega) (by rw [rdC_len]; simp; omega) (by have := hHeld.out.g.sz; omega) ?_)
        intro p4 c4 w8 hown hg hat
        have HD5 := Lib.hid (hHeld.out.addC (M := rdC l (P + 4) k ++ [⟨((fd l Q 3 : Nat) : Int), ((fd l (Q + 3) 9 : Nat) : Int), X⟩]) hown hg hat)
        rw [← HSU.out] at HD5
        obtain ⟨c90, c91, c92, c93, c94⟩ := HD5.out.g.cells
        have fB := frozen_of_row _ _ 4 _ _ HD5.out.g.ab
        clear hown hg hat
        refine hK.out _ _ (fun h => by cases h) (fun _ => ?_)
        clear hK Kz
        (try simp only [Act.put, List.setIfInBounds_toArray, List.set_cons_zero, List.set_cons_succ])
        refine anyU_ready (rs := [17]) (by kernel_rfl) (by simp) ?_
        refine EachU.cons (o := { dst := some 117, op := Op.fieldAddr 26 (Operand.tmp 9) 4, type := 0, pos := "ref.go:120", after := #[{ on := 0, ground := Ground.phase }, { on := 1, ground := Ground.phase }, { on := 2, ground := Ground.phase }, { on := 3, ground := Ground.phase }, { on := 4, ground := Ground.phase }, { on := 5, ground := Ground.phase }, { on := 6, ground := Ground.phase }, { on := 7, ground := Ground.phase }, { on := 8, ground := Ground.phase }, { on := 9, ground := Ground.phase }, { on := 10, ground := Ground.phase }, { on := 11, ground := Ground.phase }, { on := 12, ground := Ground.phase }, { on := 13, ground := Ground.phase }, { on := 14, ground := Ground.phase }, { on := 15, ground := Ground.phase }, { on := 16, ground := Ground.phase }], guard := none }) rfl (fun Kz hK => ?_) EachU.nil
        go_simp
        refine hK.out _ _ (fun h => by cases h) (fun _ => ?_)
        clear hK Kz
        (try simp only [Act.put, List.setIfInBounds_toArray, List.set_cons_zero, List.set_cons_succ])
        refine anyU_ready (rs := [18]) (by kernel_rfl) (by simp) ?_
        refine EachU.cons (o := { dst := none, op := Op.store 24 (Operand.tmp 117) (Operand.tmp 116), type := 0, pos := "ref.go:120", after := #[{ on := 17, ground := Ground.data }, { on := 16, ground := Ground.data }, { on := 16, ground := Ground.chain }, { on := 0, ground := Ground.phase }, { on := 1, ground := Ground.phase }, { on := 2, ground := Ground.phase }, { on := 3, ground := Ground.phase }, { on := 4, ground := Ground.phase }, { on := 5, ground := Ground.phase }, { on := 6, ground := Ground.phase }, { on := 7, ground := Ground.phase }, { on := 8, ground := Ground.phase }, { on := 9, ground := Ground.phase }, { on := 10, ground := Ground.phase }, { on := 11, ground := Ground.phase }, { on := 12, ground := Ground.phase }, { on := 13, ground := Ground.phase }, { on := 14, ground := Ground.phase }, { on := 15, ground := Ground.phase }, { on := 16, ground := Ground.phase }], guard := none }) rfl (fun Kz hK => ?_) EachU.nil
        go_simp
        refine hK.out _ _ (fun h => by cases h) (fun _ => ?_)
        clear hK Kz
        (try simp only [Act.put, List.setIfInBounds_toArray, List.set_cons_zero, List.set_cons_succ])
        refine anyU_done (by kernel_rfl) ?_ _
        have HNx := Lib.hid HD5.out.putC
        clear HD5 c90 c91 c92 c93 c94 fB
        go_wp2_with fail
        exact ⟨⟨k + 1, by omega, congrArg _ (by omega), _, HNx⟩, by simp only [RowKit.intOf]; omega⟩
      · obtain rfl : k = m := by omega
        go_wp2_with fail
        go_meet
        exact ⟨vC, HK⟩
  case rest =>
  obtain ⟨vC, H7⟩ := hcut
  clear H6
  have hEi : (P : Int) + 4 + 14 * (m : Int) = (E : Int) := by have := HBB.out.1; omega
  have hE8 : E + 16 ≤ 8 * l.length := by omega

  obtain ⟨pL, cL, rfl, -, -⟩ := own_shape H7.out.g.oL
  obtain ⟨pC, cC, rfl, -, -⟩ := own_shape H7.out.g.oC
  obtain ⟨L, hL⟩ : ∃ L, rdL l n = L := ⟨_, rfl⟩
  obtain ⟨C, hC⟩ : ∃ C, rdC l (P + 4) m = C := ⟨_, rfl⟩
  rw [hL, hC] at H7
  obtain ⟨A, hA⟩ : ∃ A : Ad, A = ⟨r, q, cp, L, C, pL, cL, pC, cC⟩ := ⟨_, rfl⟩
  have HOK : Hid (AdOk wc (B < ·) A) := Lib.hid (by rw [hA]; exact H7.out.g.ok rfl rfl)
  have HIS : Hid (AdIs l A) := Lib.hid (by
    rw [hA]
    refine ⟨HHD.out.1.symm, HHD.out.2.1.symm, ?_, ?_, ?_⟩
    · have h := HHD.out.2.2
      show cp = _
      rw [← h]
      rcases (show fd l 27 1 = 0 ∨ fd l 27 1 = 1 by have := fd_lt l 27 1; omega) with e | e <;> rw [e] <;> rfl
    · show L = _
      rw [← hL, HN.out]
    · show C = _
      rw [← hC, HM.out, HP.out])
  have hval : A.val = .agg #[.int .i64 r, .int .i64 q, .bool cp, .slice pL L.length cL, .slice pC C.length cC] := by rw [hA]; rfl
  have HVAL := Lib.hid hval
  have HHV : Hid (vAd (adOf l) = vAd A) := Lib.hid (((adOf_is l).same HIS.out).valid)
  clear hL hC hA hval HHD HO1
  obtain ⟨s0, s1⟩ := row_cells H7.out.d.sb
  go_wp2_with fail
  refine (slice_wholer (A := 0) (T := E) (E : Int) rfl hl (by omega) (by omega) rfl (by omega) H7.out.d.rd).mono ?_
  rintro e w8 ⟨p2, c2, rfl, hR2, hp2, hg⟩
  have hk3 := World.grownBy_alloc w8 (.cells #[.slice p2 (pz (fun i => bt l (0 + i)) E ((E + 7) / 8)).length c2, .int .i64 (E : Int)] 47) none
  have HG0 := Lib.hid (heap_alloc_new w8 (.cells #[.slice p2 (pz (fun i => bt l (0 + i)) E ((E + 7) / 8)).length c2, .int .i64 (E : Int)] 47))
  have g13 := grown_trans hg hk3
  have H8 := Lib.hid (H7.out.keep g13)
  have HOK8 := Lib.hid (HOK.out.keep g13)
  have hCk := check_partr (l := l) (T := E) (t := (E : Int)) rfl (by omega) (by omega) (hR2.keep hk3)
  obtain ⟨L1, hL1⟩ : ∃ L1, (pz (fun i => bt l (0 + i)) E ((E + 7) / 8)).length = L1 := ⟨_, rfl⟩
  rw [hL1] at hCk HG0 H8 HOK8 ⊢
  have HCk := Lib.hid hCk
  clear hL1 hCk hR2 hp2 hg hk3 g13 H7 HOK s0 s1
  go_upto_region 26 with fail
  generalize w8.alloc _ = w9 at *
  generalize w8.heap.size = G at *
  obtain ⟨s2, s3⟩ := row_cells HG0.out
  go_wp2_with fail
  refine HCk.out.mono ?_
  rintro e w10 ⟨rfl, hg⟩
  have H9 := Lib.hid (H8.out.keep hg)
  have HOK9 := Lib.hid (HOK8.out.keep hg)
  clear hg H8 HOK8 HG0 HCk s2 s3
  obtain ⟨y, hy⟩ : ∃ y, Bs.crcB (bt l) E = y := ⟨_, rfl⟩
  rw [hy]
  have hy16 : y < 65536 := by rw [← hy]; exact Bs.chk_lt _ _
  have HY := Lib.hid hy
  clear hy
  obtain ⟨s0, s1⟩ := row_cells H9.out.d.sb
  go_wp2_with fail
  refine (H9.out.d.getf hl h1k (E : Int) 16 E 16 rfl rfl (by decide) (by omega)).mono ?_
  rintro e w11 ⟨rfl, hg⟩
  rw [HX0.out]
  have H10 := Lib.hid (H9.out.keep hg)
  have HOK10 := Lib.hid (HOK9.out.keep hg)
  clear hg H9 HOK9 s0 s1
  have hxF : num (bt l) E 16 = x := by
    have h := HX0.out
    unfold fd at h
    rwa [if_neg (by omega)] at h
  have HDE : Hid (∀ v, decEh l rs v = if x ≠ y then 23 else if num (bt l) (E + 16) ((8 - (E + 16) % 8) % 8) ≠ 0 then 24 else if (E + 16 + 7) / 8 < l.length + rs then 21 else if v = false then 1 else 0) := Lib.hid (fun v => by
    unfold decEh
    rw [HEE.out, if_neg (by omega), hxF, HY.out])
  clear hxF
  have HD10 := Lib.hid H10.out.d
  by_cases hxy : x = y
  · subst hxy
    go_upto_region 30 with fail
    obtain ⟨Wh, hWh⟩ : ∃ Wh : Nat, Wh = (E + 16 + 7) / 8 := ⟨_, rfl⟩
    obtain ⟨K, hK⟩ : ∃ K : Nat, (8 - (E + 16) % 8) % 8 = K := ⟨_, rfl⟩
    rw [show ((E : Int) + 16 + 7) / 8 = (Wh : Int) by omega]
    have hKi : 8 * (Wh : Int) - (E : Int) - 16 = (K : Int) := by omega
    have hK7 : K ≤ 7 := by omega
    have hKl : E + 16 + K ≤ 8 * l.length := by omega
    have hWb : Wh ≤ 4000 := by omega
    have HDE2 : Hid (∀ v, decEh l rs v = if num (bt l) (E + 16) K ≠ 0 then 24 else if Wh < l.length + rs then 21 else if v = false then 1 else 0) := Lib.hid (fun v => by rw [HDE.out, if_neg (by simp), hK, hWh])
    clear hWh hK HDE
    obtain ⟨s0, s1⟩ := row_cells H10.out.d.sb
    go_wp2_with fail
    refine (H10.out.d.getf hl h1k ((E : Int) + 16) (K : Int) (E + 16) K (by omega) rfl (by omega) (by omega)).mono ?_
    rintro e w12 ⟨rfl, hg⟩
    have H12 := Lib.hid (H10.out.keep hg)
    have HOK12 := Lib.hid (HOK10.out.keep hg)
    have HD12 := Lib.hid H12.out.d
    obtain ⟨z, hz⟩ : ∃ z, fd l (E + 16) K = z := ⟨_, rfl⟩
    have hz16 : z < 128 := by rw [← hz]; exact fd_le _ _ _ _ (Nat.pow_le_pow_right (n := 2) (by decide) hK7)
    rw [hz]
    have hzF : num (bt l) (E + 16) K = z := by
      unfold fd at hz
      rwa [if_neg (by omega)] at hz
    have HDE3 : Hid (∀ v, decEh l rs v = if z ≠ 0 then 24 else if Wh < l.length + rs then 21 else if v = false then 1 else 0) := Lib.hid (fun v => by rw [HDE2.out, hzF])
    clear hz hzF HDE2 hg H10 HOK10 HD10 s0 s1
    by_cases hz0 : z = 0
    · subst hz0
      have hrb : rs ≤ 1024 := HRB.out
      by_cases hlen : Wh < l.length + rs
      · have hlen' : (Wh : Int) < (l.length : Int) + (rs : Int) := by omega
        have HE : Hid (decEh l rs (vAd (adOf l)) = 21) := Lib.hid (by rw [HDE3.out, if_neg (by simp), if_pos hlen])
        clear hlen HDE3
        obtain ⟨d0, d1, d2, d3, d4⟩ := row5 HD12.out.zb
        have f0 := frozen_of_row _ _ 0 _ _ HD12.out.zb
        have f1 := frozen_of_row _ _ 1 _ _ HD12.out.zb
        have f2 := frozen_of_row _ _ 2 _ _ HD12.out.zb
        have f3 := frozen_of_row _ _ 3 _ _ HD12.out.zb
        have f4 := frozen_of_row _ _ 4 _ _ HD12.out.zb
        obtain ⟨t1, t2⟩ := store5 (.int .i64 0) (.int .i64 0) (.bool false) (.slice none 0 0) (.slice none 0 0) HD12.out.zb
        have HT := Lib.hid (And.intro t1 (grown_new HD12.out.gr t2 (Nat.le_refl _)))
        clear t1 t2
        go_wp2_with fail
        refine bodyPost_ret (res_adv_err rfl _ _ w.heap.size _ _ _ _ _ rfl HT.out.1) rfl ?_
        exact ⟨HT.out.2, .inr ⟨by rw [HE.out]; decide, by rw [HE.out]; rfl⟩⟩
      · have hlen' : (l.length : Int) + (rs : Int) ≤ (Wh : Int) := by omega
        have HDE4 : Hid (∀ v, decEh l rs v = if v = false then 1 else 0) := Lib.hid (fun v => by rw [HDE3.out, if_neg (by simp), if_neg hlen])
        clear hlen HDE3
        obtain ⟨e0, e1, e2, e3, e4⟩ := row5 H12.out.g.ab
        go_wp2_with fail
        have hVa := rvalidA_any A _ w12 HOK12.out
        rw [HVAL.out] at hVa
        refine hVa.mono ?_
        rintro e w13 ⟨rfl, hg⟩
        have H13 := Lib.hid (H12.out.keep hg)
        have HOK13 := Lib.hid (HOK12.out.keep hg)
        have HD13 := Lib.hid H13.out.d
        clear hg hVa H12 HOK12 HD12 e0 e1 e2 e3 e4
        cases hv : vAd A with
        | false =>
          have HE : Hid (decEh l rs (vAd (adOf l)) = 1) := Lib.hid (by rw [HDE4.out, HHV.out, hv, if_pos rfl])
          clear hv HDE4
          obtain ⟨d0, d1, d2, d3, d4⟩ := row5 HD13.out.zb
          have f0 := frozen_of_row _ _ 0 _ _ HD13.out.zb
          have f1 := frozen_of_row _ _ 1 _ _ HD13.out.zb
          have f2 := frozen_of_row _ _ 2 _ _ HD13.out.zb
          have f3 := frozen_of_row _ _ 3 _ _ HD13.out.zb
          have f4 := frozen_of_row _ _ 4 _ _ HD13.out.zb
          obtain ⟨t1, t2⟩ := store5 (.int .i64 0) (.int .i64 0) (.bool false) (.slice none 0 0) (.slice none 0 0) HD13.out.zb
          have HT := Lib.hid (And.intro t1 (grown_new HD13.out.gr t2 (Nat.le_refl _)))
          clear t1 t2
          go_wp2_with fail
          refine bodyPost_ret (res_adv_err rfl _ _ w.heap.size _ _ _ _ _ rfl HT.out.1) rfl ?_
          exact ⟨HT.out.2, .inr ⟨by rw [HE.out]; decide, by rw [HE.out]; rfl⟩⟩
        | true =>
          have HE : Hid (decEh l rs (vAd (adOf l)) = 0) := Lib.hid (by rw [HDE4.out, HHV.out, hv, if_neg (by decide)])
          clear hv HDE4
          obtain ⟨e0, e1, e2, e3, e4⟩ := row5 H13.out.g.ab
          obtain ⟨d0, d1, d2, d3, d4⟩ := row5 HD13.out.zb
          have f0 := frozen_of_row _ _ 0 _ _ HD13.out.zb
          have f1 := frozen_of_row _ _ 1 _ _ HD13.out.zb
          have f2 := frozen_of_row _ _ 2 _ _ HD13.out.zb
          have f3 := frozen_of_row _ _ 3 _ _ HD13.out.zb
          have f4 := frozen_of_row _ _ 4 _ _ HD13.out.zb
          have hlo := H13.out.g.lo
          obtain ⟨t1, t2⟩ := store5 (.int .i64 r) (.int .i64 q) (.bool cp) (.slice pL L.length cL) (.slice pC C.length cC) HD13.out.zb
          have HT := Lib.hid (And.intro t1 (And.intro (grown_new HD13.out.gr t2 (Nat.le_refl _)) (HOK13.out.grown t2 (fun b hb e => by have := Option.some.inj e; omega))))
          clear t1 t2
          go_wp2_with fail
          refine bodyPost_ret (res_adv_err rfl _ _ w.heap.size _ _ _ _ _ rfl HT.out.1) rfl ?_
          exact ⟨HT.out.2.1, .inl ⟨HE.out, A, HIS.out, HT.out.2.2.mono (fun b hb => by omega), by rw [HVAL.out]; rfl⟩⟩
    · have hz0' : ((z : Int) == 0) = false := by simp [hz0]
      have hz1' : ((z : Int) != 0) = true := by simp [hz0]
      have HE : Hid (decEh l rs (vAd (adOf l)) = 24) := Lib.hid (by rw [HDE3.out, if_pos hz0])
      obtain ⟨d0, d1, d2, d3, d4⟩ := row5 HD12.out.zb
      have f0 := frozen_of_row _ _ 0 _ _ HD12.out.zb
      have f1 := frozen_of_row _ _ 1 _ _ HD12.out.zb
      have f2 := frozen_of_row _ _ 2 _ _ HD12.out.zb
      have f3 := frozen_of_row _ _ 3 _ _ HD12.out.zb
      have f4 := frozen_of_row _ _ 4 _ _ HD12.out.zb
      obtain ⟨t1, t2⟩ := store5 (.int .i64 0) (.int .i64 0) (.bool false) (.slice none 0 0) (.slice none 0 0) HD12.out.zb
      have HT := Lib.hid (And.intro t1 (grown_new HD12.out.gr t2 (Nat.le_refl _)))
      clear t1 t2
      go_wp2_with fail
      refine bodyPost_ret (res_adv_err rfl _ _ w.heap.size _ _ _ _ _ rfl HT.out.1) rfl ?_
      exact ⟨HT.out.2, .inr ⟨by rw [HE.out]; decide, by rw [HE.out]; rfl⟩⟩
  · have hxy' : ((x : Int) == (y : Int)) = false := by simp; omega
    have hxy1 : ((x : Int) != (y : Int)) = true := by simp; omega
    have hxy2 : ¬ (x : Int) = (y : Int) := by omega
    have HE : Hid (decEh l rs (vAd (adOf l)) = 23) := Lib.hid (by rw [HDE.out, if_pos hxy])
    obtain ⟨d0, d1, d2, d3, d4⟩ := row5 HD10.out.zb
    have f0 := frozen_of_row _ _ 0 _ _ HD10.out.zb
    have f1 := frozen_of_row _ _ 1 _ _ HD10.out.zb
    have f2 := frozen_of_row _ _ 2 _ _ HD10.out.zb
    have f3 := frozen_of_row _ _ 3 _ _ HD10.out.zb
    have f4 := frozen_of_row _ _ 4 _ _ HD10.out.zb
    obtain ⟨t1, t2⟩ := store5 (.int .i64 0) (.int .i64 0) (.bool false) (.slice none 0 0) (.slice none 0 0) HD10.out.zb
    have HT := Lib.hid (And.intro t1 (grown_new HD10.out.gr t2 (Nat.le_refl _)))
    clear t1 t2
    go_wp2_with fail
    refine bodyPost_ret (res_adv_err rfl _ _ w.heap.size _ _ _ _ _ rfl HT.out.1) rfl ?_
    exact ⟨HT.out.2, .inr ⟨by rw [HE.out]; decide, by rw [HE.out]; rfl⟩⟩
end Go.Proofs.YtpoocenooomghaaDoor

/- Parts of the proof, packed: PkAwake, IoRows, StAwake, StEncR, PkText, Ref, Draw, PkTape. -/
import Derived.Test.YtpombmpkccnefaaDoorSl7
import Derived.Test.YtpombmpkccnefaaDoorSl8
import Derived.Test.YtpombmpkccnefaaDoorSl9
import Derived.Test.YtpombmpkccnefaaDoorSl2
import Derived.Test.YtpombmpkccnefaaDoorSl3
import Derived.Test.YtpombmpkccnefaaDoorSl10
import Derived.Test.YtpombmpkccnefaaDoorSl6
import Derived.Test.YtpombmpkccnefaaDoorSl5
import Derived.Test.YtpombmpkccnefaaDoorSl1
/- packet: the chapter's example. -/
namespace Go.Proofs.YtpombmpkccnefaaDoor
open Go.RowKit Bs
/-- The example's packet. -/
def exP : Pk := ⟨1, 0, 0, 8, 0, 0, 0, 0, 0, ⟨#[]⟩⟩
set_option maxRecDepth 100000 in
theorem ex_valid : vpk exP = true := by decide +kernel
set_option maxRecDepth 100000 in
theorem ex_enc : enc exP = [144, 0, 0, 0, 0, 0, 0, 109, 76, 0] := by decide +kernel
set_option maxRecDepth 100000 in
theorem ex_size : sizeV exP = 10 := by decide +kernel
set_option maxRecDepth 100000 in
theorem ex_wf : exP.Wf := ⟨by unfold I64; decide, by unfold I64; decide, by unfold I64; decide, by unfold I64; decide, by unfold I64; decide, by unfold I64; decide, by unfold I64; decide, by unfold I64; decide, by unfold U64; decide, by decide⟩
set_option maxRecDepth 100000 in
theorem ex_dec : decV [144, 0, 0, 0, 0, 0, 0, 109, 76, 0] = (#[.int .i64 1, .int .i64 0, .int .i64 0, .int .i64 8, .int .i64 0, .int .i64 0, .int .i64 0, .int .i64 0, .int .u64 0, .string ⟨#[]⟩], 0) := by kernel_rfl
set_option maxRecDepth 100000 in
set_option maxHeartbeats 3200000 in
theorem awake_any (w : World) (hT : Tb w) :
    Calls Tryd.prog 17 #[] w fun e w' => e = .returned (.bool true) ∧ w.grownBy w' none := by
  go_enter Tryd.func17, Tryd.ntmps17
  go_wp2_with fail
  obtain ⟨k1, k2⟩ := one_box w #[.int .i64 1, .int .i64 0, .int .i64 0, .int .i64 8, .int .i64 0, .int .i64 0, .int .i64 0, .int .i64 0, .int .u64 0, .string ⟨#[]⟩] 31
  have HP := Lib.hid (And.intro k1 k2)
  have HT := Lib.hid (hT.keep k2)
  clear k1 k2
  generalize w.alloc _ = wa at *
  refine (pencode_any exP ex_wf wa HT.out).mono ?_
  rintro e w2 (⟨_, g, rfl, hB, hge, hg⟩ | ⟨h, _⟩)
  · rw [ex_enc] at hB ⊢
    have HQ := Lib.hid (And.intro (kept_row HP.out.1 hg (by simp)) (grown_trans HP.out.2 hg))
    have HB := Lib.hid hB
    clear hB hge hg HP
    go_wp2_with fail
    refine (pdecode_any [144, 0, 0, 0, 0, 0, 0, 109, 76, 0] (by intro x hx; simp at hx; omega) (some ⟨g, 0, none⟩) 10 (Nat.le_refl _) (fun _ => True) w2 (HB.out.rd _ trivial _)).mono ?_
    rintro e w3 ⟨rfl, hg⟩
    rw [ex_dec]
    have hgb := World.grownBy_alloc w3 (.cells #[.int .i64 1, .int .i64 0, .int .i64 0, .int .i64 8, .int .i64 0, .int .i64 0, .int .i64 0, .int .i64 0, .int .u64 0, .string ⟨#[]⟩] 31) none
    have HQ3 := Lib.hid (And.intro (kept_row HQ.out.1 (grown_trans hg hgb) (by simp)) (grown_trans HQ.out.2 (grown_trans hg hgb)))
    have hB3 := (HB.out.keep hg).keep hgb
    have b0 : (w3.alloc (.cells #[.int .i64 1, .int .i64 0, .int .i64 0, .int .i64 8, .int .i64 0, .int .i64 0, .int .i64 0, .int .i64 0, .int .u64 0, .string ⟨#[]⟩] 31)).cell? ⟨g, 0, none⟩ = some (.int .u8 144) := hB3.cell (j := 0) (by decide)
    have a0 : (w3.alloc (.cells #[.int .i64 1, .int .i64 0, .int .i64 0, .int .i64 8, .int .i64 0, .int .i64 0, .int .i64 0, .int .i64 0, .int .u64 0, .string ⟨#[]⟩] 31)).cell? ⟨w.heap.size, 0, none⟩ = some (.int .i64 1) := cell_of_row _ _ _ _ _ _ HQ3.out.1
    have a1 : (w3.alloc (.cells #[.int .i64 1, .int .i64 0, .int .i64 0, .int .i64 8, .int .i64 0, .int .i64 0, .int .i64 0, .int .i64 0, .int .u64 0, .string ⟨#[]⟩] 31)).cell? ⟨w.heap.size, 1, none⟩ = some (.int .i64 0) := cell_of_row _ _ _ _ _ _ HQ3.out.1
    have a2 : (w3.alloc (.cells #[.int .i64 1, .int .i64 0, .int .i64 0, .int .i64 8, .int .i64 0, .int .i64 0, .int .i64 0, .int .i64 0, .int .u64 0, .string ⟨#[]⟩] 31)).cell? ⟨w.heap.size, 2, none⟩ = some (.int .i64 0) := cell_of_row _ _ _ _ _ _ HQ3.out.1
    have a3 : (w3.alloc (.cells #[.int .i64 1, .int .i64 0, .int .i64 0, .int .i64 8, .int .i64 0, .int .i64 0, .int .i64 0, .int .i64 0, .int .u64 0, .string ⟨#[]⟩] 31)).cell? ⟨w.heap.size, 3, none⟩ = some (.int .i64 8) := cell_of_row _ _ _ _ _ _ HQ3.out.1
    have a4 : (w3.alloc (.cells #[.int .i64 1, .int .i64 0, .int .i64 0, .int .i64 8, .int .i64 0, .int .i64 0, .int .i64 0, .int .i64 0, .int .u64 0, .string ⟨#[]⟩] 31)).cell? ⟨w.heap.size, 4, none⟩ = some (.int .i64 0) := cell_of_row _ _ _ _ _ _ HQ3.out.1
    have a5 : (w3.alloc (.cells #[.int .i64 1, .int .i64 0, .int .i64 0, .int .i64 8, .int .i64 0, .int .i64 0, .int .i64 0, .int .i64 0, .int .u64 0, .string ⟨#[]⟩] 31)).cell? ⟨w.heap.size, 5, none⟩ = some (.int .i64 0) := cell_of_row _ _ _ _ _ _ HQ3.out.1
    have a6 : (w3.alloc (.cells #[.int .i64 1, .int .i64 0, .int .i64 0, .int .i64 8, .int .i64 0, .int .i64 0, .int .i64 0, .int .i64 0, .int .u64 0, .string ⟨#[]⟩] 31)).cell? ⟨w.heap.size, 6, none⟩ = some (.int .i64 0) := cell_of_row _ _ _ _ _ _ HQ3.out.1
    have a7 : (w3.alloc (.cells #[.int .i64 1, .int .i64 0, .int .i64 0, .int .i64 8, .int .i64 0, .int .i64 0, .int .i64 0, .int .i64 0, .int .u64 0, .string ⟨#[]⟩] 31)).cell? ⟨w.heap.size, 7, none⟩ = some (.int .i64 0) := cell_of_row _ _ _ _ _ _ HQ3.out.1
    have a8 : (w3.alloc (.cells #[.int .i64 1, .int .i64 0, .int .i64 0, .int .i64 8, .int .i64 0, .int .i64 0, .int .i64 0, .int .i64 0, .int .u64 0, .string ⟨#[]⟩] 31)).cell? ⟨w.heap.size, 8, none⟩ = some (.int .u64 0) := cell_of_row _ _ _ _ _ _ HQ3.out.1
    have a9 : (w3.alloc (.cells #[.int .i64 1, .int .i64 0, .int .i64 0, .int .i64 8, .int .i64 0, .int .i64 0, .int .i64 0, .int .i64 0, .int .u64 0, .string ⟨#[]⟩] 31)).cell? ⟨w.heap.size, 9, none⟩ = some (.string ⟨#[]⟩) := cell_of_row _ _ _ _ _ _ HQ3.out.1
    clear hg hgb hB3 HQ HB
    go_wp2_with fail
    refine (psize_any exP ex_wf _).mono ?_
    rintro e w5 ⟨rfl, hg⟩
    rw [ex_size]
    have GE := Lib.hid (grown_trans HQ3.out.2 hg)
    clear hg b0 a0 a1 a2 a3 a4 a5 a6 a7 a8 a9
    go_wp2_with fail
    go_ret
    exact ⟨rfl, GE.out⟩
  · rw [ex_valid] at h; cases h
end Go.Proofs.YtpombmpkccnefaaDoor

/- Rows of the call's own that grow apart. -/
namespace Go.Proofs.YtpombmpkccnefaaDoor
open Go.RowKit Bs
def zv (x : Nat) : Value := .int .i64 (x : Int)
set_option maxRecDepth 100000 in
theorem zv_one {l : List Nat} : ∀ u ∈ l.map zv, u.oneCell' = true := by
  intro u hu
  obtain ⟨x, _, rfl⟩ := List.mem_map.1 hu
  rfl
set_option maxRecDepth 100000 in
/-- append of ints that are read, onto a row of the call's own. -/
theorem wpList_append_ints {w : World} {ops : Array Oper} {rest : List Oper} {o : Oper} {a : Act} {Q : Exit → Act → World → Prop} (hgd : o.guard = none) (s x : Operand)
    (ho : o.op = .call { callee := .builtin .append, args := #[s, x], argTypes := #[22, 22] }) (base : Nat) (v : Value) (n : Nat) (l : List Nat) (hs : a.eval s = v) (hown : w.ownsRow base 3 1 v n (l.map zv))
    (p : Option Addr) (k c : Nat) (r : List Nat) (hx : a.eval x = .slice p k c) (hk : k = r.length) (hn0 : p = none → c = 0 ∧ k = 0) (hnews : ∀ ad, p = some ad → ∀ j u, (r.map zv)[j]? = some u → w.cell? (ad.add j) = some u) (h63 : n + r.length ≤ 100000) (hbase : base ≤ w.heap.size)
    (h : ∀ v' w', w'.ownsRow base 3 1 v' (n + r.length) ((l ++ r).map zv) → w.grownBy w' v.ownBlock → wpList Tryd.prog ops Q rest (a.put o.dst v') w') : wpList Tryd.prog ops Q (o :: rest) a w := by
  obtain ⟨i0, hi, hz0, hz1, hz2⟩ := info_parts info_int
  subst hk
  cases p with
  | none =>
    obtain ⟨rfl, hr⟩ := hn0 rfl
    obtain rfl := List.eq_nil_of_length_eq_zero hr
    refine wpList_append_own_none hgd s x 22 ho base 3 i0 1 Tryd.underlying22 hi v n (l.map zv) hs hown hx ?_
    refine h v w ?_ (grown_refl _ _)
    rw [List.append_nil]; exact hown
  | some ad =>
    refine wpList_append_own w hgd s x 22 ho base 3 i0 (.int .i64 0) 1 8 Tryd.underlying22 hi hz0 hz1 hz2 rfl (by decide) v n (l.map zv) hs hown ad r.length c (r.map zv) hx (by simp) (hnews ad rfl) zv_one (by unfold maxLen; omega) (by omega) hbase ?_
    intro v' w' h1 h2 _
    refine h v' w' ?_ h2
    rw [List.map_append]; exact h1
set_option maxRecDepth 100000 in
theorem tp_new2 {w1 w2 : World} {a b : Nat} (h : Tp w1 a) (k : w1.grownBy w2 (some b)) (hb : a < b) : Tp w2 a := by
  have hlt := h.lt
  obtain ⟨v, n, i, T⟩ := h
  have hb' : w2.heap[a]? = w1.heap[a]? := k.block a hlt (by intro e; have := Option.some.inj e; omega)
  refine ⟨v, n, i, (World.cell?_of_block (a := ⟨a, 0, none⟩) hb').trans T.l, (World.cell?_of_block (a := ⟨a, 1, none⟩) hb').trans T.p, (World.frozen?_of_block (a := ⟨a, 1, none⟩) hb').trans T.fr, ?_, T.le, T.len⟩
  obtain ⟨p, c, hv, hc⟩ := T.ints
  refine ⟨p, c, hv, fun hn => ?_⟩
  obtain ⟨g, off, hp, hg, hx⟩ := hc hn
  exact ⟨g, off, hp, hg, fun i hi => by obtain ⟨x, hx, hcell⟩ := hx i hi; exact ⟨x, hx, k.cell hcell (by intro e; have e2 : g = b := Option.some.inj e; omega)⟩⟩
set_option maxRecDepth 100000 in
theorem own_cap {w : World} {base n g cap : Nat} {e : TypeId} {xs : List Value} (h : w.ownsRow base e 1 (.slice (some ⟨g, 0, none⟩) n cap) n xs) : n ≤ cap ∧ cap ≤ maxLen := by
  rcases h.2 with ⟨h0, _⟩ | ⟨g', cap', cur, hv, _, _, hn, hc, _⟩
  · cases h0
  · injection hv with _ _ h3
    subst h3
    exact ⟨hn, hc⟩
set_option maxRecDepth 100000 in
theorem grown_own_row {w w1 : World} {k : Nat} {b : Option Nat} (h : w.grownBy w1 b) (hk : k < w.heap.size) (hb : some k ≠ b) : w1.heap[k]? = w.heap[k]? := h.block k hk hb
set_option maxRecDepth 100000 in
/-- An order is made: the old row g is read, the new one lies behind. -/
theorem own_apart {w w1 : World} {base base2 g n cap : Nat} {e : TypeId} {v : Value} {m : Nat} {e2 : TypeId} {xs ys : List Value} (h : w.ownsRow base e 1 (.slice (some ⟨g, 0, none⟩) n cap) n xs) (hv : w.ownsRow base2 e2 1 v m ys) (hg : g < base2) (k : w.grownBy w1 v.ownBlock) : w1.ownsRow base e 1 (.slice (some ⟨g, 0, none⟩) n cap) n xs :=
  h.kept k (.inr (own_ne hv hg))
set_option maxRecDepth 100000 in
theorem St.own_grow {a base n : Nat} {W w w1 : World} {e : TypeId} {v : Value} {xs : List Value} (h : St a W w) (ho : w.ownsRow base e 1 v n xs) (hb : W.heap.size ≤ base) (ha : a < W.heap.size) (k : w.grownBy w1 v.ownBlock) : St a W w1 := by
  have g : W.grownBy w1 (some a) := ⟨k.os.trans h.1.os, k.tape.trans h.1.tape, k.output.trans h.1.output, Nat.le_trans h.1.size k.size, fun i hi hia => (k.block i (Nat.lt_of_lt_of_le hi h.1.size) (own_ne ho (by omega))).trans (h.1.block i hi hia)⟩
  refine ⟨g, ?_⟩
  cases hv : v.ownBlock with
  | none => rw [hv] at k; exact h.2.keep k
  | some b =>
    rw [hv] at k
    exact tp_new2 h.2 k (by have := (ho.lt b hv).1; omega)
set_option maxRecDepth 100000 in
theorem St.none_ {a : Nat} {W w w1 : World} (h : St a W w) (g : w.grownBy w1 none) : St a W w1 := ⟨grown_trans h.1 (grown_none g _), h.2.keep g⟩
end Go.Proofs.YtpombmpkccnefaaDoor

/- stack: the chapter's example. -/
namespace Go.Proofs.YtpombmpkccnefaaDoor
open Go.RowKit Bs
def exLs : List Lab := [⟨17, 0, 255⟩, ⟨20, 0, 255⟩]
set_option maxRecDepth 100000 in
theorem exE : encE exLs = 0 := by decide
set_option maxRecDepth 100000 in
theorem exB : encB exLs = [0, 1, 16, 255, 0, 1, 65, 255] := by decide
set_option maxRecDepth 100000 in
theorem exF : encF [1, 4] exP = [1, 0, 1, 16, 255, 0, 1, 65, 255, 144, 0, 0, 0, 0, 0, 0, 109, 76, 0] := by
  unfold encF
  rw [if_neg (by decide), ex_enc]
  decide
set_option maxRecDepth 100000 in
theorem exVF : vfr [1, 4] exP = true := by
  unfold vfr
  rw [ex_valid]
  decide
set_option maxRecDepth 100000 in
theorem exDF : decF [1, 0, 1, 16, 255, 0, 1, 65, 255, 144, 0, 0, 0, 0, 0, 0, 109, 76, 0] = ([1, 4], pcells exP, 0) := by
  rw [← exF]
  exact dec_encF ex_wf exVF
set_option maxRecDepth 100000 in
theorem own_room {w : World} {base c : Nat} {p : Option Addr} {l : List Nat} (h : Own w base p c l) : l.length ≤ c ∧ c ≤ 9223372036854775807 := by
  rcases Nat.eq_zero_or_pos l.length with h0 | h0
  · rcases Joins.ownsRow_forms h.own with ⟨e, _⟩ | ⟨g, cap, e⟩
    · injection e with _ _ e3
      subst e3
      omega
    · injection e with e1 e2 e3
      subst e1
      subst e3
      exact own_cap h.own
  · obtain ⟨g, cap, e⟩ := Joins.ownsRow_form h.own h0
    injection e with e1 e2 e3
    subst e1
    subst e3
    exact own_cap h.own
set_option maxRecDepth 100000 in
theorem exBS : bs [0, 1, 16, 255, 0, 1, 65, 255] = ⟨#[0, 1, 16, 255, 0, 1, 65, 255]⟩ := by rfl
set_option maxRecDepth 100000 in
set_option maxHeartbeats 3200000 in
theorem sawake_any (w : World) (hT : Tb w) :
    Calls Tryd.prog 24 #[] w fun e w' => e = .returned (.bool true) ∧ w.grownBy w' none := by
  have HT := Lib.hid hT
  clear hT
  go_enter Tryd.func24, Tryd.ntmps24
  go_wp2_with fail
  obtain ⟨k1, k2⟩ := sone_box w #[.int .i64 17, .int .i64 0, .int .i64 255, .int .i64 20, .int .i64 0, .int .i64 255] 41
  have hrow : Row (w.alloc (.cells #[.int .i64 17, .int .i64 0, .int .i64 255, .int .i64 20, .int .i64 0, .int .i64 255] 41)) w.heap.size 41 (labsC exLs) := k1
  have C : Calls Tryd.prog 27 #[.slice (some ⟨w.heap.size, 0, none⟩) 2 2] (w.alloc (.cells #[.int .i64 17, .int .i64 0, .int .i64 255, .int .i64 20, .int .i64 0, .int .i64 255] 41)) fun e w' => ELPost exLs _ e w' :=
    sencl_any exLs _ 2 _ _ (hrow.rd 2 2)
  refine C.mono ?_
  clear C hrow k1
  rintro e w1 ⟨p1, c1, rfl, hO, hg⟩
  rw [exB] at hO ⊢
  rw [exE]
  have H1 := Lib.hid (And.intro hO (grown_trans k2 hg))
  have HT1 := Lib.hid (HT.out.keep (grown_trans k2 hg))
  clear hO hg k2
  go_wp2_with fail
  obtain ⟨k1, k2, k3, k4⟩ := two_boxes w1 #[.int .i64 1, .int .i64 4] #[.slice (some ⟨w1.heap.size, 0, none⟩) 2 2, .int .i64 1, .int .i64 0, .int .i64 0, .int .i64 8, .int .i64 0, .int .i64 0, .int .i64 0, .int .i64 0, .int .u64 0, .string ⟨#[]⟩] 3 43
  have G2 : Hid (w.grownBy ((w1.alloc (.cells #[.int .i64 1, .int .i64 4] 3)).alloc (.cells #[.slice (some ⟨w1.heap.size, 0, none⟩) 2 2, .int .i64 1, .int .i64 0, .int .i64 0, .int .i64 8, .int .i64 0, .int .i64 0, .int .i64 0, .int .i64 0, .int .u64 0, .string ⟨#[]⟩] 43)) none) := Lib.hid (grown_trans H1.out.2 k3)
  have HK := Lib.hid (And.intro k1 k2)
  have HT2 := Lib.hid (HT1.out.keep k3)
  have HO2 := Lib.hid (H1.out.1.keep k3)
  clear k1 k2 k3 k4 HT1 H1
  generalize (w1.alloc _).alloc _ = w2 at *
  have hrt : Row w2 w1.heap.size 3 (([1, 4] : List Int).map iv) := HK.out.1
  have hRd : Rd w2 (fun _ => True) (.slice (some ⟨w1.heap.size, 0, none⟩) 2 2) (([1, 4] : List Int).map iv) := ⟨_, 2, rfl, fun _ => ⟨w1.heap.size, 0, rfl, trivial, fun i x hi => by rw [Nat.zero_add]; exact hrt.cell hi⟩⟩
  have HRd := Lib.hid hRd
  have C : Calls Tryd.prog 32 #[.agg #[.slice (some ⟨w1.heap.size, 0, none⟩) 2 2, .int .i64 1, .int .i64 0, .int .i64 0, .int .i64 8, .int .i64 0, .int .i64 0, .int .i64 0, .int .i64 0, .int .u64 0, .string ⟨#[]⟩]] w2 fun e w' => EFPost [1, 4] exP w2 e w' :=
    sencf_any [1, 4] exP ex_wf (some ⟨w1.heap.size, 0, none⟩) 2 (by decide) (by omega) _ w2 HT2.out hRd
  clear hrt hRd
  refine C.mono ?_
  clear C
  intro e w3 hE
  rcases hE with ⟨-, p3, c3, rfl, hO3, hg3⟩ | ⟨hbad, _⟩
  case inr => rw [exVF] at hbad; cases hbad
  rw [exF] at hO3 ⊢
  have G3 := Lib.hid (grown_trans G2.out hg3)
  have HB3 := Lib.hid (kept_row HK.out.2 hg3 (by simp))
  have HO4 := Lib.hid (HO2.out.keep hg3)
  have HRd3 := Lib.hid (HRd.out.keep hg3)
  have HO3 := Lib.hid hO3
  clear hO3 hg3 HO2 HRd HK HT2 G2
  go_wp2_with fail
  have D : Calls Tryd.prog 34 #[.slice p3 19 c3] w3 fun e w' => DFPost [1, 0, 1, 16, 255, 0, 1, 65, 255, 144, 0, 0, 0, 0, 0, 0, 109, 76, 0] w3 e w' :=
    sdecf_any _ HO3.out.by_ p3 c3 (own_room HO3.out).1 (own_room HO3.out).2 _ w3 HO3.out.rd
  refine D.mono ?_
  clear D
  rintro e w4 ⟨p4, c4, rfl, hR4, hl4, hm4, hp4, hg4⟩
  rw [exDF] at hR4 hl4 ⊢
  simp only at hR4 hl4 ⊢
  have hag : #[Value.slice p4 ([1, 4] : List Int).length c4] ++ pcells exP = #[.slice p4 2 c4, .int .i64 1, .int .i64 0, .int .i64 0, .int .i64 8, .int .i64 0, .int .i64 0, .int .i64 0, .int .i64 0, .int .u64 0, .string ⟨#[]⟩] := rfl
  rw [hag]
  have G4 := Lib.hid (grown_trans G3.out hg4)
  have HB4 := Lib.hid (kept_row HB3.out hg4 (by simp))
  have HO5 := Lib.hid (HO4.out.keep hg4)
  have HRd4 := Lib.hid (HRd3.out.keep hg4)
  have HR4 := Lib.hid hR4
  clear hR4 hg4 HO4 HRd3 HB3 G3 hag HO3 hl4 hm4 hp4
  go_upto_region 5 with fail
  obtain ⟨k1, k2⟩ := sone_box w4 #[.slice p4 2 c4, .int .i64 1, .int .i64 0, .int .i64 0, .int .i64 8, .int .i64 0, .int .i64 0, .int .i64 0, .int .i64 0, .int .u64 0, .string ⟨#[]⟩] 43
  obtain ⟨a0, a1, a2, a3, a4, a5, a6, a7, a8, a9, a10⟩ := g_facts (n0 := 1) (n1 := 0) (n2 := 0) (n3 := 8) (n4 := 0) (n5 := 0) (n6 := 0) (n7 := 0) (n8 := 0) (s9 := ⟨#[]⟩) (kept_row HB4.out k2 (by simp))
  obtain ⟨b0, b1, b2, b3, b4, b5, b6, b7, b8, b9, b10⟩ := g_facts (n0 := 1) (n1 := 0) (n2 := 0) (n3 := 8) (n4 := 0) (n5 := 0) (n6 := 0) (n7 := 0) (n8 := 0) (s9 := ⟨#[]⟩) k1
  have hO := HO5.out.keep k2
  have E := conv_nv hO.by_ rfl hO.rd hO.pc
  rw [exBS] at E
  have G5 := Lib.hid (grown_trans G4.out k2)
  have HA := Lib.hid (HRd4.out.keep k2)
  have HB := Lib.hid (HR4.out.keep k2)
  clear k1 k2 hO HO5 HB4 HRd4 HR4 G4
  generalize w4.alloc _ = w5 at *
  have E2 : (convert 23 9 (.slice p1 8 c1)).run Tryd.prog w5 = .ok (.string ⟨#[0, 1, 16, 255, 0, 1, 65, 255]⟩) w5 := E
  clear E
  go_wp2_with (go_at_call 35; refine (rsame_any [1, 4] _ _ _ _ _ _ _ _ _ _ _ _ _ _ _ _ w5 HA.out HB.out (by decide)).mono ?_; rintro e w' ⟨rfl, hg⟩; have G := Lib.hid hg; clear hg)
  go_ret
  exact ⟨rfl, grown_trans G5.out G.out⟩
end Go.Proofs.YtpombmpkccnefaaDoor

/- The reference's EncodeLabels. -/
namespace Go.Proofs.YtpombmpkccnefaaDoor
open Go.RowKit Bs
set_option maxRecDepth 100000 in
theorem word_int {l : Lab} (h : vlab l = true) : l.v * 4096 + l.c * 512 + l.h = ((wordL l false : Nat) : Int) ∧ wordL l true = wordL l false + 256 ∧ wordL l true < 4294967296 := by
  have hb := (lab_back h true).1
  rw [vlab_iff] at h
  have e1 : wordL l true = l.v.toNat * 4096 + l.c.toNat * 512 + l.h.toNat + 256 := rfl
  have e0 : wordL l false = l.v.toNat * 4096 + l.c.toNat * 512 + l.h.toNat + 0 := rfl
  omega
set_option maxRecDepth 100000 in
theorem cells4 (w : World) (n : Nat) (hn : n < 4294967296) (t : TypeId) : ∀ j u, ((by4 n).map nv)[j]? = some u → (w.alloc (.cells #[.int .u8 ((n : Int) / 16777216), .int .u8 ((n : Int) / 65536 % 256), .int .u8 ((n : Int) / 256 % 256), .int .u8 ((n : Int) % 256)] t)).cell? ((⟨w.heap.size, 0, none⟩ : Addr).add j) = some u := by
  intro j u hj
  rw [show ((n : Int) / 16777216) = (n : Int) / 16777216 % 256 by omega, by4_cells]
  have hb : (w.alloc (.cells ((by4 n).map nv).toArray t)).heap[w.heap.size]? = some (.cells ((by4 n).map nv).toArray t (0, 0)) := heap_alloc_new w _
  have hadd : (⟨w.heap.size, 0, none⟩ : Addr).add j = ⟨w.heap.size, j, none⟩ := by rw [add_plain, Nat.zero_add]
  rw [hadd, cell_of_row _ _ _ _ _ _ hb]
  simpa using hj
set_option maxRecDepth 100000 in
set_option maxHeartbeats 3200000 in
theorem rencl_any (ls : List Lab) (p : Option Addr) (c : Nat) (hm : ls.length ≤ 9223372036854775807) (q : Nat → Prop) (w : World) (hR : RdL w q (.slice p ls.length c) ls) :
    Calls Tryd.prog 28 #[.slice p ls.length c] w fun e w' => ELPost ls w e w' := by
  have HR := Lib.hid hR
  clear hR
  obtain ⟨i0, hi, hz0, hz1, hz2⟩ := info_parts info_u8
  go_enter Tryd.func28, Tryd.ntmps28
  by_cases hlo : ls.length < 1
  · go_wp2_with fail
    go_ret2
    exact el_err (by unfold encE lenL; rw [if_neg (by simp; omega)]) (by decide) (grown_refl _ _)
  · by_cases hhi : 24 < ls.length
    · go_wp2_with fail
      go_ret2
      exact el_err (by unfold encE lenL; rw [if_neg (by simp; omega)]) (by decide) (grown_refl _ _)
    · have HN : Hid (lenL ls.length = true) := Lib.hid (by unfold lenL; rw [decide_eq_true_eq]; omega)
      go_wp2_with fail
      go_loopw [4, 5] (fun v a wr => ∃ k : Nat, k ≤ ls.length ∧ a = .int .i64 (k : Int) ∧ wr.ownsRow w.heap.size 5 1 v (((partsL ls).take k).flatten).length ((((partsL ls).take k).flatten).map nv) ∧ w.grownBy wr none ∧ ∀ x ∈ ls.take k, vlab x = true) (fun _ a _ => ls.length - (intOf a).toNat)
      case atStart => exact ⟨0, Nat.zero_le _, rfl, World.ownsRow_nil _ _ _ _, grown_refl _ _, fun x hx => by simp at hx⟩
      case round =>
        obtain ⟨k, hk, rfl, hO, hG, hV⟩ := hrel
        have HG := Lib.hid hG
        have HV := Lib.hid hV
        by_cases hlt : k < ls.length
        · obtain ⟨F, hF⟩ : ∃ F, ((partsL ls).take k).flatten = F := ⟨_, rfl⟩
          rw [hF] at hO
          have HO := Lib.hid hO
          have HFF := Lib.hid hF
          obtain ⟨-, b, off, rfl, hq, hc⟩ := (HR.out.keep HG.out).cells (by omega)
          obtain ⟨c0, c1, c2⟩ := hc k hlt
          obtain ⟨l, hl⟩ : ∃ l, ls[k] = l := ⟨_, rfl⟩
          rw [hl] at c0 c1 c2
          have HL : Hid (ls[k]? = some l) := Lib.hid (by rw [← hl]; exact List.getElem?_eq_getElem hlt)
          clear hc hl hO hG hV hF
          go_wp2_with fail
          refine (rlab_any l _).mono ?_
          rintro e w1 ⟨rfl, hg⟩
          have HG1 := Lib.hid (grown_trans HG.out hg)
          have HO1 : Hid (w1.ownsRow w.heap.size 5 1 u4 F.length (F.map nv)) := Lib.hid (HO.out.kept hg (by cases hv : u4.ownBlock <;> simp))
          have d0 := hg.cell c0 (by simp)
          have d1 := hg.cell c1 (by simp)
          have d2 := hg.cell c2 (by simp)
          clear hg c0 c1 c2 HG HO
          cases hv : vlab l
          · go_wp2_with fail
            go_ret2
            exact el_err (by unfold encE; rw [HN.out, all_not HL.out hv]; rfl) (by decide) HG1.out
          · have HVL := Lib.hid hv
            obtain ⟨⟨v0, v1⟩, ⟨v2, v3⟩, v4, v5⟩ := (vlab_iff l).1 hv
            obtain ⟨w0, w1', w2'⟩ := word_int hv
            have HW := Lib.hid (And.intro w0 (And.intro w1' w2'))
            clear hv w0 w1' w2'
            go_wp2_with fail
            go_region
            rw [HW.out.1]
            have HO2 : Hid (w1.drew.ownsRow w.heap.size 5 1 u4 F.length (F.map nv)) := Lib.hid HO1.out.drew
            have HG2 := hid_drew HG1
            have HFL : Hid (F.length ≤ 96) := by
              refine Lib.hid ?_
              have := flat_le (Ls := partsL ls) (k := k)
              rw [HFF.out, partsL_flat, encL_len] at this
              omega
            have hgd : ls.getD k ⟨0, 0, 0⟩ = l := by rw [List.getD_eq_getElem?_getD, HL.out]; rfl
            have hpk := partsL_at hlt
            rw [hgd] at hpk
            have hfn := flat_next hpk
            rw [HFF.out] at hfn
            have HFN := Lib.hid hfn
            clear HO1 HG1 d0 d1 d2 v0 v1 v2 v3 v4 v5 hgd hpk hfn
            generalize w1.drew = w2 at *
            by_cases hz : k + 1 = ls.length
            · have hzz : ((k : Int) == (ls.length : Int) - 1) = true := by rw [beq_iff_eq]; omega
              obtain ⟨n0, hn0⟩ : ∃ n0, wordL l false = n0 := ⟨_, rfl⟩
              have hb32 : n0 < 4294967296 := by have := HW.out.2; omega
              obtain ⟨n, hn⟩ : ∃ n, wordL l true = n := ⟨_, rfl⟩
              have hnn : ((n0 : Nat) : Int) + 256 = ((n : Nat) : Int) := by have := HW.out.2.1; omega
              have hn32 : n < 4294967296 := by have := HW.out.2.2; omega
              have HP : Hid (((partsL ls).take (k + 1)).flatten = F ++ by4 n) := Lib.hid (by rw [HFN.out, decide_eq_true hz, hn])
              rw [hn0]
              clear hn0 hn
              go_upto_region 12 with fail
              try rw [hnn]
              go_wp2_with (at_builtin; refine wpList_append_own _ rfl _ _ 23 rfl w.heap.size 5 i0 (.int .u8 0) 1 1 Tryd.underlying23 hi hz0 hz1 hz2 rfl (by decide) _ _ _ rfl (HO2.out.alloc _) ⟨w2.heap.size, 0, none⟩ 4 4 ((by4 n).map nv) rfl (by rw [List.length_map, by4_len]) ?c1 ?c2 ?c3 ?c4 ?c5 ?_)
              case c1 => exact cells4 _ n hn32 _
              case c2 => exact nv_one
              case c3 => have := HFL.out; unfold maxLen; omega
              case c4 => have := HFL.out; omega
              case c5 => have := HG2.out.size; simp; omega
              intro v' w3 hown hg _
              have HO3 : Hid (w3.ownsRow w.heap.size 5 1 v' (((partsL ls).take (k + 1)).flatten).length ((((partsL ls).take (k + 1)).flatten).map nv)) := Lib.hid (by rw [HP.out, List.length_append, List.map_append, by4_len]; exact hown)
              have HG3 := Lib.hid (own_step HG2.out HO2.out hg)
              clear hown hg HO2 HG2
              go_wp2_with fail
              refine ⟨⟨k + 1, by omega, by go_num, HO3.out, HG3.out, fun x hx => ?_⟩, by simp [intOf]; omega⟩
              rw [List.take_add_one, HL.out] at hx
              rcases List.mem_append.1 hx with hx | hx
              · exact HV.out x hx
              · obtain rfl : x = l := by simpa using hx
                exact HVL.out
            · have hzz : ((k : Int) == (ls.length : Int) - 1) = false := by
                rw [Bool.eq_false_iff, Ne, beq_iff_eq]
                omega
              obtain ⟨n, hn⟩ : ∃ n, wordL l false = n := ⟨_, rfl⟩
              have hn32 : n < 4294967296 := by have := HW.out.2; omega
              have HP : Hid (((partsL ls).take (k + 1)).flatten = F ++ by4 n) := Lib.hid (by rw [HFN.out, decide_eq_false hz, hn])
              rw [hn]
              clear hn
              go_wp2_with (at_builtin; refine wpList_append_own _ rfl _ _ 23 rfl w.heap.size 5 i0 (.int .u8 0) 1 1 Tryd.underlying23 hi hz0 hz1 hz2 rfl (by decide) _ _ _ rfl (HO2.out.alloc _) ⟨w2.heap.size, 0, none⟩ 4 4 ((by4 n).map nv) rfl (by rw [List.length_map, by4_len]) ?c1 ?c2 ?c3 ?c4 ?c5 ?_)
              case c1 => exact cells4 _ n hn32 _
              case c2 => exact nv_one
              case c3 => have := HFL.out; unfold maxLen; omega
              case c4 => have := HFL.out; omega
              case c5 => have := HG2.out.size; simp; omega
              intro v' w3 hown hg _
              have HO3 : Hid (w3.ownsRow w.heap.size 5 1 v' (((partsL ls).take (k + 1)).flatten).length ((((partsL ls).take (k + 1)).flatten).map nv)) := Lib.hid (by rw [HP.out, List.length_append, List.map_append, by4_len]; exact hown)
              have HG3 := Lib.hid (own_step HG2.out HO2.out hg)
              clear hown hg HO2 HG2
              go_wp2_with fail
              refine ⟨⟨k + 1, by omega, by go_num, HO3.out, HG3.out, fun x hx => ?_⟩, by simp [intOf]; omega⟩
              rw [List.take_add_one, HL.out] at hx
              rcases List.mem_append.1 hx with hx | hx
              · exact HV.out x hx
              · obtain rfl : x = l := by simpa using hx
                exact HVL.out
        · obtain rfl : k = ls.length := by omega
          have e : (partsL ls).take ls.length = partsL ls := by rw [← partsL_len ls, List.take_length]
          rw [e, partsL_flat] at hO
          obtain ⟨p2, c2, rfl, hpc⟩ := own_parts hO
          have HO := Lib.hid hO
          have he : encE ls = 0 := by
            unfold encE
            have := HV.out
            rw [List.take_length] at this
            rw [HN.out, List.all_eq_true.2 this]; rfl
          have hb : encB ls = encL ls := by unfold encB; rw [if_pos he]
          have HE := Lib.hid (And.intro he hb)
          clear hO hG hV e he hb
          go_wp2_with fail
          go_ret2
          refine ⟨p2, c2, by rw [HE.out.2, HE.out.1]; rfl, by rw [HE.out.2]; exact ⟨HO.out, hpc, encL_by ls⟩, HG.out⟩
end Go.Proofs.YtpombmpkccnefaaDoor

/- The tape's texts. -/
namespace Go.Proofs.YtpombmpkccnefaaDoor
open Go.RowKit Bs
def bval (x : UInt8) : Value := .int .u8 (x.toNat : Int)
set_option maxRecDepth 100000 in
theorem conv_bytes {w : World} {q : Nat → Prop} {v : Value} {l : List UInt8} (hR : Rd w q v (l.map bval)) (h0 : l = [] → v = .slice none 0 0) :
    (convert 23 9 v).run Tryd.prog w = .ok (.string ⟨l.toArray⟩) w := by
  by_cases hl : l = []
  · rw [h0 hl, hl]
    exact Lib.run_convert_nil_bytes (P := Tryd.prog) w 23 9 5 0 Tryd.underlying23 Tryd.underlying5 Tryd.underlying9
  · obtain ⟨p, c, rfl, hc⟩ := hR
    obtain ⟨b, off, rfl, _, hcell⟩ := hc (by simpa using hl)
    rw [List.length_map]
    refine run_convert_bytes_back (P := Tryd.prog) w 23 9 5 ⟨b, off, none⟩ c l Tryd.underlying23 Tryd.underlying5 Tryd.underlying9 (fun j hj => ?_)
    have hadd : (⟨b, off, none⟩ : Addr).add j = ⟨b, off + j, none⟩ := by unfold Addr.add; split <;> simp_all
    rw [hadd]
    exact hcell j _ (by rw [List.getElem?_map, List.getElem?_eq_getElem hj]; rfl)
/-- A drawn text. -/
def TextRel (a most : Nat) (w : World) (v : Value) (k : Nat) (wr : World) : Prop :=
  ∃ l : List UInt8, l.length + k ≤ most ∧ wr.ownsRow w.heap.size 5 1 v l.length (l.map bval) ∧ (l = [] → v = .slice none 0 0) ∧ St a w wr
set_option maxRecDepth 100000 in
theorem TextRel.open_ {a most k : Nat} {w wr : World} {v : Value} (h : TextRel a most w v k wr) : ∃ l : List UInt8, l.length + k ≤ most ∧ wr.ownsRow w.heap.size 5 1 v l.length (l.map bval) ∧ (l = [] → v = .slice none 0 0) ∧ St a w wr := h
def TextPost (a most : Nat) (w : World) (e : Ending) (w' : World) : Prop := ∃ s : ByteArray, e = .returned (.string s) ∧ s.size ≤ most ∧ St a w w'
set_option maxRecDepth 100000 in
set_option maxHeartbeats 1600000 in
theorem text_any (a : Nat) (most : Nat) (hm : most ≤ 1000) (w : World) (hT : Tp w a) :
    Calls Tryd.prog 52 #[.pointer (some ⟨a, 0, none⟩), .int .i64 (most : Int)] w fun e w' => TextPost a most w e w' := by
  obtain ⟨i0, hi, hz0, hz1, hz2⟩ := info_parts info_u8
  have ha := hT.lt
  go_enter Tryd.func52, Tryd.ntmps52
  go_wp2_with fail
  refine (range_any a 0 (most : Int) (by omega) (by omega) (by omega) (by omega) _ hT).mono ?_
  rintro e w1 ⟨r, rfl, hr, hs1⟩
  obtain ⟨K, rfl⟩ := Int.eq_ofNat_of_zero_le hr.1
  have hK : K ≤ most := by unfold RangeOf at hr; omega
  have L0 : Hid (TextRel a most w (.slice none 0 0) K w1) :=
    Lib.hid ⟨[], by simpa using hK, World.ownsRow_nil _ _ _ _, fun _ => rfl, hs1⟩
  clear hr hs1
  go_wp2_with fail
  go_loopw [5, 6] (fun v i wr => ∃ k : Nat, k ≤ most ∧ i = .int .i64 (k : Int) ∧ TextRel a most w v k wr) (fun _ i _ => (intOf i).toNat)
  case atStart => exact ⟨K, hK, rfl, L0.out⟩
  case round =>
    obtain ⟨k, hk, rfl, hL⟩ := hrel
    obtain ⟨l, hlk, hown0, hnil, hs⟩ := hL.open_
    clear hL L0
    by_cases hk1 : 1 ≤ k
    · clear hnil
      go_wp2_with fail
      refine (next_any a 256 (by unfold I64; omega) _ hs.2).mono ?_
      rintro e w2 ⟨x, rfl, hx, hs2⟩
      obtain ⟨X, rfl⟩ := Int.eq_ofNat_of_zero_le hx.1
      have hX : X < 256 := by have := hx.2.1 (by omega); omega
      have hown := own_kept ha hown0 hs2.1
      have HS := Lib.hid (hs.trans hs2)
      have HO := Lib.hid hown
      have hsz := HS.out.1.size
      have hll : l.length ≤ 1000 := by omega
      have HLK := Lib.hid hlk
      clear hx hs hs2 hown0
      go_wp2_with (at_builtin; refine wpList_append_own _ rfl _ _ 23 rfl w.heap.size 5 i0 (.int .u8 0) 1 1 Tryd.underlying23 hi hz0 hz1 hz2 rfl (by decide) _ _ _ rfl (hown.alloc _) ⟨w2.heap.size, 0, none⟩ 1 1 [.int .u8 (X : Int)] rfl rfl ?c1 ?c2 ?c3 ?c4 ?c5 ?_)
      case c1 => exact cell_one _ _ _
      case c2 => intro u hu; simp at hu; subst hu; rfl
      case c3 => unfold maxLen; omega
      case c4 => omega
      case c5 => simp; omega
      intro v' w3 hown' hg _
      have R : Hid (TextRel a most w v' (k - 1) w3) := by
        have e1 := st_append HS.out ha HO.out hg
        have ex : bval (UInt8.ofNat X) = .int .u8 (X : Int) := by
          show Value.int .u8 (((UInt8.ofNat X).toNat : Nat) : Int) = _
          rw [UInt8.toNat_ofNat', Nat.mod_eq_of_lt hX]
        exact Lib.hid ⟨l ++ [UInt8.ofNat X], by rw [List.length_append]; have := HLK.out; simp; omega, by rw [List.length_append, List.map_append, List.map_cons, List.map_nil, ex]; exact hown', fun e => by simp at e, e1⟩
      clear hown' hg hown
      go_wp2_with fail
      go_roundw
      case rel => exact ⟨k - 1, by omega, by congr 1; omega, R.out⟩
      case measure => simp [intOf]; omega
    · obtain rfl : k = 0 := by omega
      have hconv := conv_bytes (rd_of_own hown0) hnil
      have HS := Lib.hid hs
      have HL := Lib.hid hlk
      clear hown0 hnil hs hlk
      go_wp2_with fail
      go_ret
      exact ⟨_, rfl, by have := HL.out; show l.toArray.size ≤ most; simp; omega, HS.out⟩
end Go.Proofs.YtpombmpkccnefaaDoor

/- The reference's functions on bits: Count, Nth, First, Rank, Spread, Gather. -/
namespace Go.Proofs.YtpombmpkccnefaaDoor
open Go.RowKit Bs

/-- The call returned v and made memory alone. -/
def Nw (v : Value) (w : World) (e : Ending) (w' : World) : Prop := e = .returned v ∧ w.grownBy w' none
set_option maxRecDepth 100000 in
theorem Rd.form {w : World} {q : Nat → Prop} {v : Value} {vs : List Value} {n : Nat} (h : Rd w q v vs) (hn : vs.length = n) : ∃ p c, v = .slice p n c := by
  obtain ⟨p, c, hv, _⟩ := h
  exact ⟨p, c, by rw [hv, hn]⟩
set_option maxRecDepth 100000 in
theorem Rd.at1_ {w : World} {q : Nat → Prop} {p : Option Addr} {n c : Nat} {vs : List Value} {i : Nat} {x : Value} (h : Rd w q (.slice p n c) vs) (hi : vs[i]? = some x) :
    ∃ b off, p = some ⟨b, off, none⟩ ∧ w.cell? ⟨b, off + i, none⟩ = some x := by
  obtain ⟨p', c', hv, hc⟩ := h
  injection hv with e1 e2 e3
  subst e1
  obtain ⟨b, off, hp, _, hx⟩ := hc (by intro e; rw [e] at hi; simp at hi)
  exact ⟨b, off, hp, hx i x hi⟩
set_option maxRecDepth 100000 in
theorem bl_map_len (b : Nat) : ((bl b).map ival).length = cnt b := by rw [List.length_map]; rfl
set_option maxRecDepth 100000 in
theorem bl_map_at {b i k : Nat} (h : (bl b)[i]? = some k) : ((bl b).map ival)[i]? = some (.int .i64 (k : Int)) := by rw [List.getElem?_map, h]; rfl
set_option maxRecDepth 100000 in
theorem bl_at {b i : Nat} (h : i < cnt b) : ∃ k, (bl b)[i]? = some k ∧ k < 64 := by
  have h' : i < (bl b).length := h
  exact ⟨(bl b)[i], List.getElem?_eq_getElem h', bl_lt (List.getElem_mem h')⟩

set_option maxRecDepth 100000 in
theorem nth_zero (b : Nat) (hb : U64 b) : nth b 0 = fst b := by
  by_cases h0 : b = 0
  · subst h0; decide +kernel
  · rw [fst_pos h0]; exact nth_at (bl_head h0 hb.lt)
set_option maxRecDepth 100000 in
theorem rk_step_t {b j : Nat} (h : b.testBit j = true) : (blN (j + 1) b).length = (blN j b).length + 1 := by rw [bl_snoc_t h]; simp
def rkN (j b : Nat) : Nat := (blN j b).length
set_option maxRecDepth 100000 in
theorem rkN_le (j b : Nat) : rkN j b ≤ j := blN_length_le j b
set_option maxRecDepth 100000 in
theorem rkN_t {b j : Nat} (h : b.testBit j = true) : rkN (j + 1) b = rkN j b + 1 := rk_step_t h
set_option maxRecDepth 100000 in
theorem rkN_f {b j : Nat} (h : b.testBit j = false) : rkN (j + 1) b = rkN j b := by unfold rkN; rw [bl_snoc_f h]
set_option maxRecDepth 100000 in
theorem put_t (k : Nat) : put true k = b2 k := rfl
set_option maxRecDepth 100000 in
theorem put_f (k : Nat) : put false k = 0 := rfl
set_option maxRecDepth 100000 in
theorem spr_hit {x b j k : Nat} (hk : (bl b)[j]? = some k) (ht : x.testBit j = true) (h64 : k < 64) :
    bits .or .u64 ((spr x (bl b) j : Nat) : Int) ((b2 k : Nat) : Int) = ((spr x (bl b) (j + 1) : Nat) : Int) := by
  rw [orU _ _ (spr_u64 x b j) (b2_u64 h64), spr_next hk, ht]; rfl
set_option maxRecDepth 100000 in
theorem spr_miss {x j : Nat} {l : List Nat} (ht : x.testBit j = false) : spr x l (j + 1) = spr x l j := by
  rw [spr, ht, put_f]; simp
set_option maxRecDepth 100000 in
theorem gat_hit {x b j k : Nat} (hk : (bl b)[j]? = some k) (ht : x.testBit k = true) (h64 : j < 64) :
    bits .or .u64 ((gat x (bl b) j : Nat) : Int) ((b2 j : Nat) : Int) = ((gat x (bl b) (j + 1) : Nat) : Int) := by
  rw [orU _ _ (gat_u64 x _ j (by omega)) (b2_u64 h64), gat_next hk, ht]; rfl
set_option maxRecDepth 100000 in
theorem gat_miss {x j k : Nat} {l : List Nat} (hk : l[j]? = some k) (ht : x.testBit k = false) : gat x l (j + 1) = gat x l j := by
  rw [gat_next hk, ht, put_f]; simp
end Go.Proofs.YtpombmpkccnefaaDoor

/- The tape's bit strings. -/
namespace Go.Proofs.YtpombmpkccnefaaDoor
open Go.RowKit Bs

set_option maxRecDepth 100000 in
theorem vb_full {n : Int} (h : vl n = true) (z : Nat) : vb (z &&& full n) n = true := by
  unfold vb
  rw [h, and_compl z (full_u64 n)]; rfl
/-- A bit string drawn for a length. -/
def BitsPost (n : Int) (a : Nat) (w : World) (e : Ending) (w' : World) : Prop := ∃ x : Nat, e = .returned (.int .u64 (x : Int)) ∧ U64 x ∧ vb x n = true ∧ St a w w'
set_option maxRecDepth 100000 in
theorem bits_end {n : Int} (h : vl n = true) (z : Nat) (hz : U64 z) : ∃ x : Nat, bits .and .u64 (z : Int) ((full n : Nat) : Int) = (x : Int) ∧ U64 x ∧ vb x n = true :=
  ⟨z &&& full n, andU z _ hz (full_u64 n), u64_and_le z _ hz, vb_full h z⟩
set_option maxRecDepth 100000 in
theorem all_ones : (18446744073709551615 : Int) = ((lo 64 : Nat) : Int) := by decide +kernel
set_option maxRecDepth 100000 in
set_option maxHeartbeats 800000 in
theorem bits_any (a : Nat) (n : Int) (hn : vl n = true) (w : World) (hT : Tp w a) :
    Calls Tryd.prog 51 #[.pointer (some ⟨a, 0, none⟩), .int .i64 n] w fun e w' => BitsPost n a w e w' := by
  have hn1 : 1 ≤ n := by rcases vl_cases hn with h | h | h | h <;> omega
  have hn2 : n ≤ 64 := by rcases vl_cases hn with h | h | h | h <;> omega
  have HV := Lib.hid hn
  clear hn
  go_enter Tryd.func51, Tryd.ntmps51
  go_wp2_with fail
  refine (raw_any a _ hT).mono ?_
  rintro e w1 ⟨x1, rfl, hx1, hs1⟩
  go_wp2_with fail
  refine (raw_any a _ hs1.2).mono ?_
  rintro e w2 ⟨x2, rfl, hx2, hs2⟩
  have h12 := hs1.trans hs2
  clear hx1 hx2 hs1 hs2
  go_wp2_with fail
  generalize hB : bits BinOp.xor IntKind.u64 _ _ = B
  obtain ⟨z, hz, hzB⟩ : ∃ z : Nat, U64 z ∧ B = (z : Int) := by rw [← hB]; exact bitsU _ _ _
  subst hzB
  clear hB
  refine (next_any a 6 (by unfold I64; omega) _ h12.2).mono ?_
  rintro e w3 ⟨r, rfl, hr, hs3⟩
  have h13 := h12.trans hs3
  have hr0 : 0 ≤ r := hr.1
  have hr1 : r < 6 := hr.2.1 (by omega)
  clear hr h12 hs3
  by_cases c0 : r = 0
  · subst c0
    obtain ⟨y, hy, hyu, hyv⟩ := bits_end HV.out 0 (by unfold U64; decide)
    have HY := Lib.hid hy
    clear hy
    go_wp2_with (go_at_call 91; refine (fullr_any _ _).mono ?_; rintro e w' ⟨rfl, rfl⟩)
    go_ret
    exact ⟨y, ret_int HY.out, hyu, hyv, h13⟩
  · by_cases c1 : r = 1
    · subst c1
      clear c0
      go_wp2_with fail
      refine (next_any a n (by unfold I64; omega) _ h13.2).mono ?_
      rintro e w4 ⟨k, rfl, hk, hs4⟩
      have h14 := h13.trans hs4
      obtain ⟨K, rfl⟩ := Int.eq_ofNat_of_zero_le hk.1
      have hK : K < 64 := by have := hk.2.1 hn1; omega
      clear hk hs4
      obtain ⟨y, hy, hyu, hyv⟩ := bits_end HV.out (b2 K) (b2_u64 hK)
      have HY := Lib.hid hy
      clear hy
      go_wp2_with (first
        | (go_at_call 90; refine (bit_any K hK _).mono ?_; rintro e w' ⟨rfl, rfl⟩)
        | (go_at_call 91; refine (fullr_any _ _).mono ?_; rintro e w' ⟨rfl, rfl⟩))
      go_ret
      exact ⟨y, ret_int HY.out, hyu, hyv, h14⟩
    · by_cases c2 : r = 2
      · subst c2
        clear c0 c1
        obtain ⟨y, hy, hyu, hyv⟩ := bits_end HV.out (lo 64) (lo_u64 (by omega))
        rw [← all_ones] at hy
        have HY := Lib.hid hy
        clear hy
        go_wp2_with (go_at_call 91; refine (fullr_any _ _).mono ?_; rintro e w' ⟨rfl, rfl⟩)
        go_ret
        exact ⟨y, ret_int HY.out, hyu, hyv, h13⟩
      · have b0 : (r == 0) = false := by simpa using c0
        have b1 : (r == 1) = false := by simpa using c1
        have b2' : (r == 2) = false := by simpa using c2
        clear c0 c1 c2
        obtain ⟨y, hy, hyu, hyv⟩ := bits_end HV.out z hz
        have HY := Lib.hid hy
        clear hy
        go_wp2_with (go_at_call 91; refine (fullr_any _ _).mono ?_; rintro e w' ⟨rfl, rfl⟩)
        go_ret
        exact ⟨y, ret_int HY.out, hyu, hyv, h13⟩
end Go.Proofs.YtpombmpkccnefaaDoor

/- The tape's packets. -/
namespace Go.Proofs.YtpombmpkccnefaaDoor
open Go.RowKit Bs
/-- A drawn packet with no mistake is valid. -/
def PacketPost (a : Nat) (w : World) (e : Ending) (w' : World) : Prop := ∃ P : Pk, e = .returned P.val ∧ P.Wf ∧ vpk P = true ∧ St a w w'
set_option maxRecDepth 100000 in
theorem tp_store {w1 w2 : World} {a b : Nat} (h : Tp w1 a) (k : w1.grownBy w2 (some b)) (hb : a < b) : Tp w2 a := tp_new2 h k hb
set_option maxRecDepth 100000 in
theorem St.store {a b : Nat} {W w w1 : World} (h : St a W w) (k : w.grownBy w1 (some b)) (hb : W.heap.size ≤ b) (ha : a < W.heap.size) : St a W w1 :=
  ⟨⟨k.os.trans h.1.os, k.tape.trans h.1.tape, k.output.trans h.1.output, Nat.le_trans h.1.size k.size, fun i hi hia => (k.block i (Nat.lt_of_lt_of_le hi h.1.size) (fun e => by have := Option.some.inj e; omega)).trans (h.1.block i hi hia)⟩, by
    exact tp_store h.2 k (by omega)⟩
set_option maxRecDepth 100000 in
theorem res_packet {fn : Func} {p : Tmp} (h : fn.results = #[.cell p 31]) (tmps : Array Value) (w : World) (g : Nat) (xs : Array Value) (hp : tmps.getD p undef = .pointer (some ⟨g, 0, none⟩)) (hn : xs.size = 10) (hg : w.heap[g]? = some (.cells xs 31 (0, 0))) :
    (results fn tmps).run Tryd.prog w = .ok (.agg xs) w := by
  exact results_cell_row h tmps w g _ _ _ _ hp hg Tryd.underlying31 rfl (by rw [hn]; exact packet_size)
set_option maxRecDepth 100000 in
theorem i64_small {x : Int} (h1 : -2000 ≤ x) (h2 : x ≤ 2000) : I64 x := by unfold I64; omega
set_option maxRecDepth 100000 in
set_option maxHeartbeats 3200000 in
theorem packet0_any (a : Nat) (w : World) (hT : Tp w a) :
    Calls Tryd.prog 12 #[.pointer (some ⟨a, 0, none⟩), .int .i64 0] w fun e w' => PacketPost a w e w' := by
  have ha := hT.lt
  obtain ⟨k1, k2⟩ := one_box w zpk 31
  have HB := Lib.hid k1
  have S0 : St a w (w.alloc (.cells zpk 31)) := ⟨grown_none k2 _, hT.keep k2⟩
  clear k1 k2
  unfold zpk at HB S0
  go_enter Tryd.func12, Tryd.ntmps12
  go_wp2_with fail
  generalize w.alloc _ = wa at *
  change Hid (wa.heap[w.heap.size]? = some (.cells zpk 31 (0, 0))) at HB
  refine (length_any a _ S0.2).mono ?_
  rintro e w1 ⟨len, rfl, hlen, hs1⟩
  have S1 := S0.trans hs1
  go_wp2_with fail
  refine (range_any a 1 3 (by decide) (by decide) (by decide) (by decide) _ S1.2).mono ?_
  rintro e w2 ⟨mode, rfl, hmode, hs2⟩
  go_wp2_with fail
  refine (range_any a 0 7 (by decide) (by decide) (by decide) (by decide) _ hs2.2).mono ?_
  rintro e w3 ⟨sub, rfl, hsub, hs3⟩
  go_wp2_with fail
  refine (pick_any (fun r => 0 ≤ r ∧ r ≤ 31) a _ 0 5 5 (by omega) (by omega) _ (hs3.2.alloc _) (among_list _ w3 a [0, 0, 1, 2, 31] _ _ hs3.2.lt rfl (by decide))).mono ?_
  rintro e w4 ⟨set, rfl, hset, hs4⟩
  go_wp2_with fail
  refine (pick_any (fun r => 0 ≤ r ∧ r ≤ 63) a _ 0 5 5 (by omega) (by omega) _ (hs4.2.alloc _) (among_list _ w4 a [0, 1, 2, 5, 63] _ _ hs4.2.lt rfl (by decide))).mono ?_
  rintro e w5 ⟨ttl, rfl, httl, hs5⟩
  go_wp2_with fail
  refine (next_any a 1024 (by unfold I64; omega) _ hs5.2).mono ?_
  rintro e w6 ⟨ent, rfl, hent, hs6⟩
  go_wp2_with fail
  refine (pick_any (fun r => 0 ≤ r ∧ r ≤ 256) a _ 0 5 5 (by omega) (by omega) _ (hs6.2.alloc _) (among_list _ w6 a [0, 1, 8, 255, 256] _ _ hs6.2.lt rfl (by decide))).mono ?_
  rintro e w7 ⟨ing, rfl, hing, hs7⟩
  go_wp2_with fail
  refine (next_any a 8 (by unfold I64; omega) _ hs7.2).mono ?_
  rintro e w8 ⟨pro, rfl, hpro, hs8⟩
  go_wp2_with fail
  refine (bits_any a len hlen _ hs8.2).mono ?_
  rintro e w9 ⟨bits, rfl, hbu, hbv, hs9⟩
  go_wp2_with fail
  refine (text_any a 6 (by decide) _ hs9.2).mono ?_
  rintro e w10 ⟨pay, rfl, hpay, hs10⟩
  have S' := ((((((((hs1.trans hs2).trans hs3).trans hs4.alloc_left).trans hs5.alloc_left).trans hs6).trans hs7.alloc_left).trans hs8).trans hs9).trans hs10
  have S := Lib.hid (S0.trans S')
  have HR := Lib.hid (kept_row HB.out S'.1 (fun e => by have := Option.some.inj e; omega))
  have hV : Hid (vpk ⟨mode, sub, set, len, ttl, ent, ing, pro, bits, pay⟩ = true ∧ (⟨mode, sub, set, len, ttl, ent, ing, pro, bits, pay⟩ : Pk).Wf) := by
    have r1 := hmode.1
    have r2 := hmode.2.1 (by decide)
    have r3 := hsub.1
    have r4 := hsub.2.1 (by decide)
    have r5 := hent.1
    have r6 := hent.2.1 (by decide)
    have r7 := hpro.1
    have r8 := hpro.2.1 (by decide)
    refine Lib.hid ⟨decide_eq_true ⟨⟨r1, r2⟩, ⟨r3, r4⟩, hset, httl, ⟨r5, by show ent ≤ 1023; omega⟩, hing, ⟨r7, by show pro ≤ 7; omega⟩, Nat.le_trans hpay (by decide), hbv⟩, ?_⟩
    have hl : I64 len := by rcases vl_cases hlen with h | h | h | h <;> rw [h] <;> (unfold I64; decide)
    obtain ⟨q1, q2⟩ := hset
    obtain ⟨q3, q4⟩ := httl
    obtain ⟨q5, q6⟩ := hing
    exact ⟨i64_small (x := mode) (by omega) (by omega), i64_small (x := sub) (by omega) (by omega), i64_small (x := set) (by omega) (by omega), hl, i64_small (x := ttl) (by omega) (by omega), i64_small (x := ent) (by omega) (by omega), i64_small (x := ing) (by omega) (by omega), i64_small (x := pro) (by omega) (by omega), hbu, Nat.le_trans hpay (by decide)⟩
  have g11 := World.grownBy_alloc w10 (.cells #[.int .i64 mode, .int .i64 sub, .int .i64 set, .int .i64 len, .int .i64 ttl, .int .i64 ent, .int .i64 ing, .int .i64 pro, .int .u64 (bits : Int), .string pay] 31) none
  have HR2 := Lib.hid (kept_row HR.out g11 (by simp))
  have S2 := Lib.hid (S.out.none_ g11)
  obtain ⟨⟨r0, r1, r2, r3, r4, r5, r6, r7, r8, r9⟩, f0, f1, f2, f3, f4, f5, f6, f7, f8, f9⟩ := zp_cells HR2.out
  clear S' S HR HB S0 S1 hs1 hs2 hs3 hs4 hs5 hs6 hs7 hs8 hs9 hs10 hmode hsub hset httl hent hing hpro hbu hbv hpay hlen g11
  go_wp2_with fail
  refine bodyPost_ret (res_packet rfl _ _ w.heap.size _ rfl rfl (pput_row _ _ _ _ _ _ _ _ _ _ HR2.out)) rfl ?_
  exact ⟨⟨mode, sub, set, len, ttl, ent, ing, pro, bits, pay⟩, rfl, hV.out.2, hV.out.1, S2.out.store (pput_grown _ w.heap.size _ _ _ _ _ _ _ _ _ _) (Nat.le_refl _) ha⟩
end Go.Proofs.YtpombmpkccnefaaDoor

/- Parts of the proof, packed: ToFail, ToWith, ToOpn, ToRws. -/
import Derived.Test.YtiencdgmnkphjaaApl4
import Derived.Test.YtiencdgmnkphjaaApl5
import Derived.Test.YtiencdgmnkphjaaApl2
/- topology: the closures of Without; what memory holds while it runs. -/
namespace Go.Proofs.Ytiencdgmnkphjaa
open Go.RowKit Bs
/-- A failure with where it lies. -/
structure Fl where
  H : List Hp
  X : List Int
  pH : Option Addr
  cH : Nat
  pX : Option Addr
  cX : Nat
structure FlOk (w : World) (q : Nat → Prop) (F : Fl) : Prop where
  h : RdH w q (.slice F.pH F.H.length F.cH) F.H
  x : Rd w q (.slice F.pX F.X.length F.cX) (F.X.map tv)
  ch : F.H.length ≤ F.cH ∧ F.cH ≤ 9223372036854775807
  cx : F.X.length ≤ F.cX ∧ F.cX ≤ 9223372036854775807
theorem FlOk.keep {w w' : World} {q : Nat → Prop} {F : Fl} (h : FlOk w q F) (g : w.grownBy w' none) : FlOk w' q F := ⟨h.h.keep g, h.x.keep g, h.ch, h.cx⟩
theorem FlOk.mono {w : World} {q q' : Nat → Prop} {F : Fl} (h : FlOk w q F) (hq : ∀ b, q b → q' b) : FlOk w q' F := ⟨h.h.mono hq, h.x.mono hq, h.ch, h.cx⟩
def nmd (H : List Hp) (l : Lk) : Bool := H.any (isH l.a l.b) || H.any (isH l.b l.a)
set_option maxRecDepth 100000 in
theorem tfail1_any (F : Fl) (x : Int) (B : Nat) (q : Nat → Prop) (w : World) (hB : w.heap[B]? = some (.cells #[.slice F.pH F.H.length F.cH, .slice F.pX F.X.length F.cX] 47 (0, 0))) (hF : FlOk w q F) :
    Calls Try.prog 74 #[.int .i64 x, .pointer (some ⟨B, 0, none⟩)] w fun e w' => e = .returned (.bool (hasI F.X x)) ∧ w = w' := by
  obtain ⟨c0, c1⟩ := row_cells hB
  have HF := Lib.hid hF
  have hm := Nat.le_trans hF.cx.1 hF.cx.2
  clear hB hF
  go_enter Try.func74, Try.ntmps74
  go_wp2_with (go_at_call 75; refine (tcint_any F.X x F.pX F.cX _ _ HF.out.x hm).mono ?_; rintro e w' ⟨rfl, rfl⟩)
  go_ret
  exact ⟨rfl, rfl⟩
set_option maxRecDepth 100000 in
set_option maxHeartbeats 1600000 in
theorem tfail2_any (F : Fl) (l : Lk) (B : Nat) (q : Nat → Prop) (w : World) (hB : w.heap[B]? = some (.cells #[.slice F.pH F.H.length F.cH, .slice F.pX F.X.length F.cX] 47 (0, 0))) (hF : FlOk w q F) :
    Calls Try.prog 76 #[.agg #[.int .i64 l.a, .int .i64 l.b, .int .i64 l.ca, .int .i64 l.cb, .int .i64 l.cp], .pointer (some ⟨B, 0, none⟩)] w fun e w' => e = .returned (.bool (nmd F.H l)) ∧ w.grownBy w' none := by
  obtain ⟨k1, k2⟩ := tone_box w #[.int .i64 l.a, .int .i64 l.b, .int .i64 l.ca, .int .i64 l.cb, .int .i64 l.cp] 68
  have HB := Lib.hid (And.intro (kept_row hB k2 (by simp)) (And.intro k1 k2))
  have HF := Lib.hid (hF.keep k2)
  have hm := Nat.le_trans hF.ch.1 hF.ch.2
  clear hB hF k1 k2
  go_enter Try.func76, Try.ntmps76
  go_upto_region 1 with fail
  generalize w.alloc _ = wa at *
  obtain ⟨c0, c1⟩ := row_cells HB.out.1
  obtain ⟨d0, d1, d2, d3, d4⟩ := lk_facts HB.out.2.1
  cases h1 : F.H.any (isH l.a l.b)
  · go_wp2_with fail
    refine (tchop_any F.H l.a l.b F.pH F.cH _ _ HF.out.h hm).mono ?_
    rintro e w1 ⟨rfl, hg⟩
    rw [h1]
    have HN : Hid (nmd F.H l = F.H.any (isH l.b l.a)) := Lib.hid (by unfold nmd; rw [h1]; rfl)
    have HG := Lib.hid hg
    clear hg h1 c0 c1 d0 d1 d2 d3 d4
    obtain ⟨c0, c1⟩ := row_cells (kept_row HB.out.1 HG.out (by simp))
    obtain ⟨d0, d1, d2, d3, d4⟩ := lk_facts (kept_row HB.out.2.1 HG.out (by simp))
    go_wp2_with fail
    refine (tchop_any F.H l.b l.a F.pH F.cH _ _ (HF.out.keep HG.out).h hm).mono ?_
    rintro e w2 ⟨rfl, hg⟩
    have HG2 := Lib.hid (grown_trans HG.out hg)
    clear hg c0 c1 d0 d1 d2 d3 d4
    rw [← HN.out]
    go_wp2_with fail
    go_ret
    exact ⟨rfl, grown_trans HB.out.2.2 HG2.out⟩
  · go_wp2_with fail
    refine (tchop_any F.H l.a l.b F.pH F.cH _ _ HF.out.h hm).mono ?_
    rintro e w1 ⟨rfl, hg⟩
    rw [h1]
    have HN : Hid (nmd F.H l = true) := Lib.hid (by unfold nmd; rw [h1]; rfl)
    have HG := Lib.hid hg
    clear hg h1 c0 c1 d0 d1 d2 d3 d4
    go_wp2_with fail
    go_ret
    rw [HN.out]
    exact ⟨rfl, grown_trans HB.out.2.2 HG.out⟩
/-- What is read lies below. -/
theorem RdF.old {w : World} {q : Nat → Prop} {v : Value} {n : Nat} {xs : List Value} (h : RdF w q v n xs) : RdF w (· < w.heap.size) v n xs := by
  obtain ⟨p, c, hv, hc⟩ := h
  refine ⟨p, c, hv, fun hne => ?_⟩
  obtain ⟨b, off, hp, hb, hx⟩ := hc hne
  obtain ⟨x, hx0⟩ : ∃ x, xs[0]? = some x := by
    cases xs with
    | nil => exact absurd rfl hne
    | cons a t => exact ⟨a, rfl⟩
  exact ⟨b, off, hp, World.block_lt_of_cell? w ⟨b, off + 0, none⟩ (hx 0 x hx0), hx⟩
theorem Rd.old {w : World} {q : Nat → Prop} {v : Value} {xs : List Value} (h : Rd w q v xs) : Rd w (· < w.heap.size) v xs := by
  obtain ⟨p, c, hv, hc⟩ := h
  refine ⟨p, c, hv, fun hne => ?_⟩
  obtain ⟨b, off, hp, hb, hx⟩ := hc hne
  obtain ⟨x, hx0⟩ : ∃ x, xs[0]? = some x := by
    cases xs with
    | nil => exact absurd rfl hne
    | cons a t => exact ⟨a, rfl⟩
  exact ⟨b, off, hp, World.block_lt_of_cell? w ⟨b, off + 0, none⟩ (hx 0 x hx0), hx⟩
theorem TgOk.old {w : World} {q : Nat → Prop} {T : Tg} (h : TgOk w q T) : TgOk w (· < w.heap.size) T := ⟨h.r.old, h.l.old, h.cr, h.cl⟩
theorem FlOk.old {w : World} {q : Nat → Prop} {F : Fl} (h : FlOk w q F) : FlOk w (· < w.heap.size) F := ⟨h.h.old, h.x.old, h.ch, h.cx⟩
theorem FlOk.grown {w w' : World} {q : Nat → Prop} {F : Fl} {r : Option Nat} (h : FlOk w q F) (g : w.grownBy w' r) (hq : ∀ b, q b → some b ≠ r) : FlOk w' q F := ⟨h.h.grown g hq, h.x.grown g hq, h.ch, h.cx⟩
theorem okT_len {R : List Rt} {L : List Lk} (h : okT R L = true) : R.length ≤ 24 ∧ L.length ≤ 60 := by
  unfold okT chk at h
  by_cases h1 : 24 < R.length ∨ 60 < L.length
  · rw [if_pos h1] at h; cases h
  · omega
/-- What is left of a topology. -/
def woR (F : Fl) (R : List Rt) : List Rt := R.filter fun r => !hasI F.X r.id
def woK (F : Fl) (l : Lk) : Bool := !hasI F.X l.a && (!hasI F.X l.b && !nmd F.H l)
def woL (F : Fl) (L : List Lk) : List Lk := L.filter (woK F)
theorem filter_snoc {α : Type} {f : α → Bool} {l : List α} {k : Nat} {x : α} (h : l[k]? = some x) : (l.take (k + 1)).filter f = (l.take k).filter f ++ (if f x then [x] else []) := by
  rw [List.take_add_one, h, List.filter_append]
  cases hf : f x <;> simp [hf]
theorem info_rt : (Try.prog.info? 73).map (fun i => (i.zero, i.size, i.bytes)) = some (some (.agg #[.int .i64 0, .bool false]), 2, 16) := by kernel_rfl
theorem info_lk : (Try.prog.info? 68).map (fun i => (i.zero, i.size, i.bytes)) = some (some (.agg #[.int .i64 0, .int .i64 0, .int .i64 0, .int .i64 0, .int .i64 0]), 5, 40) := by kernel_rfl
end Go.Proofs.Ytiencdgmnkphjaa

/- topology: Without. -/
namespace Go.Proofs.Ytiencdgmnkphjaa
open Go.RowKit Bs
theorem grown_any {w w1 w2 : World} {r : Option Nat} (h : w.grownBy w1 none) (k : w1.grownBy w2 r) (hr : ∀ b, b < w.heap.size → some b ≠ r) : w.grownBy w2 none :=
  ⟨k.os.trans h.os, k.tape.trans h.tape, k.output.trans h.output, Nat.le_trans h.size k.size, fun b hb _ => (k.block b (Nat.lt_of_lt_of_le hb h.size) (hr b hb)).trans (h.block b hb (by simp))⟩
theorem rdf_of_own2 {w : World} {base size : Nat} {e : TypeId} {v : Value} {n : Nat} {xs : List Value} (h : w.ownsRow base e size v n xs) : RdF w (fun b => base ≤ b ∧ b < w.heap.size) v n xs := by
  obtain ⟨p, c, hv, hc⟩ := rdf_of_own h
  refine ⟨p, c, hv, fun hne => ?_⟩
  obtain ⟨b, off, hp, hb, hx⟩ := hc hne
  obtain ⟨x, hx0⟩ : ∃ x, xs[0]? = some x := by
    cases xs with
    | nil => exact absurd rfl hne
    | cons a t => exact ⟨a, rfl⟩
  exact ⟨b, off, hp, ⟨hb, World.block_lt_of_cell? w ⟨b, off + 0, none⟩ (hx 0 x hx0)⟩, hx⟩
/-- What Without keeps from its beginning. -/
structure WS (w : World) (T : Tg) (F : Fl) (wr : World) : Prop where
  tb : wr.heap[w.heap.size]? = some (.cells #[.slice T.pR T.R.length T.cR, .slice T.pL T.L.length T.cL] 26 (0, 0))
  fb : wr.heap[w.heap.size + 1]? = some (.cells #[.slice F.pH F.H.length F.cH, .slice F.pX F.X.length F.cX] 47 (0, 0))
  rb : TRow wr (w.heap.size + 2) 26 [.slice none 0 0, .slice none 0 0]
  gr : w.grownBy wr none
  t : TgOk wr (· < w.heap.size) T
  f : FlOk wr (· < w.heap.size) F
theorem WS.keepB {w wr w' : World} {T : Tg} {F : Fl} {r : Option Nat} (h : WS w T F wr) (g : wr.grownBy w' r) (hr : ∀ b, b < w.heap.size + 3 → some b ≠ r) : WS w T F w' :=
  ⟨kept_row h.tb g (hr _ (by omega)), kept_row h.fb g (hr _ (by omega)), h.rb.kept g (hr _ (by omega)), grown_any h.gr g (fun b hb => hr b (by omega)), h.t.grown g (fun b hb => hr b (by omega)), h.f.grown g (fun b hb => hr b (by omega))⟩
theorem WS.keep {w wr w' : World} {T : Tg} {F : Fl} (h : WS w T F wr) (g : wr.grownBy w' none) : WS w T F w' := h.keepB g (fun _ _ => by simp)
theorem WS.start {w : World} {T : Tg} {F : Fl} {q q2 : Nat → Prop} (hT : TgOk w q T) (hF : FlOk w q2 F) :
    WS w T F (((w.alloc (.cells #[.slice T.pR T.R.length T.cR, .slice T.pL T.L.length T.cL] 26)).alloc (.cells #[.slice F.pH F.H.length F.cH, .slice F.pX F.X.length F.cX] 47)).alloc (.cells #[.slice none 0 0, .slice none 0 0] 26)) := by
  obtain ⟨k1, k2, k3, _⟩ := two_boxes w #[.slice T.pR T.R.length T.cR, .slice T.pL T.L.length T.cL] #[.slice F.pH F.H.length F.cH, .slice F.pX F.X.length F.cX] 26 47
  have k4 := World.grownBy_alloc ((w.alloc (.cells #[.slice T.pR T.R.length T.cR, .slice T.pL T.L.length T.cL] 26)).alloc (.cells #[.slice F.pH F.H.length F.cH, .slice F.pX F.X.length F.cX] 47)) (.cells #[.slice none 0 0, .slice none 0 0] 26) none
  have k5 := heap_alloc_new ((w.alloc (.cells #[.slice T.pR T.R.length T.cR, .slice T.pL T.L.length T.cL] 26)).alloc (.cells #[.slice F.pH F.H.length F.cH, .slice F.pX F.X.length F.cX] 47)) (.cells #[.slice none 0 0, .slice none 0 0] 26)
  have hg := grown_trans k3 k4
  refine ⟨kept_row k1 k4 (by simp), kept_row k2 k4 (by simp), ?_, hg, hT.old.keep hg, hF.old.keep hg⟩
  have e : ((w.alloc (.cells #[.slice T.pR T.R.length T.cR, .slice T.pL T.L.length T.cL] 26)).alloc (.cells #[.slice F.pH F.H.length F.cH, .slice F.pX F.X.length F.cX] 47)).heap.size = w.heap.size + 2 := by simp
  rw [e] at k5
  exact k5
/-- While routers are kept. -/
structure WR (w : World) (T : Tg) (F : Fl) (Bx base : Nat) (vR : Value) (R' : List Rt) (wr : World) : Prop where
  s : WS w T F wr
  bx : wr.heap[Bx]? = some (.cells #[vR, .slice none 0 0] 26 (0, 0))
  own : wr.ownsRow base 73 2 vR R'.length (R'.flatMap rtC)
  b1 : w.heap.size + 3 ≤ Bx ∧ Bx < base ∧ base ≤ wr.heap.size
theorem WR.keep {w wr w' : World} {T : Tg} {F : Fl} {Bx base : Nat} {vR : Value} {R' : List Rt} (h : WR w T F Bx base vR R' wr) (g : wr.grownBy w' none) : WR w T F Bx base vR R' w' :=
  ⟨h.s.keep g, kept_row h.bx g (by simp), h.own.kept g (by cases hv : vR.ownBlock <;> simp), ⟨h.b1.1, h.b1.2.1, Nat.le_trans h.b1.2.2 g.size⟩⟩
theorem WR.mid {w wr wy w1 : World} {T : Tg} {F : Fl} {Bx base : Nat} {vR v' : Value} {R' : List Rt} {y : Rt} {o : Obj} (h : WR w T F Bx base vR R' wr) (g : wr.grownBy wy none)
    (hown : w1.ownsRow base 73 2 v' (R'.length + 1) (R'.flatMap rtC ++ [.int .i64 y.id, .bool y.cap])) (hg : (wy.alloc o).grownBy w1 vR.ownBlock) :
    WS w T F w1 ∧ w1.heap[Bx]? = some (.cells #[vR, .slice none 0 0] 26 (0, 0)) ∧ w1.ownsRow base 73 2 v' (R' ++ [y]).length ((R' ++ [y]).flatMap rtC) ∧ base ≤ w1.heap.size := by
  have k0 := grown_trans g (World.grownBy_alloc wy o none)
  have hne : ∀ k, k < base → some k ≠ vR.ownBlock := fun k hk e => by
    have := (h.own.lt k e.symm).1
    omega
  have h2 := h.keep k0
  have hb := h.b1
  refine ⟨h2.s.keepB hg (fun b hb2 => hne b (by omega)), kept_row h2.bx hg (hne _ (by omega)), ?_, Nat.le_trans h2.b1.2.2 hg.size⟩
  rw [List.length_append, List.flatMap_append]
  exact hown
theorem WR.put {w w1 : World} {T : Tg} {F : Fl} {Bx base : Nat} {vR v' : Value} {R' : List Rt} (hb : w.heap.size + 3 ≤ Bx ∧ Bx < base)
    (h : WS w T F w1 ∧ w1.heap[Bx]? = some (.cells #[vR, .slice none 0 0] 26 (0, 0)) ∧ w1.ownsRow base 73 2 v' R'.length (R'.flatMap rtC) ∧ base ≤ w1.heap.size) :
    WR w T F Bx base v' R' (w1.setCell ⟨Bx, 0, none⟩ v') := by
  obtain ⟨h1, h2, h3, h4⟩ := h
  have k := grown_setCell w1 ⟨Bx, 0, none⟩ v'
  refine ⟨h1.keepB k (fun b hb2 e => by have : b = Bx := Option.some.inj e; omega), heap_setCell_same w1 Bx 0 _ _ v' h2, h3.kept k ?_, hb.1, hb.2, Nat.le_trans h4 k.size⟩
  cases hv : v'.ownBlock with
  | none => exact .inl rfl
  | some g => exact .inr (fun e => by have e2 : g = Bx := Option.some.inj e; have := (h3.lt g hv).1; omega)
/-- While links are kept. -/
structure WL (w : World) (T : Tg) (F : Fl) (Bx base : Nat) (vR vL : Value) (R' : List Rt) (L' : List Lk) (wr : World) : Prop where
  s : WS w T F wr
  bx : wr.heap[Bx]? = some (.cells #[vR, vL] 26 (0, 0))
  own : wr.ownsRow base 68 5 vL L'.length (L'.flatMap lkC)
  rd : RdR wr (fun b => Bx < b ∧ b < base) vR R'
  cv : ∃ p c, vR = .slice p R'.length c ∧ R'.length ≤ c ∧ c ≤ 9223372036854775807
  b1 : w.heap.size + 3 ≤ Bx ∧ Bx < base ∧ base ≤ wr.heap.size
theorem WL.keep {w wr w' : World} {T : Tg} {F : Fl} {Bx base : Nat} {vR vL : Value} {R' : List Rt} {L' : List Lk} (h : WL w T F Bx base vR vL R' L' wr) (g : wr.grownBy w' none) : WL w T F Bx base vR vL R' L' w' :=
  ⟨h.s.keep g, kept_row h.bx g (by simp), h.own.kept g (by cases hv : vL.ownBlock <;> simp), h.rd.keep g, h.cv, ⟨h.b1.1, h.b1.2.1, Nat.le_trans h.b1.2.2 g.size⟩⟩
theorem WL.mid {w wr wy w1 : World} {T : Tg} {F : Fl} {Bx base : Nat} {vR vL v' : Value} {R' : List Rt} {L' : List Lk} {y : Lk} {o : Obj} (h : WL w T F Bx base vR vL R' L' wr) (g : wr.grownBy wy none)
    (hown : w1.ownsRow base 68 5 v' (L'.length + 1) (L'.flatMap lkC ++ [.int .i64 y.a, .int .i64 y.b, .int .i64 y.ca, .int .i64 y.cb, .int .i64 y.cp])) (hg : (wy.alloc o).grownBy w1 vL.ownBlock) :
    WS w T F w1 ∧ w1.heap[Bx]? = some (.cells #[vR, vL] 26 (0, 0)) ∧ w1.ownsRow base 68 5 v' (L' ++ [y]).length ((L' ++ [y]).flatMap lkC) ∧ (RdR w1 (fun b => Bx < b ∧ b < base) vR R' ∧ ∃ p c, vR = .slice p R'.length c ∧ R'.length ≤ c ∧ c ≤ 9223372036854775807) ∧ base ≤ w1.heap.size := by
  have k0 := grown_trans g (World.grownBy_alloc wy o none)
  have hne : ∀ k, k < base → some k ≠ vL.ownBlock := fun k hk e => by
    have := (h.own.lt k e.symm).1
    omega
  have h2 := h.keep k0
  have hb := h.b1
  refine ⟨h2.s.keepB hg (fun b hb2 => hne b (by omega)), kept_row h2.bx hg (hne _ (by omega)), ?_, ⟨h2.rd.grown hg (fun b hb2 => hne b hb2.2), h2.cv⟩, Nat.le_trans h2.b1.2.2 hg.size⟩
  rw [List.length_append, List.flatMap_append]
  exact hown
theorem WL.put {w w1 : World} {T : Tg} {F : Fl} {Bx base : Nat} {vR vL v' : Value} {R' : List Rt} {L' : List Lk} (hb : w.heap.size + 3 ≤ Bx ∧ Bx < base)
    (h : WS w T F w1 ∧ w1.heap[Bx]? = some (.cells #[vR, vL] 26 (0, 0)) ∧ w1.ownsRow base 68 5 v' L'.length (L'.flatMap lkC) ∧ (RdR w1 (fun b => Bx < b ∧ b < base) vR R' ∧ ∃ p c, vR = .slice p R'.length c ∧ R'.length ≤ c ∧ c ≤ 9223372036854775807) ∧ base ≤ w1.heap.size) :
    WL w T F Bx base vR v' R' L' (w1.setCell ⟨Bx, 1, none⟩ v') := by
  obtain ⟨h1, h2, h3, h5, h4⟩ := h
  have k := grown_setCell w1 ⟨Bx, 1, none⟩ v'
  refine ⟨h1.keepB k (fun b hb2 e => by have : b = Bx := Option.some.inj e; omega), heap_setCell_same w1 Bx 1 _ _ v' h2, h3.kept k ?_, h5.1.grown k (fun b hb2 e => by have e2 : b = Bx := Option.some.inj e; omega), h5.2, hb.1, hb.2, Nat.le_trans h4 k.size⟩
  cases hv : v'.ownBlock with
  | none => exact .inl rfl
  | some g => exact .inr (fun e => by have e2 : g = Bx := Option.some.inj e; have := (h3.lt g hv).1; omega)
/-- What returns a topology. -/
def TWPost (Rr : List Rt) (Lr : List Lk) (w : World) (e : Ending) (w' : World) : Prop :=
  ∃ pR cR pL cL, e = .returned (.agg #[.slice pR Rr.length cR, .slice pL Lr.length cL]) ∧ TgOk w' (w.heap.size ≤ ·) ⟨Rr, Lr, pR, cR, pL, cL⟩ ∧ w.grownBy w' none
theorem topo_size : (Try.prog.info? 26).map (·.size) = some 2 := by kernel_rfl
theorem res_topo {fn : Func} {p : Tmp} (h : fn.results = #[.cell p 26]) (tmps : Array Value) (w : World) (g : Nat) (x y : Value) (hp : tmps.getD p undef = .pointer (some ⟨g, 0, none⟩)) (hg : w.heap[g]? = some (.cells #[x, y] 26 (0, 0))) :
    (results fn tmps).run Try.prog w = .ok (.agg #[x, y]) w :=
  results_cell_row h tmps w g _ _ _ _ hp hg Try.underlying26 rfl topo_size
theorem own_shape {w : World} {base size n : Nat} {e : TypeId} {v : Value} {xs : List Value} (h : w.ownsRow base e size v n xs) : ∃ p c, v = .slice p n c ∧ n ≤ c ∧ c ≤ 9223372036854775807 := by
  rcases h.2 with ⟨rfl, h0⟩ | ⟨g, cap, cur, rfl, _, _, hn, hm, _⟩
  · subst h0
    exact ⟨none, 0, rfl, Nat.le_refl _, by omega⟩
  · unfold maxLen at hm
    exact ⟨_, cap, rfl, hn, by omega⟩
theorem cells2 (w : World) (x y : Value) (t : TypeId) : ∀ j u, [x, y][j]? = some u → (w.alloc (.cells #[x, y] t)).cell? ((⟨w.heap.size, 0, none⟩ : Addr).add j) = some u := by
  intro j u hj
  have hb : (w.alloc (.cells #[x, y] t)).heap[w.heap.size]? = some (.cells #[x, y] t (0, 0)) := heap_alloc_new w _
  have hadd : (⟨w.heap.size, 0, none⟩ : Addr).add j = ⟨w.heap.size, j, none⟩ := by rw [add_plain, Nat.zero_add]
  rw [hadd, cell_of_row _ _ _ _ _ _ hb]
  simpa using hj
theorem cells5 (w : World) (a b c d e : Value) (t : TypeId) : ∀ j u, [a, b, c, d, e][j]? = some u → (w.alloc (.cells #[a, b, c, d, e] t)).cell? ((⟨w.heap.size, 0, none⟩ : Addr).add j) = some u := by
  intro j u hj
  have hb : (w.alloc (.cells #[a, b, c, d, e] t)).heap[w.heap.size]? = some (.cells #[a, b, c, d, e] t (0, 0)) := heap_alloc_new w _
  have hadd : (⟨w.heap.size, 0, none⟩ : Addr).add j = ⟨w.heap.size, j, none⟩ := by rw [add_plain, Nat.zero_add]
  rw [hadd, cell_of_row _ _ _ _ _ _ hb]
  simpa using hj
end Go.Proofs.Ytiencdgmnkphjaa

/- A topology that comes in as an argument. -/
namespace Go.Proofs.Ytiencdgmnkphjaa
open Go.ChangeShapes Go.WideShapes Go.ChangeAt Go.RowKit Go.Joins Bs
set_option maxRecDepth 100000 in
theorem tlist2 {A : Type} {xs : List A} (h : xs.length = 2) : ∃ x0 x1, xs = [x0, x1] := by
  match xs, h with
  | [x0, x1], _ => exact ⟨x0, x1, rfl⟩
set_option maxRecDepth 100000 in
theorem tlist5 {A : Type} {xs : List A} (h : xs.length = 5) : ∃ x0 x1 x2 x3 x4, xs = [x0, x1, x2, x3, x4] := by
  match xs, h with
  | [x0, x1, x2, x3, x4], _ => exact ⟨x0, x1, x2, x3, x4, rfl⟩
set_option maxRecDepth 100000 in
theorem kit_cellsRt : Try.prog.cellsOf 73 = 2 := by kernel_rfl
set_option maxRecDepth 100000 in
theorem kit_cellsLk : Try.prog.cellsOf 68 = 5 := by kernel_rfl
set_option maxRecDepth 100000 in
theorem kit_cellsBool : Try.prog.cellsOf 4 = 1 := by kernel_rfl
set_option maxRecDepth 100000 in
theorem kit_cellsRts : Try.prog.cellsOf 23 = 1 := by kernel_rfl
set_option maxRecDepth 100000 in
theorem kit_cellsLks : Try.prog.cellsOf 24 = 1 := by kernel_rfl
section
variable {H : Type} {enc : TypeId × Value → H} {W : World} {base : Nat} {v : Value} {d : DataW H} {ps : List MemPlace}
set_option maxRecDepth 100000 in
theorem rt_trod {fuel : Nat} {cs : List Value} {y : DataW H × List MemPlace} (h : DataW.trod enc Try.prog W 0 (fun _ => true) true fuel 73 cs = some y) : ∃ r : Rt, cs = rtC r := by
  have hs := Try.underlying73
  obtain ⟨xs, n, _, _, hl, hlen, hf⟩ := DataW.trod_struct hs h
  rw [kit_cellsRt] at hl
  obtain ⟨c0, c1, rfl⟩ := tlist2 hl
  obtain ⟨x0, x1, rfl⟩ := tlist2 hlen
  have h0 : DataW.trod enc Try.prog W 0 (fun _ => true) true n 3 [c0] = some x0 := by simpa [Value.cells, kit_cellsInt] using hf 0 _ rfl
  have h1 : DataW.trod enc Try.prog W 0 (fun _ => true) true n 4 [c1] = some x1 := by simpa [Value.cells, kit_cellsBool] using hf 1 _ rfl
  obtain ⟨m0, e0, _, w0⟩ := DataW.trod_int Try.underlying3 h0
  obtain rfl : c0 = .int .i64 m0 := by simpa using e0
  obtain ⟨m1, e1, _⟩ := DataW.trod_bool Try.underlying4 h1
  obtain rfl : c1 = .bool m1 := by simpa using e1
  exact ⟨⟨m0, m1⟩, rfl⟩
set_option maxRecDepth 100000 in
theorem lk_trod {fuel : Nat} {cs : List Value} {y : DataW H × List MemPlace} (h : DataW.trod enc Try.prog W 0 (fun _ => true) true fuel 68 cs = some y) : ∃ l : Lk, cs = lkC l := by
  have hs := Try.underlying68
  obtain ⟨xs, n, _, _, hl, hlen, hf⟩ := DataW.trod_struct hs h
  rw [kit_cellsLk] at hl
  obtain ⟨c0, c1, c2, c3, c4, rfl⟩ := tlist5 hl
  obtain ⟨x0, x1, x2, x3, x4, rfl⟩ := tlist5 hlen
  have h0 : DataW.trod enc Try.prog W 0 (fun _ => true) true n 3 [c0] = some x0 := by simpa [Value.cells, kit_cellsInt] using hf 0 _ rfl
  have h1 : DataW.trod enc Try.prog W 0 (fun _ => true) true n 3 [c1] = some x1 := by simpa [Value.cells, kit_cellsInt] using hf 1 _ rfl
  have h2 : DataW.trod enc Try.prog W 0 (fun _ => true) true n 3 [c2] = some x2 := by simpa [Value.cells, kit_cellsInt] using hf 2 _ rfl
  have h3 : DataW.trod enc Try.prog W 0 (fun _ => true) true n 3 [c3] = some x3 := by simpa [Value.cells, kit_cellsInt] using hf 3 _ rfl
  have h4 : DataW.trod enc Try.prog W 0 (fun _ => true) true n 3 [c4] = some x4 := by simpa [Value.cells, kit_cellsInt] using hf 4 _ rfl
  obtain ⟨m0, e0, _, w0⟩ := DataW.trod_int Try.underlying3 h0
  obtain rfl : c0 = .int .i64 m0 := by simpa using e0
  obtain ⟨m1, e1, _, w1⟩ := DataW.trod_int Try.underlying3 h1
  obtain rfl : c1 = .int .i64 m1 := by simpa using e1
  obtain ⟨m2, e2, _, w2⟩ := DataW.trod_int Try.underlying3 h2
  obtain rfl : c2 = .int .i64 m2 := by simpa using e2
  obtain ⟨m3, e3, _, w3⟩ := DataW.trod_int Try.underlying3 h3
  obtain rfl : c3 = .int .i64 m3 := by simpa using e3
  obtain ⟨m4, e4, _, w4⟩ := DataW.trod_int Try.underlying3 h4
  obtain rfl : c4 = .int .i64 m4 := by simpa using e4
  exact ⟨⟨m0, m1, m2, m3, m4⟩, rfl⟩
set_option maxRecDepth 100000 in
/-- A slice of structs of k cells. -/
theorem rows_trod {α : Type} (f : α → List Value) (k : Nat) (hk : 0 < k) (hf : ∀ x, (f x).length = k) (x0 : α) {E T : TypeId} (hT : Try.prog.underlying T = some (.slice E)) (hc : Try.prog.cellsOf E = k)
    (hE : ∀ {fuel : Nat} {cs : List Value} {y : DataW H × List MemPlace}, DataW.trod enc Try.prog W 0 (fun _ => true) true fuel E cs = some y → ∃ r : α, cs = f r)
    {fuel : Nat} {c0 : Value} {y : DataW H × List MemPlace} (h : DataW.trod enc Try.prog W 0 (fun _ => true) true fuel T [c0] = some y) :
    ∃ (l : List α) (p : Option Addr) (c : Nat), c0 = .slice p l.length c ∧ RdF W (· < W.heap.size) (.slice p l.length c) l.length (l.flatMap f) ∧ l.length ≤ c ∧ c ≤ 9223372036854775807 := by
  rcases DataW.trod_slice hT h with ⟨hcs, _⟩ | ⟨a, len, cap, elems, rest, n, _, hcs, _, _, hl, hm, hlen, hel, _, _⟩
  · obtain rfl : c0 = .slice none 0 0 := by simpa using hcs
    exact ⟨[], none, 0, rfl, rdf_nil _ _ _ _, Nat.le_refl _, by omega⟩
  · obtain rfl : c0 = .slice (some a) len cap := by simpa using hcs
    rw [hc] at hel
    have each : ∀ i, ∃ l : α, i < len → ∀ j, j < k → W.cell? ((a.add (i * k)).add j) = (f l)[j]? := by
      intro i
      by_cases hi : i < len
      · have h1 := hel i hi
        rw [List.getElem?_eq_getElem (by omega)] at h1
        obtain ⟨cs, hc1, hc2⟩ := Option.bind_eq_some_iff.1 h1
        obtain ⟨l, rfl⟩ := hE hc2
        obtain ⟨_, _, hc3⟩ := World.cells?_some hc1
        exact ⟨l, fun _ j hj => hc3 j hj⟩
      · exact ⟨x0, fun h => absurd h hi⟩
    obtain ⟨g, hfn⟩ := Classical.axiomOfChoice each
    have hll : ((List.range len).map g).length = len := by simp
    refine ⟨(List.range len).map g, some a, cap, by rw [hll], ?_, by rw [hll]; exact hl, hm⟩
    rw [hll]
    refine ⟨some a, cap, rfl, fun hne => ?_⟩
    have hpos : 0 < len := by
      rcases Nat.eq_zero_or_pos len with h0 | h0
      · subst h0
        exact absurd rfl hne
      · exact h0
    obtain ⟨b, off, spot⟩ := a
    have hget : ∀ i, i < len → ∀ j, j < k → ∃ u, (f (g i))[j]? = some u := fun i _ j hj => ⟨_, List.getElem?_eq_getElem (by rw [hf]; exact hj)⟩
    have hspot : spot = none := by
      obtain ⟨u, hu⟩ := hget 0 hpos 0 hk
      have := (hfn 0 hpos 0 hk).trans hu
      simpa [Addr.add] using World.cell?_spot this
    subst hspot
    have hcell : ∀ i j, i < len → j < k → W.cell? ⟨b, off + (i * k + j), none⟩ = (f (g i))[j]? := by
      intro i j hi hj
      have := hfn i hi j hj
      rw [Go.WideShapes.add_plain, Go.WideShapes.add_plain] at this
      rw [← this]
      congr 2
      omega
    refine ⟨b, off, rfl, ?_, fun j x hj => ?_⟩
    · obtain ⟨u, hu⟩ := hget 0 hpos 0 hk
      exact World.block_lt_of_cell? W ⟨b, off + (0 * k + 0), none⟩ ((hcell 0 0 hpos hk).trans hu)
    have hj2 : j < len * k := by
      have := (List.getElem?_eq_some_iff.1 hj).1
      rw [flat_len f k hf, hll] at this
      exact this
    have hm1 : j / k < len := (Nat.div_lt_iff_lt_mul hk).2 hj2
    have hm2 : j % k < k := Nat.mod_lt _ hk
    have hd : j = j / k * k + j % k := by rw [Nat.mul_comm]; exact (Nat.div_add_mod j k).symm
    have hat : ((List.range len).map g)[j / k]? = some (g (j / k)) := by
      rw [List.getElem?_map, List.getElem?_range hm1]; rfl
    rw [hd] at hj ⊢
    rw [flat_at f k hf _ _ _ _ hat hm2] at hj
    rw [hcell _ _ hm1 hm2]
    exact hj
set_option maxRecDepth 100000 in
theorem opn_topology (hval : Value.okWide Try.prog W .any base 26 v) (h : DataW.Trod enc Try.prog W 0 (fun _ => true) true 26 v d ps) :
    ∃ T : Tg, v = .agg #[.slice T.pR T.R.length T.cR, .slice T.pL T.L.length T.cL] ∧ TgOk W (· < W.heap.size) T := by
  have hs := Try.underlying26
  obtain ⟨cs, rfl, hsz⟩ := okWide_struct hs hval
  obtain ⟨fuel, hf⟩ := h
  obtain ⟨xs, n, _, _, hl, hlen, hf⟩ := DataW.trod_struct hs hf
  have h2 : cs.toList.length = 2 := hsz.trans (by kernel_rfl)
  obtain ⟨c0, c1, hct⟩ := tlist2 h2
  obtain ⟨x0, x1, rfl⟩ := tlist2 hlen
  have h0 : DataW.trod enc Try.prog W 0 (fun _ => true) true n 23 [c0] = some x0 := by simpa [Value.cells, kit_cellsRts, hct] using hf 0 _ rfl
  have h1 : DataW.trod enc Try.prog W 0 (fun _ => true) true n 24 [c1] = some x1 := by simpa [Value.cells, kit_cellsLks, hct] using hf 1 _ rfl
  obtain ⟨R, pR, cR, rfl, hR, hr1, hr2⟩ := rows_trod rtC 2 (by decide) (fun _ => rfl) ⟨0, false⟩ Try.underlying23 kit_cellsRt rt_trod h0
  obtain ⟨L, pL, cL, rfl, hL, hl1, hl2⟩ := rows_trod lkC 5 (by decide) (fun _ => rfl) ⟨0, 0, 0, 0, 0⟩ Try.underlying24 kit_cellsLk lk_trod h1
  refine ⟨⟨R, L, pR, cR, pL, cL⟩, congrArg Value.agg (Array.ext' hct), hR, hL, ⟨hr1, hr2⟩, ⟨hl1, hl2⟩⟩
end
end Go.Proofs.Ytiencdgmnkphjaa

/- Rows of structs: parts of them, and append. -/
namespace Go.Proofs.Ytiencdgmnkphjaa
open Go.RowKit Bs
/-- A walk stops here. -/
theorem hold_on {p : Prop} (h : Hid p) : p := h.out
theorem flat_drop {α : Type} (f : α → List Value) (k : Nat) (hf : ∀ x, (f x).length = k) : ∀ (l : List α) (j : Nat), (l.drop j).flatMap f = (l.flatMap f).drop (j * k)
  | [], j => by simp
  | a :: t, 0 => by simp
  | a :: t, j + 1 => by
    rw [List.drop_succ_cons, flat_drop f k hf t j, List.flatMap_cons, Nat.add_mul, Nat.one_mul, Nat.add_comm, ← List.drop_drop, List.drop_append_of_le_length (by rw [hf]; exact Nat.le_refl _), ← hf a, List.drop_length, List.nil_append]
theorem flat_take {α : Type} (f : α → List Value) (k : Nat) (hf : ∀ x, (f x).length = k) : ∀ (l : List α) (j : Nat), (l.take j).flatMap f = (l.flatMap f).take (j * k)
  | [], j => by simp
  | a :: t, 0 => by simp
  | a :: t, j + 1 => by
    rw [List.take_succ_cons, List.flatMap_cons, flat_take f k hf t j, List.flatMap_cons, List.take_append, hf, List.take_of_length_le (l := f a) (by rw [hf, Nat.add_mul]; omega), Nat.add_mul, Nat.one_mul, Nat.add_sub_cancel]
theorem RdF.part {α : Type} {f : α → List Value} {k : Nat} (hf : ∀ x, (f x).length = k) {w : World} {q : Nat → Prop} {p : Option Addr} {c : Nat} {l : List α} (h : RdF w q (.slice p l.length c) l.length (l.flatMap f)) (j : Nat) (hj : j ≤ l.length) (c' : Nat) :
    RdF w q (.slice p j c') (l.take j).length ((l.take j).flatMap f) := by
  obtain ⟨p1, c1, e1, hx⟩ := h
  injection e1 with a1 a2 a3
  subst a1
  have hlen : (l.take j).length = j := by rw [List.length_take]; omega
  rw [hlen]
  refine ⟨p, c', rfl, fun hne => ?_⟩
  rw [flat_take f k hf] at hne ⊢
  obtain ⟨b, off, hp, hq, hc⟩ := hx (by intro e; rw [e] at hne; simp at hne)
  refine ⟨b, off, hp, hq, fun i x hi => hc i x ?_⟩
  rw [List.getElem?_take] at hi
  split at hi
  · exact hi
  · cases hi
theorem RdF.rest {α : Type} {f : α → List Value} {k : Nat} (hf : ∀ x, (f x).length = k) {w : World} {q : Nat → Prop} {b off c : Nat} {l : List α} (h : RdF w q (.slice (some ⟨b, off, none⟩) l.length c) l.length (l.flatMap f)) (j : Nat) (c' : Nat) :
    RdF w q (.slice (some ⟨b, off + j * k, none⟩) (l.length - j) c') (l.drop j).length ((l.drop j).flatMap f) := by
  obtain ⟨p1, c1, e1, hx⟩ := h
  injection e1 with a1 a2 a3
  subst a1
  have hlen : (l.drop j).length = l.length - j := by rw [List.length_drop]
  rw [hlen]
  refine ⟨_, c', rfl, fun hne => ?_⟩
  rw [flat_drop f k hf] at hne ⊢
  obtain ⟨b1, off1, hp, hq, hc⟩ := hx (by intro e; rw [e] at hne; simp at hne)
  injection hp with hp
  injection hp with hb ho
  subst hb
  subst ho
  refine ⟨b, off + j * k, rfl, hq, fun i x hi => ?_⟩
  rw [List.getElem?_drop] at hi
  rw [Nat.add_assoc]
  exact hc _ x hi
theorem rdf_news {w : World} {q : Nat → Prop} {ad : Addr} {n c m : Nat} {xs : List Value} (hR : RdF w q (.slice (some ad) n c) m xs) : ∀ j u, xs[j]? = some u → w.cell? (ad.add j) = some u := by
  intro j u hj
  obtain ⟨p1, c1, e1, hx⟩ := hR
  injection e1 with a1 a2 a3
  subst a1
  obtain ⟨b, off, hp, hq, hc⟩ := hx (by intro e; rw [e] at hj; simp at hj)
  injection hp with hp
  subst hp
  rw [add_plain]
  exact hc j u hj
theorem rdf_one {w : World} {b off n : Nat} {xs : List Value} (q : Nat → Prop) (hq : q b) (h : ∀ j u, xs[j]? = some u → w.cell? ((⟨b, off, none⟩ : Addr).add j) = some u) (c : Nat) : RdF w q (.slice (some ⟨b, off, none⟩) n c) n xs :=
  ⟨_, c, rfl, fun _ => ⟨b, off, rfl, hq, fun i x hi => by have := h i x hi; rw [add_plain] at this; exact this⟩⟩
theorem wpList_append_f {α : Type} (f : α → List Value) (size bytes : Nat) (hsz : 0 < size) (hf : ∀ x, (f x).length = size) (hone : ∀ x, ∀ u ∈ f x, u.oneCell' = true) (e t : TypeId) (i : TypeInfo) (z : Value)
    (ht : Try.prog.underlying t = some (.slice e)) (hi : Try.prog.info? e = some i) (hz : i.zero = some z) (hsize : i.size = size) (hby : i.bytes = bytes) (hzs : z.cells.size = size) (hb40 : bytes ≤ 1000)
    {w : World} {ops : Array Oper} {rest : List Oper} {o : Oper} {a : Act} {Q : Exit → Act → World → Prop} (hgd : o.guard = none) (s x : Operand)
    (ho : o.op = .call { callee := .builtin .append, args := #[s, x], argTypes := #[t, t] }) (base : Nat) (v : Value) (l : List α) (n : Nat) (hn : n = l.length) (hs : a.eval s = v) (hown : w.ownsRow base e size v n (l.flatMap f))
    (p : Option Addr) (k c : Nat) (r : List α) (hx : a.eval x = .slice p k c) (hk : k = r.length) (hn0 : p = none → c = 0) (q : Nat → Prop) (hR : RdF w q (.slice p k c) r.length (r.flatMap f)) (hkc : k ≤ c) (h63 : n + r.length ≤ 100000) (hbase : base ≤ w.heap.size)
    (h : ∀ v' w', w'.ownsRow base e size v' (l ++ r).length ((l ++ r).flatMap f) → w.grownBy w' v.ownBlock → wpList Try.prog ops Q rest (a.put o.dst v') w') : wpList Try.prog ops Q (o :: rest) a w := by
  subst hn
  cases p with
  | none =>
    obtain rfl := hn0 rfl
    have hr : r.length = 0 := by omega
    obtain rfl := List.eq_nil_of_length_eq_zero hr
    obtain rfl : k = 0 := hk
    refine wpList_append_own_none hgd s x t ho base e i size ht hi v l.length (l.flatMap f) hs hown hx ?_
    refine h v w ?_ (grown_refl _ _)
    rw [List.append_nil]; exact hown
  | some ad =>
    have hb2 : (l.length + k) * bytes ≤ 140737488355328 := Nat.le_trans (Nat.mul_le_mul (show l.length + k ≤ 100000 by omega) hb40) (by decide)
    refine wpList_append_own w hgd s x t ho base e i z size bytes ht hi hz hsize hby hzs hsz v l.length (l.flatMap f) hs hown ad k c (r.flatMap f) hx (by rw [flat_len f size hf, hk]) (rdf_news hR) ?_ (by unfold maxLen; omega) hb2 hbase ?_
    · intro u hu
      obtain ⟨y, _, hy⟩ := List.mem_flatMap.1 hu
      exact hone y u hy
    · intro v' w' h1 h2 _
      refine h v' w' ?_ h2
      rw [List.length_append, List.flatMap_append, ← hk]; exact h1
theorem own_apartF {w w1 : World} {base base2 size size2 : Nat} {e e2 : TypeId} {v v2 : Value} {n m : Nat} {xs ys : List Value} (h : w.ownsRow base e size v n xs) (hv : w.ownsRow base2 e2 size2 v2 m ys) (hg : ∀ g, v.ownBlock = some g → g < base2) (k : w.grownBy w1 v2.ownBlock) : w1.ownsRow base e size v n xs := by
  refine h.kept k ?_
  cases hb : v.ownBlock with
  | none => exact .inl rfl
  | some g =>
    refine .inr fun e => ?_
    have := (hv.lt g e.symm).1
    have := hg g hb
    omega
theorem old_grow {w w1 : World} {base2 size2 : Nat} {e2 : TypeId} {v2 : Value} {m : Nat} {ys : List Value} {W : World} (g : W.grownBy w none) (hv : w.ownsRow base2 e2 size2 v2 m ys) (hb : W.heap.size ≤ base2) (k : w.grownBy w1 v2.ownBlock) : W.grownBy w1 none :=
  grown_any g k (fun b hlt e => by have := (hv.lt b e.symm).1; omega)
theorem lk_one (x : Lk) : ∀ u ∈ lkC x, u.oneCell' = true := by
  intro u hu
  simp [lkC] at hu
  rcases hu with rfl | rfl | rfl | rfl | rfl <;> rfl
theorem rt_one (x : Rt) : ∀ u ∈ rtC x, u.oneCell' = true := by
  intro u hu
  simp [rtC] at hu
  rcases hu with rfl | rfl <;> rfl
end Go.Proofs.Ytiencdgmnkphjaa

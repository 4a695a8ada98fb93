/- Parts of the proof, packed: ToComp2, ShCfM, ShCf, ShDst, ShCst, ShNxt, ToApM, ShCto, ShPass. -/
import Derived.Test.YtahafijpcmphaaaGreatQc6
import Derived.Test.YtahafijpcmphaaaGreatQc5
import Derived.Deep.LoopGhost
import Derived.Test.YtahafijpcmphaaaGreatQc4
import Derived.BigQuiet
/- topology: Components: a component is appended; the beginning; a valid topology. -/
namespace Go.Proofs.YtahafijpcmphaaaGreat
set_option maxRecDepth 100000
open Go.RowKit Bs
theorem unk_not {R : List Rt} {L : List Lk} (h : L.any (unk R) = false) : ∀ l ∈ L, hasR R l.a = true ∧ hasR R l.b = true := by
 intro l hl
 have := List.any_eq_false.1 h l hl
 unfold unk at this
 simpa using this
end Go.Proofs.YtahafijpcmphaaaGreat

/- shortest.costsFrom: what its loops keep. -/
namespace Go.Proofs.YtahafijpcmphaaaGreat
set_option maxRecDepth 100000
open Go.RowKit Go.Maps Bs
def ids (R : List Rt) : List Int := R.map (·.id)
theorem ids_has {R : List Rt} {x : Int} : x ∈ ids R ↔ hasR R x = true := by
 unfold ids hasR
 rw [List.any_eq_true, List.mem_map]
 constructor
 ·rintro ⟨r, hr, e⟩; exact ⟨r, hr, decide_eq_true e⟩
 ·rintro ⟨r, hr, e⟩; exact ⟨r, hr, of_decide_eq_true e⟩
structure GOk (R : List Rt) (L : List Lk) : Prop where
 pos : Pos L
 ends : Ends L (ids R)
 le : ∀ l ∈ L, l.ca ≤ 1000 ∧ l.cb ≤ 1000
 len : (ids R).length ≤ 24 ∧ L.length ≤ 60
 rng : ∀ x ∈ ids R, 1 ≤ x ∧ x ≤ 99
theorem okT_g {R : List Rt} {L : List Lk} (h : okT R L = true) : GOk R L := by
 have ho := okT_all h
 have hn : ∀ l ∈ L, (1 ≤ l.ca ∧ l.ca ≤ 1000) ∧ (1 ≤ l.cb ∧ l.cb ≤ 1000) := fun l hl => by
  have := List.any_eq_false.1 ho.nm l hl
  unfold wrNum at this
  simp only [Bool.not_eq_true, Bool.not_eq_false', decide_eq_true_eq] at this
  exact ⟨this.1, this.2.1⟩
 have hu := unk_not ho.un
 refine ⟨fun l hl => ⟨(hn l hl).1.1, (hn l hl).2.1⟩, fun l hl => ⟨ids_has.2 (hu l hl).1, ids_has.2 (hu l hl).2⟩, fun l hl => ⟨(hn l hl).1.2, (hn l hl).2.2⟩, ⟨by unfold ids; rw [List.length_map]; exact ho.l1, ho.l2⟩, fun x hx => hasR_range ho.id (ids_has.1 hx)⟩
theorem GOk.edg {R : List Rt} {L : List Lk} (h : GOk R L) {u v c : Int} (e : edg L u v c) : (1 ≤ c ∧ c ≤ 1000) ∧ (1 ≤ u ∧ u ≤ 99) ∧ 1 ≤ v ∧ v ≤ 99 := by
 refine ⟨⟨h.pos.edg e, ?_⟩, h.rng u (h.ends.edg e).1, h.rng v (h.ends.edg e).2⟩
 obtain ⟨l, hl, ⟨-, -, rfl⟩ | ⟨-, -, rfl⟩⟩ := e
 ·exact (h.le l hl).1
 ·exact (h.le l hl).2
theorem rlx_none {r dr : Int} {o : List Int} {f : Int → Option Int} {n : Int × Int} (hr : f r = some dr) (hn : f n.1 = none) : rlxD r (o, f) n = (o ++ [n.1], putF f n.1 (dr + n.2)) := by
 unfold rlxD
 simp only
 rw [hn, hr]
 rfl
theorem rlx_lt {r dr x : Int} {o : List Int} {f : Int → Option Int} {n : Int × Int} (hr : f r = some dr) (hn : f n.1 = some x) (hlt : dr + n.2 < x) : rlxD r (o, f) n = (o, putF f n.1 (dr + n.2)) := by
 unfold rlxD
 simp only
 rw [hn, hr]
 simp only [Option.getD_some]
 rw [if_pos hlt]
 rfl
theorem rlx_ge {r dr x : Int} {o : List Int} {f : Int → Option Int} {n : Int × Int} (hr : f r = some dr) (hn : f n.1 = some x) (hlt : ¬ dr + n.2 < x) : rlxD r (o, f) n = (o, f) := by
 unfold rlxD
 simp only
 rw [hn, hr]
 simp only [Option.getD_some]
 rw [if_neg hlt]
def Bd (f : Int → Option Int) (m : Int) : Prop := ∀ v d, f v = some d → 0 ≤ d ∧ d ≤ m
theorem Bd.put {f : Int → Option Int} {m x d : Int} (h : Bd f m) (h0 : 0 ≤ d) (h1 : d ≤ m) : Bd (putF f x d) m := fun v e hv => by
 by_cases e1 : v = x
 ·subst e1
  rw [putF_same] at hv
  have := Option.some.inj hv
  omega
 ·rw [putF_other f x d e1] at hv
  exact h v e hv
theorem Bd.mono {f : Int → Option Int} {m n : Int} (h : Bd f m) (hn : m ≤ n) : Bd f n := fun v d hv => by
 have := h v d hv
 omega
structure CostsOf (R : List Rt) (L : List Lk) (s : Int) (f : Int → Option Int) : Prop where
 yes : hasV R L s = true → ∀ v d, f v = some d ↔ IsD L s v d
 no : hasV R L s = false → ∀ v, f v = none
 bd : ∀ v d, f v = some d → (1 ≤ v ∧ v ≤ 99) ∧ 0 ≤ d ∧ d ≤ 100000
def CV (w : World) (q : Nat → Prop) (v : Value) (f : Int → Option Int) (ok : Bool) : Prop :=
 (ok = false ∧ v = .map none ∧ ∀ x, f x = none) ∨ (ok = true ∧ ∃ b n, v = .map (some b) ∧ q b ∧ n ≤ 1000000 ∧ OMp w b n f)
theorem CV.grown {w w' : World} {q : Nat → Prop} {v : Value} {f : Int → Option Int} {ok : Bool} {r : Option Nat} (h : CV w q v f ok) (g : w.grownBy w' r) (hr : ∀ b, q b → some b ≠ r) : CV w' q v f ok := by
 rcases h with h | ⟨e0, b, n, e, hq, hn, h⟩
 ·exact .inl h
 ·exact .inr ⟨e0, b, n, e, hq, hn, h.kept g (hr b hq)⟩
theorem CV.keep {w w' : World} {q : Nat → Prop} {v : Value} {f : Int → Option Int} {ok : Bool} (h : CV w q v f ok) (g : w.grownBy w' none) : CV w' q v f ok := h.grown g (fun _ _ => by simp)
theorem CV.mono {w : World} {q q' : Nat → Prop} {v : Value} {f : Int → Option Int} {ok : Bool} (h : CV w q v f ok) (hq : ∀ b, q b → b < w.heap.size → q' b) : CV w q' v f ok := by
 rcases h with h | ⟨e0, b, n, e, h1, hn, h⟩
 ·exact .inl h
 ·exact .inr ⟨e0, b, n, e, hq b h1 h.lt, hn, h⟩
theorem CV.look {w : World} {q : Nat → Prop} {v : Value} {f : Int → Option Int} {ok : Bool} (h : CV w q v f ok) {x : Int} (hx : I64 x) :
  (Instr.lookup 114 v (.int .i64 x) false).run Tryz.prog w = .ok (.int .i64 ((f x).getD 0)) w ∧ (Instr.lookup 114 v (.int .i64 x) true).run Tryz.prog w = .ok (.tuple #[.int .i64 ((f x).getD 0), .bool (f x).isSome]) w := by
 rcases h with ⟨-, h⟩ | ⟨-, b, n, e, hq, hn, h⟩
 ·exact MV.look (q := q) (.inl h) hx
 ·exact MV.look (.inr ⟨b, n, e, hq, hn, h⟩) hx
theorem look_none (w : World) (x : Int) :
  (Instr.lookup 114 (.map none) (.int .i64 x) false).run Tryz.prog w = .ok (.int .i64 0) w ∧ (Instr.lookup 114 (.map none) (.int .i64 x) true).run Tryz.prog w = .ok (.tuple #[.int .i64 0, .bool false]) w := by
 have hc : ∀ e, (Instr.checkKey e 10000 3 (.int .i64 x)).run Tryz.prog w = .ok () w := fun e => Go.MapKept.run_checkKey (k := .int .i64 x) Tryz.underlying3 (by trivial) e 9999
 have hf : (Instr.findKey 3 (.int .i64 x) []).run Tryz.prog w = .ok none w := Go.MapKept.run_findKey Tryz.underlying3 rfl
 constructor
 ·unfold Instr.lookup
  simp [run_underlying Tryz.underlying114, hc, hf, zeroZ w, Result.andThen]
 ·unfold Instr.lookup
  simp [run_underlying Tryz.underlying114, hc, hf, zeroZ w, Result.andThen]
structure CQ (w : World) (G Bm : Nat) (T : Tg) (o : List Int) (f : Int → Option Int) (vo : Value) (N : Nat) (wr : World) : Prop where
 gb : wr.heap[G]? = some (.cells #[.slice T.pR T.R.length T.cR, .slice T.pL T.L.length T.cL] 45 (0, 0))
 t : TgOk wr (· < Bm) T
 m : OMp wr Bm N f
 o : wr.ownsRow (Bm + 1) 3 1 vo o.length (o.map tv)
 gr : w.grownBy wr none
 lt : w.heap.size ≤ G ∧ G < Bm
theorem CQ.size {w wr : World} {G Bm N : Nat} {T : Tg} {o : List Int} {f : Int → Option Int} {vo : Value} (h : CQ w G Bm T o f vo N wr) : Bm < wr.heap.size := h.m.lt
theorem CQ.row {w wr w' : World} {G Bm N : Nat} {T : Tg} {o o' : List Int} {f : Int → Option Int} {vo vo' : Value} (h : CQ w G Bm T o f vo N wr) (g : wr.grownBy w' vo.ownBlock) (ho : w'.ownsRow (Bm + 1) 3 1 vo' o'.length (o'.map tv)) : CQ w G Bm T o' f vo' N w' := by
 have key : ∀ b, b ≤ Bm → some b ≠ vo.ownBlock := fun b hb e => by
  have := (h.o.lt b e.symm).1
  omega
 have hl := h.lt
 exact ⟨kept_row h.gb g (key G (by omega)), h.t.grown g (fun b hb => key b (by omega)), h.m.kept g (key Bm (Nat.le_refl _)), ho, grown_any h.gr g (fun b hb => key b (by omega)), h.lt⟩
theorem CQ.keep {w wr w' : World} {G Bm N : Nat} {T : Tg} {o : List Int} {f : Int → Option Int} {vo : Value} (h : CQ w G Bm T o f vo N wr) (g : wr.grownBy w' none) : CQ w G Bm T o f vo N w' :=
 h.row (grown_none g _) (h.o.kept g (by cases hv : vo.ownBlock <;> simp))
theorem CQ.put {w wr w' : World} {G Bm N N' : Nat} {T : Tg} {o : List Int} {f f' : Int → Option Int} {vo : Value} (h : CQ w G Bm T o f vo N wr) (g : wr.grownBy w' (some Bm)) (hm : OMp w' Bm N' f') : CQ w G Bm T o f' vo N' w' := by
 have hl := h.lt
 have key : ∀ b, b < Bm → some b ≠ some Bm := fun b hb e => by have := Option.some.inj e; omega
 exact ⟨kept_row h.gb g (key G hl.2), h.t.grown g (fun b hb => key b hb), hm, h.o.kept g (Or.inr (fun e => by have := (h.o.lt Bm e).1; omega)), grown_any h.gr g (fun b hb => key b (by omega)), h.lt⟩
def Apart (vo : Value) (h1 h2 : Nat) : Prop := ∀ g, vo.ownBlock = some g → g < h1 ∨ h2 ≤ g
structure CN (w : World) (G Bm : Nat) (T : Tg) (o : List Int) (f : Int → Option Int) (vo : Value) (N : Nat) (p : Option Addr) (c : Nat) (M : List (Int × Int)) (h1 h2 : Nat) (wr : World) : Prop where
 k : CQ w G Bm T o f vo N wr
 n : RdF wr (fun b => h1 ≤ b ∧ b < h2) (.slice p M.length c) M.length (M.flatMap dsC)
 ap : Apart vo h1 h2
 lt : Bm < h1 ∧ h1 ≤ h2 ∧ h2 ≤ wr.heap.size
theorem CN.keep {w wr w' : World} {G Bm N : Nat} {T : Tg} {o : List Int} {f : Int → Option Int} {vo : Value} {p : Option Addr} {c h1 h2 : Nat} {M : List (Int × Int)} (h : CN w G Bm T o f vo N p c M h1 h2 wr) (g : wr.grownBy w' none) : CN w G Bm T o f vo N p c M h1 h2 w' :=
 ⟨h.k.keep g, h.n.keep g, h.ap, by have := h.lt; have := g.size; omega⟩
theorem CN.put {w wr w' : World} {G Bm N N' : Nat} {T : Tg} {o : List Int} {f f' : Int → Option Int} {vo : Value} {p : Option Addr} {c h1 h2 : Nat} {M : List (Int × Int)} (h : CN w G Bm T o f vo N p c M h1 h2 wr) (g : wr.grownBy w' (some Bm)) (hm : OMp w' Bm N' f') : CN w G Bm T o f' vo N' p c M h1 h2 w' :=
 ⟨h.k.put g hm, h.n.grown g (fun b hb e => by have := Option.some.inj e; have := h.lt; omega), h.ap, by have := h.lt; have := g.size; omega⟩
theorem CN.more {w wr w1 : World} {G Bm N gq capq n : Nat} {T : Tg} {o : List Int} {f : Int → Option Int} {vo : Value} {p : Option Addr} {c h1 h2 : Nat} {M : List (Int × Int)} {ob : Obj} {x : Int} (h : CN w G Bm T o f vo N p c M h1 h2 wr) (hn : n = o.length + 1)
  (hown : w1.ownsRow (Bm + 1) 3 1 (.slice (some ⟨gq, 0, none⟩) n capq) n (o.map tv ++ [.int .i64 x])) (hg : (wr.alloc ob).grownBy w1 vo.ownBlock) (hat : vo.ownBlock = some gq ∨ wr.heap.size ≤ gq) :
  CN w G Bm T (o ++ [x]) f (.slice (some ⟨gq, 0, none⟩) n capq) N p c M h1 h2 w1 ∧ (∀ b o', vo.ownBlock ≠ some b → wr.heap[b]? = some o' → w1.heap[b]? = some o') := by
 have hg2 := grown_trans (World.grownBy_alloc wr ob vo.ownBlock) hg
 subst hn
 refine ⟨⟨h.k.row hg2 (by rw [List.length_append, List.map_append]; exact hown), h.n.grown hg2 (fun b hb e => by have := h.ap b e.symm; omega), fun g hgq => ?_, by have := h.lt; have := hg2.size; omega⟩, fun b o' hb he => kept_row he hg2 (fun e => hb e.symm)⟩
 obtain rfl : gq = g := Option.some.inj hgq
 rcases hat with h3 | h3
 ·exact h.ap gq h3
 ·have := h.lt
  omega
theorem dsn_cells {w : World} {q : Nat → Prop} {p : Option Addr} {n c : Nat} {M : List (Int × Int)} (h : RdF w q (.slice p n c) M.length (M.flatMap dsC)) (hn : 0 < M.length) :
  n = M.length ∧ ∃ b off, p = some ⟨b, off, none⟩ ∧ q b ∧ ∀ i x, M[i]? = some x → w.cell? ⟨b, off + i * 2, none⟩ = some (.int .i64 x.1) ∧ w.cell? ⟨b, off + i * 2 + 1, none⟩ = some (.int .i64 x.2) := by
 obtain ⟨h0, b, off, hp, hq, hc⟩ := RdF.cells (f := dsC) (k := 2) (fun _ => rfl) (by decide) h hn
 exact ⟨h0, b, off, hp, hq, fun i x hi => ⟨hc i x hi 0 _ rfl, hc i x hi 1 _ rfl⟩⟩
end Go.Proofs.YtahafijpcmphaaaGreat

/- shortest.costsFrom. -/
namespace Go.Proofs.YtahafijpcmphaaaGreat
set_option maxRecDepth 100000
open Go.RowKit Go.Maps Bs
def CfPost (R : List Rt) (L : List Lk) (s : Int) (w : World) (e : Ending) (w' : World) : Prop := ∃ f v, e = .returned v ∧ CV w' (w.heap.size ≤ ·) v f (hasV R L s) ∧ CostsOf R L s f ∧ w.grownBy w' none
set_option maxHeartbeats 12800000 in
theorem tcf_any (T : Tg) (s : Int) (q : Nat → Prop) (w : World) (hT : TgOk w q T) (h1 : T.R.length ≤ 1000) (h2 : T.L.length ≤ 1000) :
  Calls Tryz.prog 120 #[.agg #[.slice T.pR T.R.length T.cR, .slice T.pL T.L.length T.cL], .int .i64 s] w fun e w' => CfPost T.R T.L s w e w' := by
 obtain ⟨i0, hi, hz0, hz1, hz2⟩ := info_parts info_int
 obtain ⟨R, L, pR, cR, pL, cL⟩ := T
 simp only at h1 h2 ⊢
 obtain ⟨k1, k2⟩ := tone_box w #[.slice pR R.length cR, .slice pL L.length cL] 45
 have HB := Lib.hid (And.intro k1 (And.intro k2 (hT.old.keep k2)))
 clear k1 k2 hT
 obtain ⟨c0, c1⟩ := row_cells HB.out.1
 have hmm := fun t w => run_makeMap (P := Tryz.prog) t w
 obtain ⟨z, hz⟩ : ∃ z, hasV R L s = z := ⟨_, rfl⟩
 have HZ := Lib.hid hz
 clear hz
 go_enter Tryz.func120, Tryz.ntmps120
 go_wp2_with fail
 refine (thas_any ⟨R, L, pR, cR, pL, cL⟩ s _ _ HB.out.2.2 (by simp only; omega)).mono ?_
 simp only
 rw [HZ.out]
 rintro e w1 ⟨rfl, g1⟩
 have HG1 := Lib.hid g1
 clear g1 c0 c1
 cases z with
 | false =>
  go_wp2_with fail
  go_ret
  exact ⟨fun _ => none, _, rfl, Or.inl ⟨HZ.out, rfl, fun _ => rfl⟩, ⟨fun h => (by rw [HZ.out] at h; cases h), fun _ _ => rfl, fun v d (h : none = some d) => (by cases h)⟩, grown_trans HB.out.2.1 HG1.out⟩
 | true =>
  have hok : okT R L = true := by have := HZ.out; unfold hasV at this; simp only [Bool.and_eq_true] at this; exact this.1
  have hsR : s ∈ ids R := ids_has.2 (by have := HZ.out; unfold hasV at this; simp only [Bool.and_eq_true] at this; exact this.2)
  have HGO := Lib.hid (okT_g hok)
  have hs99 := HGO.out.rng s hsR
  have HS := Lib.hid (And.intro hsR hs99)
  obtain ⟨w3, hput, hm3, hg3⟩ := (OMp.made w1).put (x := s) (d := 0) (by omega) (by unfold I64; omega) (by unfold I64; omega)
  have g13 : w1.grownBy w3 none := grown_any (World.grownBy_alloc w1 (.map #[] 0) none) hg3 (fun b hb e => by have := Option.some.inj e; omega)
  obtain ⟨Bm, hBm⟩ : ∃ Bm, w1.heap.size = Bm := ⟨_, rfl⟩
  have e0 := kept_row HB.out.1 (grown_trans HG1.out g13) (by simp)
  have hlt3 : w.heap.size < Bm := by
   have := HB.out.1
   have h3 := (Array.getElem?_eq_some_iff.1 (kept_row this HG1.out (by simp))).1
   omega
  have hrow := World.ownsRow_lit (base := Bm + 1) (e := 3) (size := 1) w3 #[.int .i64 s] 1 (by have := hm3.lt; omega) (by decide) rfl
  have K0 : Hid (CQ w w.heap.size Bm ⟨R, L, pR, cR, pL, cL⟩ [s] (putF (fun _ => none) s 0) (.slice (some ⟨w3.heap.size, 0, none⟩) 1 1) 1 (w3.alloc (.cells #[.int .i64 s] 3))) := Lib.hid (by
   have ga := World.grownBy_alloc w3 (.cells #[.int .i64 s] 3) none
   refine ⟨kept_row e0 ga (by simp), ((((HB.out.2.2).keep HG1.out).keep g13).keep ga).mono (fun b hb => ?_), by rw [← hBm]; exact hm3.kept ga (by simp), hrow, grown_trans (grown_trans (grown_trans HB.out.2.1 HG1.out) g13) ga, Nat.le_refl _, hlt3⟩
   have : b < w.heap.size := hb
   omega)
  have D0 : Hid (DI L (ids R) s [s] (putF (fun _ => none) s 0)) := Lib.hid (DI.start L (ids R) s HS.out.1)
  have B0 : Hid (Bd (putF (fun _ => none) s 0) 0) := Lib.hid (Bd.put (fun v d h => by cases h) (by omega) (by omega))
  have hu0 : unkD (ids R) (putF (fun _ => none) s 0) ≤ 24 := by
   have h3 := List.length_filter_le (fun v => (putF (fun _ => none) s 0 v).isNone) (ids R)
   have := HGO.out.len.1
   unfold unkD
   omega
  have HU0 : Hid (2 * unkD (ids R) (putF (fun _ => none) s 0) + 1 ≤ 100) := Lib.hid (by omega)
  obtain ⟨va, hva⟩ : ∃ va, Value.slice (some ⟨w3.heap.size, 0, none⟩) 1 1 = va := ⟨_, rfl⟩
  clear hm3 hg3 g13 e0 hrow hs99 hsR hok hu0 hlt3
  rw [hBm] at hput
  go_upto_block 0 with fail
  rw [hva] at K0
  clear hva hput hmm hBm
  generalize w3.alloc _ = w4 at *
  go_wp2_with fail
  go_loopg [6] (2 * unkD (ids R) (putF (fun _ => none) s 0) + 1) (fun g vo wr => ∃ (o : List Int) (f : Int → Option Int) (N : Nat) (va : Value), va = vo ∧ g ≤ 100 ∧ N ≤ 1 + 2000 * (100 - g) ∧ Hid (2 * unkD (ids R) f + o.length = g) ∧ Hid (CQ w w.heap.size Bm ⟨R, L, pR, cR, pL, cL⟩ o f va N wr) ∧ Hid (DI L (ids R) s o f) ∧ Hid (Bd f (1000 * (100 - (g : Int)))))
  case atStart => exact ⟨_, _, _, _, rfl, HU0.out, by have := HU0.out; omega, Lib.hid rfl, K0, D0, Lib.hid (B0.out.mono (by have := HU0.out; omega))⟩
  case round =>
  obtain ⟨o, f, N, va, rfl, hg, hN, HM, K, D, HBd⟩ := hrel
  clear K0 D0 B0 HU0
  have hol : o.length ≤ 100 := by have := HM.out; omega
  have hoI : ∀ x ∈ o, 1 ≤ x ∧ x ≤ 99 := fun x hx => by
   obtain ⟨e, he⟩ := D.out.dm x hx
   exact HGO.out.rng x (D.out.wk x e he).2
  have HOI := Lib.hid hoI
  obtain ⟨po, co, rfl, hc1, hc2⟩ := own_shape K.out.o
  clear hoI
  have HMV : Hid (MV wr (fun _ => True) (.map (some Bm)) f) := Lib.hid (Or.inr ⟨Bm, N, rfl, trivial, by omega, K.out.m⟩)
  go_wp2_with fail
  refine (tnst_any o f _ po co _ _ wr (rd_of_own K.out.o) HMV.out (fun x hx => by have := HOI.out x hx; unfold I64; omega) (by omega)).mono ?_
  rintro e w5 ⟨rfl, ⟨hoe, rfl⟩ | ⟨i, hL, rfl⟩⟩
  ·have HOE := Lib.hid hoe
   clear hoe
   go_wp2_with fail
   go_ret
   refine ⟨f, _, rfl, Or.inr ⟨HZ.out, Bm, N, rfl, by have := K.out.lt; omega, by omega, K.out.m⟩, ⟨fun _ v d => ?_, fun h => (by rw [HZ.out] at h; cases h), fun v d h => ⟨HGO.out.rng v (D.out.wk v d h).2, (by have := HBd.out v d h; omega)⟩⟩, K.out.gr⟩
   have hD := D.out
   rw [HOE.out] at hD
   exact hD.done v d
  ·have HL := Lib.hid hL
   obtain ⟨r, hr, hmin⟩ := hL
   have hi' : i < o.length := (List.getElem?_eq_some_iff.1 hr).1
   obtain ⟨dr, hdr⟩ := D.out.dm r (List.mem_of_getElem? hr)
   have HJ : Hid (DJ L (ids R) s r dr [] (o.eraseIdx i) f) := Lib.hid (D.out.take hr hdr (fun x hx e he => by
    have := hmin x hx
    simp only at this
    rw [hdr, he] at this
    exact this))
   have hrb := HOI.out r (List.mem_of_getElem? hr)
   have hdb := HBd.out r dr hdr
   have HR := Lib.hid (And.intro hr hdr)
   obtain ⟨g0, cap, rfl⟩ : ∃ g0, ∃ cap : Nat, po = some ⟨g0, 0, none⟩ := by
    rcases Joins.ownsRow_forms K.out.o with ⟨e, e0⟩ | ⟨g1, cap, e⟩
    ·omega
    ·injection e with e1 e2 e3
     exact ⟨g1, cap, e1⟩
   have d0 : wr.cell? ⟨g0, i, none⟩ = some (.int .i64 r) := by
    rw [World.ownsRow.cellAt K.out.o i (by omega), List.getElem?_map, hr]
    rfl
   clear hr hdr hmin
   have hi2 : (i : Int) ≤ 100 := by omega
   have hi3 : (i : Int) < (o.length : Int) := by omega
   go_wp2_with fail
   refine (tdeli_any o g0 co (Bm + 1) i wr K.out.o hi' (by omega)).mono ?_
   rintro e w6 ⟨n1, hn1, rfl, hown6, hg6⟩
   have HN1 := Lib.hid hn1
   have K1 : Hid (CQ w w.heap.size Bm ⟨R, L, pR, cR, pL, cL⟩ (o.eraseIdx i) f (.slice (some ⟨g0, 0, none⟩) n1 co) N w6) := Lib.hid (K.out.row hg6 (by rw [← hn1]; exact hown6))
   have HM1 : Hid (2 * unkD (ids R) f + (o.eraseIdx i).length = gk - 1 ∧ 1 ≤ gk) := Lib.hid (by
    rw [List.length_eraseIdx, if_pos hi']
    have := HM.out
    omega)
   clear hown6 hg6 d0 hn1 hi' hol hc1 hc2 hi2 hi3
   obtain ⟨o1, ho1⟩ : ∃ o1, o.eraseIdx i = o1 := ⟨_, rfl⟩
   rw [ho1] at HN1 K1 HM1 HJ
   clear ho1
   obtain ⟨c0, c1⟩ := row_cells K1.out.gb
   go_wp2_with fail
   refine (tnearby_any L r pL cL _ w6 K1.out.t.l h2).mono ?_
   rintro e w7 ⟨vn, rfl, hown7, hg7⟩
   obtain ⟨pn, cn, rfl, hcn1, hcn2⟩ := own_shape hown7
   have hml := nbD_len r L
   obtain ⟨M, hM⟩ : ∃ M, nbD L r = M := ⟨_, rfl⟩
   have HMM := Lib.hid hM
   rw [hM] at hown7 hcn1 hml ⊢
   have C0 : Hid (CN w w.heap.size Bm ⟨R, L, pR, cR, pL, cL⟩ o1 f (.slice (some ⟨g0, 0, none⟩) n1 co) N pn cn M w6.heap.size w7.heap.size w7) := Lib.hid ⟨K1.out.keep hg7, rdf_of_own2 hown7, fun g hgg => Or.inl (K1.out.o.lt g hgg).2, by have := K1.out.size; have := hg7.size; omega⟩
   have B1 : Hid (Bd f (1000 * (100 - ((gk - 1 : Nat) : Int)) - 1000) ∧ dr ≤ 1000 * (100 - ((gk - 1 : Nat) : Int)) - 1000) := Lib.hid (by
    have h1 := HM1.out.2
    have h3 := hdb.2
    exact ⟨HBd.out.mono (by omega), by omega⟩)
   have HMl := Lib.hid hml
   have hm2 : M.length ≤ 2000 := by omega
   clear hM hown7 hg7 hml c0 c1 HBd
   obtain ⟨h7, hh7⟩ : ∃ h7, w6.heap.size = h7 := ⟨_, rfl⟩
   obtain ⟨h8, hh8⟩ : ∃ h8, w7.heap.size = h8 := ⟨_, rfl⟩
   rw [hh7, hh8] at C0
   clear hh7 hh8
   go_wp2_with fail
   go_loopw [6, 46] (fun vo a wq => ∃ (k N2 : Nat) (o2 : List Int) (f2 : Int → Option Int) (va : Value), va = vo ∧ k ≤ M.length ∧ a = .int .i64 (k : Int) ∧ N2 ≤ N + k ∧ Hid (CN w w.heap.size Bm ⟨R, L, pR, cR, pL, cL⟩ o2 f2 va N2 pn cn M h7 h8 wq) ∧ Hid (DJ L (ids R) s r dr (M.take k) o2 f2) ∧ Hid (Bd f2 (1000 * (100 - ((gk - 1 : Nat) : Int)))) ∧ Hid (2 * unkD (ids R) f2 + o2.length ≤ gk - 1)) (fun _ a _ => M.length - (RowKit.intOf a).toNat)
   case atStart => exact ⟨0, N, o1, f, _, rfl, Nat.zero_le _, rfl, Nat.le_refl _, C0, HJ, Lib.hid (B1.out.1.mono (by omega)), Lib.hid (Nat.le_of_eq HM1.out.1)⟩
   case round =>
   obtain ⟨k, N2, o2, f2, va, rfl, hk, rfl, hN2, C, J, B2, HU⟩ := hrel
   clear C0 HJ K1
   by_cases hlt : k < M.length
   ·obtain ⟨-, b, off, rfl, hq, hc⟩ := dsn_cells C.out.n (by omega)
    obtain ⟨y, hy⟩ : ∃ y, M[k]? = some y := ⟨_, List.getElem?_eq_getElem hlt⟩
    obtain ⟨a0, a1⟩ := hc k y hy
    have he : edg L r y.1 y.2 := nbD_mem.1 (by rw [HMM.out]; exact List.mem_of_getElem? hy)
    have HE := Lib.hid he
    obtain ⟨hy2, -, hy1⟩ := HGO.out.edg he
    obtain ⟨j1, j2⟩ := J.out.step HGO.out.pos HGO.out.ends he
    have htk : M.take (k + 1) = M.take k ++ [y] := by rw [List.take_add_one, hy]; rfl
    rw [← htk] at j1
    have HJ1 := Lib.hid (And.intro j1 j2)
    have gal := World.grownBy_alloc wr (.cells #[.int .i64 y.1, .int .i64 y.2] 131) none
    have hbx := heap_alloc_new wr (.cells #[.int .i64 y.1, .int .i64 y.2] 131)
    have HG := Lib.hid gal
    have HBX := Lib.hid hbx
    clear hc hy he htk j1 j2 gal hbx
    go_upto_region 13 with fail
    clear a0 a1
    generalize wr.alloc _ = wy at *
    have CY := Lib.hid (C.out.keep HG.out)
    obtain ⟨d0, d1⟩ := row_cells HBX.out
    have hb2 : (1 ≤ r ∧ r ≤ 99) ∧ (0 ≤ dr ∧ dr ≤ 100000) := ⟨hrb, hdb.1, by have := hdb.2; omega⟩
    have HD2 := Lib.hid (And.intro J.out.fr.1 hb2)
    obtain ⟨q1, q2⟩ := CY.out.k.m.look (x := y.1) (by unfold I64; omega)
    have q3 := (CY.out.k.m.look (x := r) (by unfold I64; omega)).1
    rw [HD2.out.1] at q3
    simp only [Option.getD_some] at q3
    have hapb : Hid (∀ bb, wr.heap.size ≤ bb → va.ownBlock ≠ some bb) := Lib.hid (fun bb hbb e => by have := (C.out.k.o.lt bb e).2; omega)
    cases hf : f2 y.1 with
    | none =>
     rw [hf] at q1 q2
     simp only [Option.getD_none, Option.isSome_none] at q1 q2
     have HF := Lib.hid hf
     clear hf
     have hown := CY.out.k.o
     have hsz : Bm + 1 ≤ wy.heap.size := CY.out.k.m.lt
     have hol2 : o2.length ≤ 100 := by have := HU.out; omega
     go_wp2_with (at_builtin; refine hold_on ?_)
     refine Lib.hid ?_
     refine wpList_append_lies _ rfl _ _ 22 rfl (Bm + 1) 3 i0 (.int .i64 0) 1 8 Tryz.underlying22 hi hz0 hz1 hz2 rfl (by decide) _ _ _ rfl (hown.alloc _) ⟨wy.heap.size, 0, none⟩ 1 1 [.int .i64 y.1] rfl rfl ?c1 ?c2 (by decide) ?c3 ?c4 ?c5 _ rfl ?_
     try (case c1 => exact cell_one _ _ _)
     case c2 => (intro u hu; simp at hu; rcases hu with rfl; rfl)
     case c3 => first | omega | (unfold maxLen; omega)
     case c4 => omega
     case c5 => first | omega | (simp; omega)
     intro gq capq w8 hown8 hg8 hat8 hlt8
     have hat9 : va.ownBlock = some gq ∨ wy.heap.size ≤ gq := by
      rcases hat8 with h | h
      ·exact Or.inl h
      ·exact Or.inr (by rw [h]; simp)
     obtain ⟨m1, m2⟩ := CY.out.more rfl hown8 hg8 hat9
     have C8 := Lib.hid m1
     have HBX8 := Lib.hid (m2 wr.heap.size _ (hapb.out _ (Nat.le_refl _)) HBX.out)
     obtain ⟨vq, hvq⟩ : ∃ vq, Value.slice (some ⟨gq, 0, none⟩) (o2.length + 1) capq = vq := ⟨_, rfl⟩
     rw [hvq] at C8 ⊢
     clear hvq hat8 hat9 hlt8 m1 m2 hown8 hg8 hown d0 d1 q1 q2 q3 hsz
     obtain ⟨d0, d1⟩ := row_cells HBX8.out
     have q3 := (C8.out.k.m.look (x := r) (by unfold I64; omega)).1
     rw [HD2.out.1] at q3
     simp only [Option.getD_some] at q3
     obtain ⟨w9, hput, hm9, hg9⟩ := C8.out.k.m.put (x := y.1) (d := dr + y.2) (by omega) (by unfold I64; omega) (by unfold I64; omega)
     have C9 := Lib.hid (C8.out.put hg9 hm9)
     have J9 := HJ1.out
     rw [rlx_none HD2.out.1 HF.out] at J9
     have HJ9 := Lib.hid J9
     have B9 := Lib.hid (B2.out.put (x := y.1) (d := dr + y.2) (by omega) (by have := B1.out.2; omega))
     clear J9 hm9 hg9
     go_wp2_with fail
     exact ⟨⟨k + 1, N2 + 1, o2 ++ [y.1], _, _, rfl, by omega, congrArg _ (by omega), by omega, C9, Lib.hid HJ9.out.1, B9, Lib.hid (Nat.le_trans HJ9.out.2 HU.out)⟩, by simp only [RowKit.intOf]; omega⟩
    | some x =>
     rw [hf] at q1 q2
     simp only [Option.getD_some, Option.isSome_some] at q1 q2
     have HF := Lib.hid hf
     have hxb := B2.out y.1 x hf
     clear hf
     by_cases hxl : dr + y.2 < x
     ·obtain ⟨w9, hput, hm9, hg9⟩ := CY.out.k.m.put (x := y.1) (d := dr + y.2) (by omega) (by unfold I64; omega) (by unfold I64; omega)
      have C9 := Lib.hid (CY.out.put hg9 hm9)
      have J9 := HJ1.out
      rw [rlx_lt HD2.out.1 HF.out hxl] at J9
      have HJ9 := Lib.hid J9
      have B9 := Lib.hid (B2.out.put (x := y.1) (d := dr + y.2) (by omega) (by omega))
      clear J9 hm9 hg9
      go_wp2_with fail
      exact ⟨⟨k + 1, N2 + 1, o2, _, _, rfl, by omega, congrArg _ (by omega), by omega, C9, Lib.hid HJ9.out.1, B9, Lib.hid (Nat.le_trans HJ9.out.2 HU.out)⟩, by simp only [RowKit.intOf]; omega⟩
     ·have J9 := HJ1.out
      rw [rlx_ge HD2.out.1 HF.out hxl] at J9
      have HJ9 := Lib.hid J9
      clear J9
      go_wp2_with fail
      exact ⟨⟨k + 1, N2, o2, _, _, rfl, by omega, congrArg _ (by omega), by omega, CY, Lib.hid HJ9.out.1, B2, HU⟩, by simp only [RowKit.intOf]; omega⟩
   ·obtain rfl : k = M.length := by omega
    have JF := J.out
    rw [List.take_length, ← HMM.out] at JF
    have HJF := Lib.hid JF.fin
    clear JF
    go_wp2_with fail
    go_roundg (2 * unkD (ids R) f2 + o2.length)
    case measure => have := HU.out; have := HM1.out; omega
    case rel => exact ⟨o2, f2, N2, _, rfl, by have := HU.out; omega, by have := HU.out; have := HM1.out; omega, Lib.hid rfl, Lib.hid C.out.k, HJF, Lib.hid (B2.out.mono (by have := HU.out; have := HM1.out; omega))⟩
end Go.Proofs.YtahafijpcmphaaaGreat

/- The least costs as a function; both directions. -/
namespace Go.Proofs.YtahafijpcmphaaaGreat
set_option maxRecDepth 100000
open Go.RowKit Go.Maps Bs
theorem Wk.front {L : List Lk} {v u s c m : Int} (e : edg L v u c) (h : Wk L u s m) : Wk L v s (c + m) :=
 Wk.ind (Q := fun x n => Wk L v x (c + n)) (by have := (Wk.nil L v).step e; rw [Int.zero_add] at this; rw [Int.add_zero]; exact this) (fun a n b d _ hq he => by rw [← Int.add_assoc]; exact hq.step he) h
theorem Wk.flip {L : List Lk} {s v n : Int} (h : Wk L s v n) : Wk (flipL L) v s n :=
 Wk.ind (Q := fun x n => Wk (flipL L) x s n) (Wk.nil _ _) (fun a n b d _ hq he => by rw [Int.add_comm]; exact Wk.front (edg_flip.2 he) hq) h
theorem flipL_flipL (L : List Lk) : flipL (flipL L) = L := by
 unfold flipL
 rw [List.map_map]
 conv => rhs; rw [← List.map_id L]
 rfl
theorem IsD.flip {L : List Lk} {s v d : Int} : IsD (flipL L) s v d ↔ IsD L v s d := by
 constructor
 ·rintro ⟨h1, h2⟩
  have h3 := h1.flip
  rw [flipL_flipL] at h3
  exact ⟨h3, fun n hn => h2 n hn.flip⟩
 ·rintro ⟨h1, h2⟩
  refine ⟨h1.flip, fun n hn => h2 n ?_⟩
  have h3 := hn.flip
  rwa [flipL_flipL] at h3
theorem Wk.ids {L : List Lk} {V : List Int} (hV : Ends L V) {s v n : Int} (h : Wk L s v n) : v = s ∨ (s ∈ V ∧ v ∈ V) := by
 rcases h.last with ⟨e, -⟩ | ⟨u, m, c, hu, e, -⟩
 ·exact .inl e
 ·refine .inr ⟨?_, (hV.edg e).2⟩
  have key : u = s ∨ s ∈ V := Wk.ind (Q := fun x _ => x = s ∨ s ∈ V) (.inl rfl) (fun a n b d _ hq he => by
   rcases hq with rfl | hq
   ·exact .inr (hV.edg he).1
   ·exact .inr hq) hu
  rcases key with rfl | h1
  ·exact (hV.edg e).1
  ·exact h1
theorem okT_flip (R : List Rt) (L : List Lk) : okT R (flipL L) = okT R L := by
 have ha : ∀ (p : Lk → Bool), (∀ l : Lk, p ⟨l.a, l.b, l.cb, l.ca, l.cp⟩ = p l) → (flipL L).any p = L.any p := fun p hp => by
  unfold flipL
  rw [List.any_map]
  exact congrArg (fun q => L.any q) (funext hp)
 have hs : ascB ltL (flipL L) = ascB ltL L := by
  unfold flipL
  induction L with
  | nil => rfl
  | cons a t ih =>
   cases t with
   | nil => rfl
   | cons b t =>
    have ih' := ih (fun p hp => by
     unfold flipL
     rw [List.any_map]
     exact congrArg (fun q => (b :: t).any q) (funext hp))
    rw [List.map_cons, List.map_cons, ascB, ascB]
    rw [List.map_cons] at ih'
    rw [ih']
    rfl
 unfold okT chk
 rw [ha wrNum (fun l => by unfold wrNum; simp only; rw [decide_eq_decide.2]; constructor <;> rintro ⟨h1, h2, h3⟩ <;> exact ⟨h2, h1, h3⟩), ha (unk R) (fun _ => rfl), ha wrEnd (fun _ => rfl), hs]
 unfold flipL
 rw [List.length_map]
theorem hasV_flip (R : List Rt) (L : List Lk) (x : Int) : hasV R (flipL L) x = hasV R L x := by unfold hasV; rw [okT_flip]
theorem hasV_iff {R : List Rt} {L : List Lk} {x : Int} : hasV R L x = true ↔ okT R L = true ∧ x ∈ ids R := by
 unfold hasV
 rw [Bool.and_eq_true, ids_has]
open Classical in
noncomputable def dst (R : List Rt) (L : List Lk) (a b : Int) : Option Int := if h : hasV R L a = true ∧ ∃ d, IsD L a b d then some h.2.choose else none
theorem dst_some {R : List Rt} {L : List Lk} {a b d : Int} : dst R L a b = some d ↔ hasV R L a = true ∧ IsD L a b d := by
 unfold dst
 constructor
 ·intro h
  split at h
  ·rename_i hc
   rw [← Option.some.inj h]
   exact ⟨hc.1, hc.2.choose_spec⟩
  ·cases h
 ·rintro ⟨h1, h2⟩
  rw [dif_pos ⟨h1, d, h2⟩]
  have := (⟨h1, d, h2⟩ : hasV R L a = true ∧ ∃ d, IsD L a b d)
  exact congrArg some (this.2.choose_spec.uniq h2)
theorem CostsOf.eq {R : List Rt} {L : List Lk} {s : Int} {f : Int → Option Int} (h : CostsOf R L s f) : f = dst R L s := by
 funext v
 cases hz : hasV R L s with
 | false =>
  rw [h.no hz v]
  cases hd : dst R L s v with
  | none => rfl
  | some d => rw [(dst_some.1 hd).1] at hz; cases hz
 | true =>
  cases hf : f v with
  | some d => exact (dst_some.2 ⟨hz, (h.yes hz v d).1 hf⟩).symm
  | none =>
   cases hd : dst R L s v with
   | none => rfl
   | some d =>
    rw [(h.yes hz v d).2 (dst_some.1 hd).2] at hf
    cases hf
theorem dst_both {R : List Rt} {L : List Lk} {a b d : Int} (h : dst R L a b = some d) : okT R L = true ∧ a ∈ ids R ∧ b ∈ ids R := by
 obtain ⟨h1, h2⟩ := dst_some.1 h
 obtain ⟨ho, ha⟩ := hasV_iff.1 h1
 refine ⟨ho, ha, ?_⟩
 rcases h2.1.ids (okT_g ho).ends with rfl | h3
 ·exact ha
 ·exact h3.2
theorem dst_flip (R : List Rt) (L : List Lk) (a b : Int) : dst R (flipL L) a b = dst R L b a := by
 cases hd : dst R L b a with
 | some d =>
  obtain ⟨h1, h2⟩ := dst_some.1 hd
  obtain ⟨h3, h4, h5⟩ := dst_both hd
  exact dst_some.2 ⟨by rw [hasV_flip]; exact hasV_iff.2 ⟨h3, h5⟩, IsD.flip.2 h2⟩
 | none =>
  cases hf : dst R (flipL L) a b with
  | none => rfl
  | some d =>
   obtain ⟨h1, h2⟩ := dst_some.1 hf
   obtain ⟨h3, h4, h5⟩ := dst_both hf
   rw [dst_some.2 ⟨hasV_iff.2 ⟨by rw [okT_flip] at h3; exact h3, h5⟩, IsD.flip.1 h2⟩] at hd
   cases hd
theorem dst_bd {R : List Rt} {L : List Lk} {a b d : Int} (h : dst R L a b = some d) : (0 ≤ d ∧ d ≤ 24000) ∧ (1 ≤ a ∧ a ≤ 99) ∧ (1 ≤ b ∧ b ≤ 99) := by
 obtain ⟨h1, h2⟩ := dst_some.1 h
 obtain ⟨h3, h4, h5⟩ := dst_both h
 have hg := okT_g h3
 refine ⟨⟨h2.1.ge hg.pos, ?_⟩, hg.rng a h4, hg.rng b h5⟩
 have h6 := D_le hg.pos hg.ends hg.le (by decide) (ids R).length b d h2 (by unfold rnk; exact List.length_filter_le _ _)
 have := hg.len.1
 omega
theorem dst_self {R : List Rt} {L : List Lk} {a : Int} (h : hasV R L a = true) : dst R L a a = some 0 :=
 dst_some.2 ⟨h, IsD.self (okT_g (hasV_iff.1 h).1).pos a⟩
end Go.Proofs.YtahafijpcmphaaaGreat

/- shortest.costsFrom and Cost over the least costs. -/
namespace Go.Proofs.YtahafijpcmphaaaGreat
set_option maxRecDepth 100000
open Go.RowKit Go.Maps Bs
def CgPost (f : Int → Option Int) (ok : Bool) (w : World) (e : Ending) (w' : World) : Prop := ∃ v, e = .returned v ∧ CV w' (w.heap.size ≤ ·) v f ok ∧ w.grownBy w' none
theorem tcg_any (T : Tg) (s : Int) (q : Nat → Prop) (w : World) (hT : TgOk w q T) (h1 : T.R.length ≤ 1000) (h2 : T.L.length ≤ 1000) :
  Calls Tryz.prog 120 #[.agg #[.slice T.pR T.R.length T.cR, .slice T.pL T.L.length T.cL], .int .i64 s] w fun e w' => CgPost (dst T.R T.L s) (hasV T.R T.L s) w e w' :=
 (tcf_any T s q w hT h1 h2).mono fun e w' ⟨f, v, he, h, hc, hg⟩ => ⟨v, he, by rw [← hc.eq]; exact h, hg⟩
end Go.Proofs.YtahafijpcmphaaaGreat

/- shortest.nextTo. -/
namespace Go.Proofs.YtahafijpcmphaaaGreat
set_option maxRecDepth 100000
open Go.RowKit Go.Maps Bs
def nxP (f : Int → Option Int) (r : Int) (n : Int × Int) : Bool := match f n.1 with
  | some x => decide (n.2 + x = (f r).getD 0)
  | none => false
def nxM (f : Int → Option Int) (r : Int) (M : List (Int × Int)) : List Int := (M.filter (nxP f r)).map (·.1)
theorem nxM_next (L : List Lk) (f : Int → Option Int) (r : Int) : nextV L f r = nxM f r (nbD L r) := rfl
theorem nxM_snoc {f : Int → Option Int} {r : Int} {M : List (Int × Int)} {k : Nat} {y : Int × Int} (h : M[k]? = some y) : nxM f r (M.take (k + 1)) = nxM f r (M.take k) ++ (if nxP f r y = true then [y.1] else []) := by
 unfold nxM
 rw [List.take_add_one, h, List.filter_append, List.map_append]
 congr 1
 by_cases hp : nxP f r y = true
 ·rw [if_pos hp]
  simp [hp]
 ·rw [if_neg hp]
  simp [hp]
theorem nxM_len (f : Int → Option Int) (r : Int) (M : List (Int × Int)) : (nxM f r M).length ≤ M.length := by
 unfold nxM
 rw [List.length_map]
 exact List.length_filter_le _ _
theorem NK.base {w w1 wr : World} {v : Value} {l : List Int} (h : NK w1 v l wr) (g : w.grownBy w1 none) : NK w v l wr := ⟨h.own.mono g.size, grown_trans g h.gr⟩
theorem dst_rng {R : List Rt} {L : List Lk} {z : Int} (h : hasV R L z = true) {r : Int} {n : Int × Int} (hn : n ∈ nbD L r) : (1 ≤ n.2 ∧ n.2 ≤ 1000) ∧ 1 ≤ n.1 ∧ n.1 ≤ 99 := by
 have := (okT_g (hasV_iff.1 h).1).edg (nbD_mem.1 (show (n.1, n.2) ∈ nbD L r from hn))
 exact ⟨this.1, this.2.2⟩
set_option maxHeartbeats 6400000 in
theorem tnxW_any (T : Tg) (r z : Int) (v : Value) (q q2 : Nat → Prop) (w : World) (hT : TgOk w q T) (h2 : T.L.length ≤ 1000) (hr : okT T.R T.L = true → I64 r) (hV : CV w q2 v (fun x => dst T.R T.L x z) (hasV T.R T.L z)) :
  Calls Tryz.prog 89 #[.agg #[.slice T.pR T.R.length T.cR, .slice T.pL T.L.length T.cL], .int .i64 r, v] w fun e w' => TRet (nextV T.L (fun x => dst T.R T.L x z) r) w e w' := by
 obtain ⟨i0, hi, hz0, hz1, hz2⟩ := info_parts info_int
 obtain ⟨R, L, pR, cR, pL, cL⟩ := T
 simp only at h2 hr hV ⊢
 obtain ⟨k1, k2⟩ := tone_box w #[.slice pR R.length cR, .slice pL L.length cL] 45
 have HB := Lib.hid (And.intro k1 (And.intro k2 (hT.keep k2)))
 have HV := Lib.hid (hV.keep k2)
 have HI := Lib.hid hr
 clear k1 k2 hT hr hV
 obtain ⟨c0, c1⟩ := row_cells HB.out.1
 obtain ⟨f, hf⟩ : ∃ f : Int → Option Int, (fun x => dst R L x z) = f := ⟨_, rfl⟩
 have HF : Hid (∀ x d, f x = some d → 0 ≤ d ∧ d ≤ 24000) := Lib.hid (fun x d h => by rw [← hf] at h; exact (dst_bd h).1)
 rw [hf] at HV ⊢
 clear hf
 obtain ⟨X, hX⟩ : ∃ X, nextV L f r = X := ⟨_, rfl⟩
 have HX := Lib.hid hX
 rw [hX]
 clear hX
 go_enter Tryz.func89, Tryz.ntmps89
 go_wp2_with fail
 refine (tnearby_any L r pL cL _ _ HB.out.2.2.l h2).mono ?_
 rintro e w7 ⟨vn, rfl, hown7, hg7⟩
 obtain ⟨pn, cn, rfl, hcn1, hcn2⟩ := own_shape hown7
 have hml := nbD_len r L
 have HW7 := Lib.hid (grown_trans HB.out.2.1 hg7)
 have HV7 := Lib.hid (HV.out.keep hg7)
 obtain ⟨M, hM⟩ : ∃ M, nbD L r = M := ⟨_, rfl⟩
 have HMM := Lib.hid hM
 rw [hM] at hown7 hcn1 hml ⊢
 have HN := Lib.hid (rdf_of_own2 hown7)
 have hm2 : M.length ≤ 2000 := by omega
 have N0 : Hid (NK w7 (.slice none 0 0) (nxM f r (M.take 0)) w7) := Lib.hid ⟨World.ownsRow_nil _ _ _ _, grown_refl _ _⟩
 clear hM hown7 hg7 hml c0 c1 HV
 go_wp2_with fail
 go_loopw [7, 17] (fun vo a wr => ∃ (k : Nat) (va : Value), va = vo ∧ k ≤ M.length ∧ a = .int .i64 (k : Int) ∧ Hid (NK w7 va (nxM f r (M.take k)) wr)) (fun _ a _ => M.length - (RowKit.intOf a).toNat)
 case atStart => exact ⟨0, _, rfl, Nat.zero_le _, rfl, N0⟩
 case round =>
  obtain ⟨k, va, rfl, hk, rfl, NN⟩ := hrel
  clear N0
  by_cases hlt : k < M.length
  ·obtain ⟨-, b, off, rfl, hq, hc⟩ := dsn_cells (HN.out.keep NN.out.gr) (by omega)
   obtain ⟨y, hy⟩ : ∃ y, M[k]? = some y := ⟨_, List.getElem?_eq_getElem hlt⟩
   obtain ⟨a0, a1⟩ := hc k y hy
   have HS := Lib.hid (nxM_snoc (f := f) (r := r) hy)
   have hlen := nxM_len f r (M.take k)
   have hltk : (M.take k).length ≤ k := List.length_take_le _ _
   have gal := World.grownBy_alloc wr (.cells #[.int .i64 y.1, .int .i64 y.2] 131) none
   have hbx := heap_alloc_new wr (.cells #[.int .i64 y.1, .int .i64 y.2] 131)
   have HG := Lib.hid gal
   have HBX := Lib.hid hbx
   have HYM := Lib.hid (List.mem_of_getElem? hy)
   clear hc hy gal hbx
   go_upto_region 5 with fail
   clear a0 a1
   generalize wr.alloc _ = wy at *
   have NY := Lib.hid (NN.out.keep HG.out)
   have HVY := Lib.hid ((HV7.out.keep NN.out.gr).keep HG.out)
   obtain ⟨d0, d1⟩ := row_cells HBX.out
   obtain ⟨A, hA⟩ : ∃ A, nxM f r (M.take k) = A := ⟨_, rfl⟩
   rw [hA] at NY HS hlen
   have hAl : A.length ≤ 2000 := by omega
   clear hA hlen hltk
   -- the neighbour has no cost
   cases hf : f y.1 with
   | none =>
    have q1 : (Instr.lookup 114 v (.int .i64 y.1) true).run Tryz.prog wy = .ok (.tuple #[.int .i64 0, .bool false]) wy := by
     rcases HVY.out with ⟨-, rfl, -⟩ | ⟨h3, -⟩
     ·exact (look_none wy y.1).2
     ·have h4 := dst_rng h3 (r := r) (n := y) (by rw [HMM.out]; exact HYM.out)
      have h5 := (HVY.out.look (x := y.1) (by unfold I64; omega)).2
      rw [hf] at h5
      exact h5
    have hp : nxP f r y = false := by unfold nxP; rw [hf]
    rw [hp] at HS
    have HS2 : Hid (nxM f r (M.take (k + 1)) = A) := Lib.hid (by rw [HS.out]; simp)
    clear hp hf
    go_wp2_with fail
    exact ⟨⟨k + 1, _, rfl, by omega, congrArg _ (by omega), by rw [HS2.out]; exact NY⟩, by simp only [RowKit.intOf]; omega⟩
   | some x =>
    have h3 : hasV R L z = true := by
     rcases HVY.out with ⟨-, -, h⟩ | ⟨h3, -⟩
     ·rw [h] at hf; cases hf
     ·exact h3
    have h4 := dst_rng h3 (r := r) (n := y) (by rw [HMM.out]; exact HYM.out)
    have q1 := (HVY.out.look (x := y.1) (by unfold I64; omega)).2
    have q2 := (HVY.out.look (x := r) (HI.out (hasV_iff.1 h3).1)).1
    have hx := HF.out y.1 x hf
    obtain ⟨t, ht⟩ : ∃ t, (f r).getD 0 = t := ⟨_, rfl⟩
    rw [ht] at q2
    have hp : nxP f r y = decide (y.2 + x = t) := by unfold nxP; rw [hf, ht]
    rw [hf] at q1
    simp only [Option.getD_some, Option.isSome_some] at q1
    rw [hp] at HS
    clear hp hf ht h3
    by_cases he : y.2 + x = t
    ·have HS2 : Hid (nxM f r (M.take (k + 1)) = A ++ [y.1]) := Lib.hid (by rw [HS.out, decide_eq_true he]; rfl)
     have he' : (y.2 + x == t) = true := by simpa using he
     have hown := NY.out.own
     have hsz := NY.out.gr.size
     clear HS he
     go_wp2_with (at_builtin; refine hold_on ?_)
     refine Lib.hid ?_
     refine wpList_append_lies _ rfl _ _ 22 rfl w7.heap.size 3 i0 (.int .i64 0) 1 8 Tryz.underlying22 hi hz0 hz1 hz2 rfl (by decide) _ _ _ rfl (hown.alloc _) ⟨wy.heap.size, 0, none⟩ 1 1 [.int .i64 y.1] rfl rfl ?c1 ?c2 (by decide) ?c3 ?c4 ?c5 _ rfl ?_
     try (case c1 => exact cell_one _ _ _)
     case c2 => (intro u hu; simp at hu; rcases hu with rfl; rfl)
     case c3 => first | omega | (unfold maxLen; omega)
     case c4 => omega
     case c5 => first | omega | (simp; omega)
     intro gq capq w8 hown8 hg8 hat8 hlt8
     obtain ⟨vq, hvq⟩ : ∃ vq, Value.slice (some ⟨gq, 0, none⟩) (A.length + 1) capq = vq := ⟨_, rfl⟩
     rw [hvq] at hown8 ⊢
     obtain ⟨n1, -⟩ := NY.out.more (x := y.1) (grown_refl _ _) hown8 hg8
     have N1 : Hid (NK w7 vq (nxM f r (M.take (k + 1))) w8) := Lib.hid (by rw [HS2.out]; exact n1)
     clear hvq hat8 hlt8 hg8 hown n1 hown8
     go_wp2_with fail
     exact ⟨⟨k + 1, _, rfl, by omega, congrArg _ (by omega), N1⟩, by simp only [RowKit.intOf]; omega⟩
    ·have HS2 : Hid (nxM f r (M.take (k + 1)) = A) := Lib.hid (by rw [HS.out, decide_eq_false he]; simp)
     have he' : (y.2 + x == t) = false := by simpa using he
     clear HS he
     go_wp2_with fail
     exact ⟨⟨k + 1, _, rfl, by omega, congrArg _ (by omega), by rw [HS2.out]; exact NY⟩, by simp only [RowKit.intOf]; omega⟩
  ·obtain rfl : k = M.length := by omega
   have hN := NN.out
   rw [List.take_length, ← HMM.out, ← nxM_next, HX.out] at hN
   have H9 := Lib.hid (hN.base HW7.out).ret
   clear hN NN
   go_wp2_with fail
   go_ret
   obtain ⟨p, c, rfl, h3⟩ := H9.out
   exact ⟨p, c, rfl, h3⟩
end Go.Proofs.YtahafijpcmphaaaGreat

/- Apply: the values. -/
namespace Go.Proofs.YtahafijpcmphaaaGreat
set_option maxRecDepth 100000
open Go.RowKit Bs
theorem ends_inj {R : List Rt} {L : List Lk} (ho : OkAll R L) {i j : Nat} {l m : Lk} (hi : L[i]? = some l) (hj : L[j]? = some m) (e1 : l.a = m.a) (e2 : l.b = m.b) : i = j := by
 have hp := pair_of_asc ltL (fun _ _ _ => ltL_trans) L ho.ls
 rcases Nat.lt_trichotomy i j with h | h | h
 ·have := of_decide_eq_true (pair_get hp h hi hj)
  omega
 ·exact h
 ·have := of_decide_eq_true (pair_get hp h hj hi)
  omega
theorem flat_set2 (l x : Lk) : ∀ (L : List Lk) (i : Nat), L[i]? = some l → (L.set i ⟨l.a, l.b, x.ca, x.cb, l.cp⟩).flatMap lkC = ((L.flatMap lkC).set (i * 5 + 2) (.int .i64 x.ca)).set (i * 5 + 3) (.int .i64 x.cb)
 | [], i, h => by simp at h
 | m :: t, 0, h => by
  obtain rfl : m = l := by simpa using h
  rfl
 | m :: t, i + 1, h => by
  have ih := flat_set2 l x t i (by simpa using h)
  rw [List.set_cons_succ, List.flatMap_cons, ih, List.flatMap_cons]
  have e2 : (i + 1) * 5 + 2 = (lkC m).length + (i * 5 + 2) := by
   show (i + 1) * 5 + 2 = 5 + (i * 5 + 2)
   omega
  have e3 : (i + 1) * 5 + 3 = (lkC m).length + (i * 5 + 3) := by
   show (i + 1) * 5 + 3 = 5 + (i * 5 + 3)
   omega
  rw [e2, e3, List.set_append_right _ _ (Nat.le_add_right _ _), Nat.add_sub_cancel_left, List.set_append_right _ _ (Nat.le_add_right _ _), Nat.add_sub_cancel_left]
theorem own_set2 {w : World} {base n cap g i : Nat} {L : List Lk} {l x : Lk} (h : w.ownsRow base 94 5 (.slice (some ⟨g, 0, none⟩) n cap) L.length (L.flatMap lkC)) (hl : L[i]? = some l) :
  ((w.setCell ⟨g, i * 5 + 2, none⟩ (.int .i64 x.ca)).setCell ⟨g, i * 5 + 3, none⟩ (.int .i64 x.cb)).ownsRow base 94 5 (.slice (some ⟨g, 0, none⟩) n cap) (L.set i ⟨l.a, l.b, x.ca, x.cb, l.cp⟩).length ((L.set i ⟨l.a, l.b, x.ca, x.cb, l.cp⟩).flatMap lkC) := by
 have hn : n = L.length := by
  obtain ⟨p, c, e, _⟩ := own_shape h
  injection e
 subst hn
 obtain ⟨s1, -⟩ := h.stored (i * 5 + 2) (.int .i64 x.ca)
 obtain ⟨s2, -⟩ := s1.stored (i * 5 + 3) (.int .i64 x.cb)
 rw [List.length_set, flat_set2 l x L i hl]
 exact s2
end Go.Proofs.YtahafijpcmphaaaGreat

/- shortest.costsTo: links flipped, then costsFrom. -/
namespace Go.Proofs.YtahafijpcmphaaaGreat
set_option maxRecDepth 100000
open Go.RowKit Go.Maps Bs
def flipK (l : Lk) : Lk := ⟨l.a, l.b, l.cb, l.ca, l.cp⟩
def flK (L : List Lk) (k : Nat) : List Lk := flipL (L.take k) ++ L.drop k
theorem flK_len (L : List Lk) (k : Nat) : (flK L k).length = L.length := by
 unfold flK flipL
 rw [List.length_append, List.length_map, List.length_take, List.length_drop]
 omega
theorem flK_at {L : List Lk} {k : Nat} {l : Lk} (h : L[k]? = some l) : (flK L k)[k]? = some l := by
 have hk := (List.getElem?_eq_some_iff.1 h).1
 unfold flK flipL
 rw [List.getElem?_append_right (by rw [List.length_map, List.length_take]; omega), List.length_map, List.length_take, Nat.min_eq_left (by omega), Nat.sub_self, List.getElem?_drop, Nat.add_zero]
 exact h
theorem flK_set {L : List Lk} {k : Nat} {l : Lk} (h : L[k]? = some l) : (flK L k).set k (flipK l) = flK L (k + 1) := by
 have hk := (List.getElem?_eq_some_iff.1 h).1
 unfold flK flipL
 have hl : (List.map (fun l : Lk => (⟨l.a, l.b, l.cb, l.ca, l.cp⟩ : Lk)) (L.take k)).length = k := by rw [List.length_map, List.length_take]; omega
 rw [List.set_append_right _ _ (by omega), hl, Nat.sub_self, List.take_add_one, h, List.map_append, List.append_assoc]
 congr 1
 have hd : L.drop k = l :: L.drop (k + 1) := by
  rw [List.drop_eq_getElem_cons hk]
  congr 1
  rw [List.getElem?_eq_getElem hk] at h
  exact Option.some.inj h
 rw [hd]
 rfl
theorem flK_end (L : List Lk) : flK L L.length = flipL L := by
 unfold flK
 rw [List.take_length, List.drop_length, List.append_nil]
structure FK (w : World) (T : Tg) (v : Value) (k : Nat) (wr : World) : Prop where
 gb : wr.heap[w.heap.size]? = some (.cells #[.slice T.pR T.R.length T.cR, .slice T.pL T.L.length T.cL] 45 (0, 0))
 t : TgOk wr (· < w.heap.size) T
 o : wr.ownsRow (w.heap.size + 1) 94 5 v T.L.length ((flK T.L k).flatMap lkC)
 gr : w.grownBy wr none
theorem FK.put {w wr w' : World} {T : Tg} {v : Value} {k k' g : Nat} (h : FK w T v k wr) (gg : wr.grownBy w' (some g)) (hg : w.heap.size < g) (ho : w'.ownsRow (w.heap.size + 1) 94 5 v T.L.length ((flK T.L k').flatMap lkC)) : FK w T v k' w' :=
 ⟨kept_row h.gb gg (fun e => by have := Option.some.inj e; omega), h.t.grown gg (fun b hb e => by have := Option.some.inj e; have h2 : b < w.heap.size := hb; omega), ho, grown_any h.gr gg (fun b hb e => by have := Option.some.inj e; omega)⟩
theorem FK.keep {w wr w' : World} {T : Tg} {v : Value} {k : Nat} (h : FK w T v k wr) (g : wr.grownBy w' none) : FK w T v k w' :=
 ⟨kept_row h.gb g (by simp), h.t.keep g, h.o.kept g (by cases hv : v.ownBlock <;> simp), grown_trans h.gr g⟩
set_option maxHeartbeats 6400000 in
theorem tct_any (T : Tg) (z : Int) (q : Nat → Prop) (w : World) (hT : TgOk w q T) (h1 : T.R.length ≤ 1000) (h2 : T.L.length ≤ 1000) (hp : T.pL = none → T.cL = 0) :
  Calls Tryz.prog 90 #[.agg #[.slice T.pR T.R.length T.cR, .slice T.pL T.L.length T.cL], .int .i64 z] w fun e w' => CgPost (fun x => dst T.R T.L x z) (hasV T.R T.L z) w e w' := by
 obtain ⟨R, L, pR, cR, pL, cL⟩ := T
 simp only at h1 h2 hp ⊢
 obtain ⟨k1, k2⟩ := tone_box w #[.slice pR R.length cR, .slice pL L.length cL] 45
 have HB := Lib.hid (And.intro k1 (And.intro k2 (hT.old.keep k2)))
 clear k1 k2 hT
 obtain ⟨c0, c1⟩ := row_cells HB.out.1
 obtain ⟨f, hf⟩ : ∃ f : Int → Option Int, (fun x => dst R L x z) = f := ⟨_, rfl⟩
 obtain ⟨ok, hok⟩ : ∃ ok, hasV R L z = ok := ⟨_, rfl⟩
 have HF := Lib.hid (And.intro hf hok)
 rw [hf, hok]
 clear hf hok
 go_enter Tryz.func90, Tryz.ntmps90
 go_wp2_with fail
 refine (tcloneL_any L pL cL _ _ HB.out.2.2.l hp HB.out.2.2.cl h2).mono ?_
 rintro e w7 ⟨v, rfl, hown, hg⟩
 have F0 : Hid (FK w ⟨R, L, pR, cR, pL, cL⟩ v 0 w7) := Lib.hid ⟨kept_row HB.out.1 hg (by simp), HB.out.2.2.keep hg, by rw [show flK L 0 = L from rfl]; exact hown.mono (by simp), grown_trans HB.out.2.1 hg⟩
 obtain ⟨p, cap, rfl, hc1, hc2⟩ := own_shape hown
 clear hown hg c0 c1
 go_wp2_with fail
 go_loopw [13] (fun a wr => ∃ k : Nat, k ≤ L.length ∧ a = .int .i64 (k : Int) ∧ Hid (FK w ⟨R, L, pR, cR, pL, cL⟩ (.slice p L.length cap) k wr)) (fun a _ => L.length - (RowKit.intOf a).toNat)
 case atStart => exact ⟨0, Nat.zero_le _, rfl, F0⟩
 case round =>
  obtain ⟨k, hk, rfl, F⟩ := hrel
  clear F0
  by_cases hlt : k < L.length
  ·obtain ⟨g, rfl⟩ : ∃ g, p = some ⟨g, 0, none⟩ := by
    rcases Joins.ownsRow_forms F.out.o with ⟨e, e0⟩ | ⟨g1, cap1, e⟩
    ·have e1 : L.length = 0 := e0
     omega
    ·injection e with e1 e2 e3
     exact ⟨g1, e1⟩
   obtain ⟨l, hl⟩ : ∃ l, L[k]? = some l := ⟨_, List.getElem?_eq_getElem hlt⟩
   have hown := F.out.o
   have hgl := hown.lt g rfl
   have hat := flK_at hl
   have hfl : ((flK L k).flatMap lkC).length = L.length * 5 := by rw [flat_len lkC 5 (fun _ => rfl), flK_len]
   have hcell : ∀ j, j < 5 → wr.cell? ⟨g, k * 5 + j, none⟩ = (lkC l)[j]? := fun j hj => (hown.cellAt (k * 5 + j) (by omega)).trans (flat_at lkC 5 (fun _ => rfl) (flK L k) k j l hat hj)
   have a0 : wr.cell? ⟨g, k * 5, none⟩ = some (.int .i64 l.a) := hcell 0 (by decide)
   have a1 : wr.cell? ⟨g, k * 5 + 1, none⟩ = some (.int .i64 l.b) := hcell 1 (by decide)
   have a2 : wr.cell? ⟨g, k * 5 + 2, none⟩ = some (.int .i64 l.ca) := hcell 2 (by decide)
   have a3 : wr.cell? ⟨g, k * 5 + 3, none⟩ = some (.int .i64 l.cb) := hcell 3 (by decide)
   have a4 : wr.cell? ⟨g, k * 5 + 4, none⟩ = some (.int .i64 l.cp) := hcell 4 (by decide)
   have gal := World.grownBy_alloc wr (.cells #[.int .i64 l.a, .int .i64 l.b, .int .i64 l.ca, .int .i64 l.cb, .int .i64 l.cp] 94) none
   have hbx := heap_alloc_new wr (.cells #[.int .i64 l.a, .int .i64 l.b, .int .i64 l.ca, .int .i64 l.cb, .int .i64 l.cp] 94)
   have HG := Lib.hid gal
   have HBX := Lib.hid hbx
   have HL := Lib.hid (And.intro hl hgl)
   clear hown hat hfl hcell gal hbx hl hgl
   go_upto_region 5 with fail
   clear a0 a1 a2 a3 a4
   generalize wr.alloc _ = wy at *
   have FY := Lib.hid (F.out.keep HG.out)
   have HS : Hid (∀ u, Hid (wy.grownBy u (some g)) → u.heap[wr.heap.size]? = some (.cells #[.int .i64 l.a, .int .i64 l.b, .int .i64 l.ca, .int .i64 l.cb, .int .i64 l.cp] 94 (0, 0))) := Lib.hid (fun u hu => kept_row HBX.out hu.out (fun e => by have := Option.some.inj e; have := HL.out.2.2; omega))
   have hk1 : (k : Int) < (L.length : Int) := by omega
   refine wp_region_held_drew (S := fun w' => Hid (wy.grownBy w' (some g))) (by kernel_rfl) (Lib.hid (grown_drew (grown_refl _ _))) (fun hHeld => ?_)
   refine wpAnyH_take (i := 0) (oi := { dst := some 18, op := Op.move (Operand.tmp 5), type := 43, pos := _, after := _, guard := none }) (v := ?_) rfl (by kernel_rfl) (by kernel_rfl) (by kernel_rfl) (fun _ _ _ h => h) (Or.inl ⟨by rfl, ?_⟩) hHeld ?_
   rotate_left 1
   ·intro u hSu
    go_simp
    first | done | with_reducible rfl
   (try simp only [Act.put, zA, zB, zC])
   refine wpAnyH_take (i := 1) (oi := { dst := some 19, op := Op.move (Operand.tmp 6), type := 3, pos := _, after := _, guard := none }) (v := ?_) rfl (by kernel_rfl) (by kernel_rfl) (by kernel_rfl) (fun _ _ _ h => h) (Or.inl ⟨by rfl, ?_⟩) hHeld ?_
   rotate_left 1
   ·intro u hSu
    go_simp
    first | done | with_reducible rfl
   (try simp only [Act.put, zA, zB, zC])
   refine wpAnyH_take (i := 2) (oi := { dst := some 20, op := Op.move (Operand.tmp 5), type := 43, pos := _, after := _, guard := none }) (v := ?_) rfl (by kernel_rfl) (by kernel_rfl) (by kernel_rfl) (fun _ _ _ h => h) (Or.inl ⟨by rfl, ?_⟩) hHeld ?_
   rotate_left 1
   ·intro u hSu
    go_simp
    first | done | with_reducible rfl
   (try simp only [Act.put, zA, zB, zC])
   refine wpAnyH_take (i := 3) (oi := { dst := some 21, op := Op.move (Operand.tmp 6), type := 3, pos := _, after := _, guard := none }) (v := ?_) rfl (by kernel_rfl) (by kernel_rfl) (by kernel_rfl) (fun _ _ _ h => h) (Or.inl ⟨by rfl, ?_⟩) hHeld ?_
   rotate_left 1
   ·intro u hSu
    go_simp
    first | done | with_reducible rfl
   (try simp only [Act.put, zA, zB, zC])
   refine wpAnyH_take (i := 4) (oi := { dst := some 22, op := Op.fieldAddr 94 (Operand.tmp 7) 3, type := 0, pos := _, after := _, guard := none }) (v := ?_) rfl (by kernel_rfl) (by kernel_rfl) (by kernel_rfl) (fun _ _ _ h => h) (Or.inl ⟨by rfl, ?_⟩) hHeld ?_
   rotate_left 1
   ·intro u hSu
    go_simp
    first | done | with_reducible rfl
   (try simp only [Act.put, zA, zB, zC])
   refine wpAnyH_take (i := 5) (oi := { dst := some 23, op := Op.load 3 (Operand.tmp 22), type := 3, pos := _, after := _, guard := none }) (v := ?_) rfl (by kernel_rfl) (by kernel_rfl) (by kernel_rfl) (fun _ _ _ h => h) (Or.inl ⟨by rfl, ?_⟩) hHeld ?_
   rotate_left 1
   ·intro u hSu
    obtain ⟨l0, l1, l2, l3, l4⟩ := lk_facts (HS.out _ hSu)
    go_simp
    first | done | with_reducible rfl
   (try simp only [Act.put, zA, zB, zC])
   refine wpAnyH_take (i := 6) (oi := { dst := some 24, op := Op.fieldAddr 94 (Operand.tmp 7) 2, type := 0, pos := _, after := _, guard := none }) (v := ?_) rfl (by kernel_rfl) (by kernel_rfl) (by kernel_rfl) (fun _ _ _ h => h) (Or.inl ⟨by rfl, ?_⟩) hHeld ?_
   rotate_left 1
   ·intro u hSu
    go_simp
    first | done | with_reducible rfl
   (try simp only [Act.put, zA, zB, zC])
   refine wpAnyH_take (i := 7) (oi := { dst := some 25, op := Op.load 3 (Operand.tmp 24), type := 3, pos := _, after := _, guard := none }) (v := ?_) rfl (by kernel_rfl) (by kernel_rfl) (by kernel_rfl) (fun _ _ _ h => h) (Or.inl ⟨by rfl, ?_⟩) hHeld ?_
   rotate_left 1
   ·intro u hSu
    obtain ⟨l0, l1, l2, l3, l4⟩ := lk_facts (HS.out _ hSu)
    go_simp
    first | done | with_reducible rfl
   (try simp only [Act.put, zA, zB, zC])
   refine wpAnyH_take (i := 8) (oi := { dst := some 26, op := Op.indexAddr 43 (Operand.tmp 18) (Operand.tmp 19), type := 0, pos := _, after := _, guard := none }) (v := ?_) rfl (by kernel_rfl) (by kernel_rfl) (by kernel_rfl) (fun _ _ _ h => h) (Or.inl ⟨by rfl, ?_⟩) hHeld ?_
   rotate_left 1
   ·intro u hSu
    go_simp
    first | done | with_reducible rfl
   (try simp only [Act.put, zA, zB, zC])
   refine wpAnyH_take (i := 9) (oi := { dst := some 27, op := Op.fieldAddr 94 (Operand.tmp 26) 2, type := 0, pos := _, after := _, guard := none }) (v := ?_) rfl (by kernel_rfl) (by kernel_rfl) (by kernel_rfl) (fun _ _ _ h => h) (Or.inl ⟨by rfl, ?_⟩) hHeld ?_
   rotate_left 1
   ·intro u hSu
    go_simp
    first | done | with_reducible rfl
   (try simp only [Act.put, zA, zB, zC])
   refine wpAnyH_ready (rs := [10]) (by kernel_rfl) (by simp) ?_
   refine AllReadyH.cons (o := { dst := none, op := Op.store 3 (Operand.tmp 27) (Operand.tmp 23), type := 0, pos := _, after := _, guard := none }) rfl (fun Kz hK => ?_) AllReadyH.nil
   have z2 : wy.cell? ⟨g, k * 5 + 2, none⟩ = some (.int .i64 l.ca) := (FY.out.o.cellAt (k * 5 + 2) (by show k * 5 + 2 < L.length * 5; omega)).trans (flat_at lkC 5 (fun _ => rfl) (flK L k) k 2 l (flK_at HL.out.1) (by decide))
   have y2 := FY.out.o.frozenAt (k * 5 + 2)
   go_simp
   refine hK.out _ _ (Lib.hid (grown_trans hHeld.out (grown_setCell _ ⟨g, k * 5 + 2, none⟩ _))) (fun hH2 => ?_)
   clear hK Kz hHeld
   have hHeld := hH2
   clear hH2
   (try simp only [Act.put, zA, zB, zC])
   refine wpAnyH_take (i := 11) (oi := { dst := some 28, op := Op.indexAddr 43 (Operand.tmp 20) (Operand.tmp 21), type := 0, pos := _, after := _, guard := none }) (v := ?_) rfl (by kernel_rfl) (by kernel_rfl) (by kernel_rfl) (fun _ _ _ h => h) (Or.inl ⟨by rfl, ?_⟩) hHeld ?_
   rotate_left 1
   ·intro u hSu
    go_simp
    first | done | with_reducible rfl
   (try simp only [Act.put, zA, zB, zC])
   refine wpAnyH_take (i := 12) (oi := { dst := some 29, op := Op.fieldAddr 94 (Operand.tmp 28) 3, type := 0, pos := _, after := _, guard := none }) (v := ?_) rfl (by kernel_rfl) (by kernel_rfl) (by kernel_rfl) (fun _ _ _ h => h) (Or.inl ⟨by rfl, ?_⟩) hHeld ?_
   rotate_left 1
   ·intro u hSu
    go_simp
    first | done | with_reducible rfl
   (try simp only [Act.put, zA, zB, zC])
   refine wpAnyH_ready (rs := [13]) (by kernel_rfl) (by simp) ?_
   refine AllReadyH.cons (o := { dst := none, op := Op.store 3 (Operand.tmp 29) (Operand.tmp 25), type := 0, pos := _, after := _, guard := none }) rfl (fun Kz hK => ?_) AllReadyH.nil
   have z3 : wy.cell? ⟨g, k * 5 + 3, none⟩ = some (.int .i64 l.cb) := (FY.out.o.cellAt (k * 5 + 3) (by show k * 5 + 3 < L.length * 5; omega)).trans (flat_at lkC 5 (fun _ => rfl) (flK L k) k 3 l (flK_at HL.out.1) (by decide))
   have y3 := FY.out.o.frozenAt (k * 5 + 3)
   go_simp
   refine hK.out _ _ (Lib.hid (grown_trans hHeld.out (grown_setCell _ ⟨g, k * 5 + 3, none⟩ _))) (fun hH2 => ?_)
   clear hK Kz hHeld
   have hHeld := hH2
   clear hH2
   (try simp only [Act.put, zA, zB, zC])
   refine wpAnyH_done (by kernel_rfl) ?_ _
   have hset := own_set2 (x := ⟨0, 0, l.cb, l.ca, 0⟩) (i := k) (show wy.ownsRow (w.heap.size + 1) 94 5 (.slice (some ⟨g, 0, none⟩) L.length cap) (flK L k).length ((flK L k).flatMap lkC) by rw [flK_len]; exact FY.out.o) (flK_at HL.out.1)
   rw [show (⟨l.a, l.b, l.cb, l.ca, l.cp⟩ : Lk) = flipK l from rfl, flK_set HL.out.1, flK_len] at hset
   have hgs : wy.grownBy ((wy.setCell ⟨g, k * 5 + 2, none⟩ (.int .i64 l.cb)).setCell ⟨g, k * 5 + 3, none⟩ (.int .i64 l.ca)) (some g) := grown_trans (grown_setCell wy ⟨g, k * 5 + 2, none⟩ (.int .i64 l.cb)) (grown_setCell _ ⟨g, k * 5 + 3, none⟩ (.int .i64 l.ca))
   have F9 := Lib.hid (FY.out.put (k' := k + 1) (grown_drew hgs) (by have := HL.out.2.1; omega) hset.drew)
   clear hset hgs hHeld z2 y2 z3 y3 HS FY
   try clear l0 l1 l2 l3 l4
   generalize ((wy.setCell ⟨g, k * 5 + 2, none⟩ (.int .i64 l.cb)).setCell ⟨g, k * 5 + 3, none⟩ (.int .i64 l.ca)).drew = ws at *
   go_wp2_with fail
   exact ⟨⟨k + 1, by omega, congrArg _ (by omega), F9⟩, by simp only [RowKit.intOf]; omega⟩
  ·obtain rfl : k = L.length := by omega
   obtain ⟨c0, c1⟩ := row_cells F.out.gb
   have hro := F.out.o
   simp only at hro
   rw [flK_end] at hro
   have hll : (flipL L).length = L.length := by unfold flipL; rw [List.length_map]
   have HT2 : Hid (TgOk wr (fun _ => True) ⟨R, flipL L, pR, cR, p, cap⟩) := Lib.hid ⟨F.out.t.r.mono (fun _ _ => trivial), by
    have h3 := (rdf_of_own hro).mono (q' := fun _ => True) (fun _ _ => trivial)
    show RdF wr _ _ (flipL L).length _
    rw [hll]
    exact h3, F.out.t.cr, by simp only; omega⟩
   have HLL := Lib.hid hll
   clear hro hll
   go_wp2_with fail
   have h9 := tcg_any ⟨R, flipL L, pR, cR, p, cap⟩ z _ wr HT2.out h1 (by simp only; rw [HLL.out]; omega)
   simp only at h9
   rw [HLL.out] at h9
   refine h9.mono ?_
   rintro e w9 ⟨v9, rfl, hv9, hg9⟩
   have H9 := Lib.hid (And.intro hv9 hg9)
   clear hv9 hg9 h9 c0 c1
   go_wp2_with fail
   go_ret
   refine ⟨_, rfl, ?_, grown_trans F.out.gr H9.out.2⟩
   have h8 := H9.out.1.mono (q' := (w.heap.size ≤ ·)) (fun b hb _ => Nat.le_trans F.out.gr.size hb)
   rw [hasV_flip, HF.out.2] at h8
   rw [show dst R (flipL L) z = f from (funext fun x => dst_flip R L z x).trans HF.out.1] at h8
   exact h8
end Go.Proofs.YtahafijpcmphaaaGreat

/- shortest.passes and Avoids. -/
namespace Go.Proofs.YtahafijpcmphaaaGreat
set_option maxRecDepth 100000
open Go.RowKit Go.Maps Bs
end Go.Proofs.YtahafijpcmphaaaGreat

/- Parts of the proof, packed: IdTpl. -/
import Derived.Test.YtpogblengagpaaaGreatDoorPa20
import Derived.Test.YtpogblengagpaaaGreatDoorPa3
import Derived.Test.YtpogblengagpaaaGreatDoorPa1
import Derived.Deep.AppendLies
import Derived.Deep.RegionHeld3
import Derived.Test.YtpogblengagpaaaGreatDoorPa5
/- The tape's Plan. -/
namespace Go.Proofs.YtpogblengagpaaaGreatDoor
set_option maxRecDepth 100000
open Go.RowKit Bs
theorem info_edT : (Tryz.prog.info? 78).map (fun i => (i.zero, i.size, i.bytes)) = some (some (.agg #[.int .i64 0, .int .i64 0]), 2, 16) := by kernel_rfl
theorem row3T {w : World} {b : Nat} {t : TypeId} {x y z : Value} (h : w.heap[b]? = some (.cells #[x, y, z] t (0, 0))) : (w.cell? ⟨b, 0, none⟩ = some x ∧ w.cell? ⟨b, 1, none⟩ = some y ∧ w.cell? ⟨b, 2, none⟩ = some z) ∧ ∀ o, w.frozen? ⟨b, o, none⟩ = false :=
 ⟨⟨cell_of_row _ _ _ _ _ _ h, cell_of_row _ _ _ _ _ _ h, cell_of_row _ _ _ _ _ _ h⟩, fun o => frozen_of_row _ _ o _ _ h⟩
theorem ed_rowT (w : World) (x : Ed) (t : TypeId) : ∀ j u, (edC x)[j]? = some u → (w.alloc (.cells #[.int .i64 x.r, .int .i64 x.i] t)).cell? ((⟨w.heap.size, 0, none⟩ : Addr).add j) = some u := by
 intro j u hu
 rw [add_plain]
 have hb := heap_alloc_new w (.cells #[.int .i64 x.r, .int .i64 x.i] t)
 rcases j with _ | _ | j
 ·cases hu; exact cell_of_row _ _ _ _ _ _ hb
 ·cases hu; exact cell_of_row _ _ _ _ _ _ hb
 ·simp [edC] at hu
def PlanTP (a : Nat) (R : List Rt) (n : Int) (w : World) (e : Ending) (w' : World) : Prop :=
 ∃ (sub len : Int) (E : List Ed) (p : Option Addr) (c : Nat), e = .returned (.agg #[.int .i64 sub, .int .i64 len, .slice p E.length c]) ∧ w'.ownsRow w.heap.size 78 2 (.slice p E.length c) E.length (E.flatMap edC) ∧ E.length ≤ R.length + 1 ∧ (n ≤ 0 → inV sub 0 2 = true ∧ vl len = true ∧ ∃ O i id, Ord O R.length ∧ PlE R O i id E) ∧ St a w w'
theorem rdAt_T {w : World} {q : Nat → Prop} {p : Option Addr} {n c i : Nat} {vs : List Value} {x : Value} (h : Rd w q (.slice p n c) vs) (hi : vs[i]? = some x) : ∃ b off, p = some ⟨b, off, none⟩ ∧ q b ∧ w.cell? ⟨b, off + i, none⟩ = some x := by
 obtain ⟨p1, c1, e1, hx⟩ := h
 injection e1 with a1 a2 a3
 subst a1
 obtain ⟨b, off, hp, hq, hc⟩ := hx (by rintro rfl; simp at hi)
 exact ⟨b, off, hp, hq, hc i x hi⟩
theorem rd_of_ownT {w : World} {base B n : Nat} {e : TypeId} {v : Value} {xs : List Value} (h : w.ownsRow base e 1 v n xs) (hb : B < base) : Rd w (fun b => B < b ∧ b < w.heap.size) v xs := by
 have hl : xs.length = n := by have := h.1; omega
 rcases h.2 with ⟨rfl, h0⟩ | ⟨g, cap, cur, rfl, hb2, hg, _⟩
 ·subst h0
  exact ⟨none, 0, by rw [hl], fun hne => absurd (List.eq_nil_of_length_eq_zero hl) hne⟩
 ·refine ⟨some ⟨g, 0, none⟩, cap, by rw [hl], fun _ => ⟨g, 0, rfl, ⟨by omega, (h.lt g rfl).2⟩, fun i x hi => ?_⟩⟩
  have := h.cells (g := g) rfl i x hi
  have hadd : (⟨g, 0, none⟩ : Addr).add i = ⟨g, 0 + i, none⟩ := by unfold Addr.add; split <;> simp_all
  rw [hadd] at this
  exact this
structure PT (a : Nat) (W : World) (R : List Rt) (pR : Option Addr) (cR : Nat) (vL : Value) (B C : Nat) (ov : Value) (O : List Nat) (sub len : Int) (v : Value) (M : List Ed) (w : World) : Prop where
 tb : w.heap[W.heap.size]? = some (.cells #[.slice pR R.length cR, vL] 68 (0, 0))
 rs : w.heap[W.heap.size + 1]? = some (.cells #[.int .i64 0, .int .i64 0, .slice none 0 0] 72 (0, 0))
 bx : w.heap[B]? = some (.cells #[.int .i64 sub, .int .i64 len, v] 72 (0, 0))
 rd : RdR w (fun b => b ≠ a ∧ b < W.heap.size) (.slice pR R.length cR) R
 od : Rd w (fun b => B < b ∧ b < C) ov (O.map zv)
 own : w.ownsRow C 78 2 v M.length (M.flatMap edC)
 st : St a W w
 lo : W.heap.size + 1 < B ∧ B < C ∧ C ≤ w.heap.size
section
variable {a : Nat} {W w w1 : World} {R : List Rt} {pR : Option Addr} {cR B C : Nat} {vL ov : Value} {O : List Nat} {sub len : Int} {v v' : Value} {M N : List Ed}
theorem PT.tape (h : PT a W R pR cR vL B C ov O sub len v M w) (ha : a < W.heap.size) (k : St a w w1) : PT a W R pR cR vL B C ov O sub len v M w1 := by
 have hn : ∀ b, W.heap.size ≤ b → some b ≠ some a := fun b hb e => by have := Option.some.inj e; omega
 have hlo := h.lo
 exact ⟨kept_row h.tb k.1 (hn _ (by omega)), kept_row h.rs k.1 (hn _ (by omega)), kept_row h.bx k.1 (hn _ (by omega)), h.rd.grown k.1 (fun b hb e => hb.1 (Option.some.inj e)), h.od.grown k.1 (fun b hb => hn _ (by omega)), own_other h.own k.1 (by omega), h.st.trans k, h.lo.1, h.lo.2.1, Nat.le_trans h.lo.2.2 k.1.size⟩
theorem PT.keep (h : PT a W R pR cR vL B C ov O sub len v M w) (g : w.grownBy w1 none) : PT a W R pR cR vL B C ov O sub len v M w1 :=
 ⟨kept_row h.tb g (by simp), kept_row h.rs g (by simp), kept_row h.bx g (by simp), h.rd.keep g, h.od.keep g, h.own.kept g (by cases v.ownBlock <;> simp), h.st.none_ g, h.lo.1, h.lo.2.1, Nat.le_trans h.lo.2.2 g.size⟩
theorem PT.box (h : PT a W R pR cR vL B C ov O sub len v M w) (ha : a < W.heap.size) (g : w.grownBy w1 (some B)) {sub2 len2 : Int} {v2 : Value} (hb : w1.heap[B]? = some (.cells #[.int .i64 sub2, .int .i64 len2, v2] 72 (0, 0))) (ho : w1.ownsRow C 78 2 v2 N.length (N.flatMap edC)) : PT a W R pR cR vL B C ov O sub2 len2 v2 N w1 := by
 have hlo := h.lo
 have hn : ∀ b, b < B → some b ≠ some B := fun b hb e => by have := Option.some.inj e; omega
 exact ⟨kept_row h.tb g (hn _ (by omega)), kept_row h.rs g (hn _ (by omega)), hb, h.rd.grown g (fun b hb => hn _ (by have := hb.2; omega)), h.od.grown g (fun b hb e => by have := Option.some.inj e; omega), ho, h.st.storeT g (by omega) ha, h.lo.1, h.lo.2.1, Nat.le_trans h.lo.2.2 g.size⟩
theorem PT.sub_ (h : PT a W R pR cR vL B C ov O sub len v M w) (ha : a < W.heap.size) (s : Int) : PT a W R pR cR vL B C ov O s len v M (w.setCell ⟨B, 0, none⟩ (.int .i64 s)) :=
 h.box ha (grown_setCell w ⟨B, 0, none⟩ _) (heap_setCell_same w B 0 _ _ _ h.bx) (own_other h.own (grown_setCell w ⟨B, _, none⟩ _) h.lo.2.1)
theorem PT.len_ (h : PT a W R pR cR vL B C ov O sub len v M w) (ha : a < W.heap.size) (s : Int) : PT a W R pR cR vL B C ov O sub s v M (w.setCell ⟨B, 1, none⟩ (.int .i64 s)) :=
 h.box ha (grown_setCell w ⟨B, 1, none⟩ _) (heap_setCell_same w B 1 _ _ _ h.bx) (own_other h.own (grown_setCell w ⟨B, _, none⟩ _) h.lo.2.1)
theorem PT.mid (h : PT a W R pR cR vL B C ov O sub len v M w) (ha : a < W.heap.size) (hown : w1.ownsRow C 78 2 v' N.length (N.flatMap edC)) (hg : w.grownBy w1 v.ownBlock) :
  w1.heap[B]? = some (.cells #[.int .i64 sub, .int .i64 len, v] 72 (0, 0)) ∧ PT a W R pR cR vL B C ov O sub len v' N (w1.setCell ⟨B, 2, none⟩ v') := by
 have hlo := h.lo
 have hne : ∀ b, b < C → some b ≠ v.ownBlock := fun b hb e => by have := (h.own.lt b e.symm).1; omega
 have hb := kept_row h.bx hg (hne B hlo.2.1)
 have k9 : w1.grownBy (w1.setCell ⟨B, 2, none⟩ v') (some B) := grown_setCell w1 ⟨B, 2, none⟩ v'
 have hn : ∀ b, b < B → some b ≠ some B := fun b hb e => by have := Option.some.inj e; omega
 refine ⟨hb, ⟨kept_row (kept_row h.tb hg (hne _ (by omega))) k9 (hn _ (by omega)), kept_row (kept_row h.rs hg (hne _ (by omega))) k9 (hn _ (by omega)), heap_setCell_same w1 B 2 _ _ v' hb, (h.rd.grown hg (fun b hb => hne b (by have := hb.2; omega))).grown k9 (fun b hb => hn _ (by have := hb.2; omega)), (h.od.grown hg (fun b hb => hne b hb.2)).grown k9 (fun b hb e => by have := Option.some.inj e; omega), ?_, (h.st.rowT h.own (by omega) ha hg).storeT k9 (by omega) ha, h.lo.1, h.lo.2.1, Nat.le_trans (Nat.le_trans h.lo.2.2 hg.size) k9.size⟩⟩
 refine hown.kept k9 ?_
 cases hv : v'.ownBlock with
 | none => exact .inl rfl
 | some k => exact .inr (fun e => by have := (hown.lt k hv).1; have := Option.some.inj e; omega)
end
theorem Among.more {P : Int → Prop} {w w' : World} {a b off n : Nat} (h : Among P w a b off n) (g : w.grownBy w' (some a)) : Among P w' a b off n :=
 ⟨h.1, Nat.lt_of_lt_of_le h.2.1 g.size, fun i hi => by obtain ⟨x, hx, hc⟩ := h.2.2 i hi; exact ⟨x, hx, g.cell hc (by simpa using h.1)⟩⟩
theorem among_pt {w : World} {a : Nat} (ha : a < w.heap.size) (l : List Int) (cs : Array Value) (t : TypeId) (hl : cs = (l.map fun x => Value.int .i64 x).toArray) : ∀ p, p = w.heap.size → Among (fun _ => True) (w.alloc (.cells cs t)) a p 0 cs.size := by
 rintro p rfl
 exact among_list (fun _ => True) w a l cs t ha hl (fun _ _ => trivial)
theorem own_p3 {w : World} {base size n cap : Nat} {e : TypeId} {p : Option Addr} {xs : List Value} (h : w.ownsRow base e size (.slice p n cap) n xs) (hn : 0 < n) : ∃ g, p = some ⟨g, 0, none⟩ := by
 rcases h.2 with ⟨e1, h0⟩ | ⟨g, c, cur, e1, _⟩
 ·omega
 ·injection e1 with e2; exact ⟨g, e2⟩
section
variable {a : Nat} {W w w1 : World} {R : List Rt} {pR : Option Addr} {cR B C : Nat} {vL ov : Value} {O : List Nat} {sub len : Int} {v v' : Value} {M N : List Ed}
theorem PT.tAt (h : PT a W R pR cR vL B C ov O sub len v M w) : w.cell? ⟨W.heap.size, 0, none⟩ = some (.slice pR R.length cR) := cell_of_row _ _ _ _ _ _ h.tb
theorem PT.rAt {b off k : Nat} {r : Rt} (h : PT a W R (some ⟨b, off, none⟩) cR vL B C ov O sub len v M w) (hr : R[k]? = some r) : w.cell? ⟨b, off + k * 2, none⟩ = some (.int .i64 r.id) := by
 obtain ⟨-, b1, o1, e, -, hc⟩ := rdr_cells h.rd (by have := (List.getElem?_eq_some_iff.1 hr).1; omega)
 cases e
 exact (hc k r hr).1
theorem PT.oAt {b off i n c k : Nat} (h : PT a W R pR cR vL B C (.slice (some ⟨b, off, none⟩) n c) O sub len v M w) (hk : O[i]? = some k) : w.cell? ⟨b, off + i, none⟩ = some (.int .i64 (k : Int)) := by
 obtain ⟨b1, o1, e, -, hc⟩ := rdAt_T h.od (i := i) (x := zv k) (by rw [List.getElem?_map, hk]; rfl)
 cases e
 exact hc
theorem PT.eAt {g cap : Nat} (h : PT a W R pR cR vL B C ov O sub len (.slice (some ⟨g, 0, none⟩) M.length cap) M w) (hm : 0 < M.length) : ∃ x, w.cell? ⟨g, 1, none⟩ = some (.int .i64 x) := by
 obtain ⟨-, b1, o1, e, -, hc⟩ := RdF.cells (f := edC) (k := 2) (fun _ => rfl) (by decide) (rdf_of_own h.own) hm
 cases e
 have := hc 0 M[0] (List.getElem?_eq_getElem hm) 1 _ rfl
 exact ⟨_, by simpa using this⟩
theorem PT.setE {g cap : Nat} (h : PT a W R pR cR vL B C ov O sub len (.slice (some ⟨g, 0, none⟩) M.length cap) M w) (ha : a < W.heap.size) (hm : 0 < M.length) (x : Int) :
  ∃ N : List Ed, N.length = M.length ∧ PT a W R pR cR vL B C ov O sub len (.slice (some ⟨g, 0, none⟩) M.length cap) N (w.setCell ⟨g, 1, none⟩ (.int .i64 x)) := by
 obtain ⟨e0, t, rfl⟩ : ∃ e0 t, M = e0 :: t := by
  cases M with
  | nil => simp at hm
  | cons e0 t => exact ⟨e0, t, rfl⟩
 have hlo := h.lo
 have hg := h.own.lt g rfl
 have hn : ∀ b, b < C → some b ≠ some g := fun b hb e => by have := Option.some.inj e; omega
 have gg := grown_setCell w ⟨g, 1, none⟩ (.int .i64 x)
 have ho := (h.own.stored 1 (.int .i64 x)).1
 refine ⟨⟨e0.r, x⟩ :: t, rfl, ⟨kept_row h.tb gg (hn _ (by omega)), kept_row h.rs gg (hn _ (by omega)), kept_row h.bx gg (hn _ (by omega)), h.rd.grown gg (fun b hb => hn _ (by have := hb.2; omega)), h.od.grown gg (fun b hb => hn _ hb.2), ?_, h.st.storeT gg (by show W.heap.size ≤ g; omega) ha, h.lo.1, h.lo.2.1, Nat.le_trans h.lo.2.2 gg.size⟩⟩
 simpa [edC] using ho
theorem PT.fin {p3 : Option Addr} {c3 : Nat} (h : PT a W R pR cR vL B C ov O sub len (.slice p3 M.length c3) M w) (ha : a < W.heap.size) :
  ((((w.setCell ⟨W.heap.size + 1, 0, none⟩ (.int .i64 sub)).setCell ⟨W.heap.size + 1, 1, none⟩ (.int .i64 len)).setCell ⟨W.heap.size + 1, 2, none⟩ (.slice p3 M.length c3)).heap[W.heap.size + 1]? = some (.cells #[.int .i64 sub, .int .i64 len, .slice p3 M.length c3] 72 (0, 0))) ∧
   (((w.setCell ⟨W.heap.size + 1, 0, none⟩ (.int .i64 sub)).setCell ⟨W.heap.size + 1, 1, none⟩ (.int .i64 len)).setCell ⟨W.heap.size + 1, 2, none⟩ (.slice p3 M.length c3)).ownsRow W.heap.size 78 2 (.slice p3 M.length c3) M.length (M.flatMap edC) ∧
   St a W (((w.setCell ⟨W.heap.size + 1, 0, none⟩ (.int .i64 sub)).setCell ⟨W.heap.size + 1, 1, none⟩ (.int .i64 len)).setCell ⟨W.heap.size + 1, 2, none⟩ (.slice p3 M.length c3)) := by
 have hlo := h.lo
 have h1 := heap_setCell_same w (W.heap.size + 1) 0 _ _ (.int .i64 sub) h.rs
 have h2 := heap_setCell_same _ (W.heap.size + 1) 1 _ _ (.int .i64 len) h1
 have h3 := heap_setCell_same _ (W.heap.size + 1) 2 _ _ (.slice p3 M.length c3) h2
 have gg := grown_trans (grown_trans (grown_setCell w ⟨W.heap.size + 1, 0, none⟩ (.int .i64 sub)) (grown_setCell _ ⟨W.heap.size + 1, 1, none⟩ (.int .i64 len))) (grown_setCell _ ⟨W.heap.size + 1, 2, none⟩ (.slice p3 M.length c3))
 exact ⟨h3, (own_other h.own gg (by show W.heap.size + 1 < C; omega)).mono (by omega), h.st.storeT gg (by show W.heap.size ≤ W.heap.size + 1; omega) ha⟩
end
theorem res_plT {fn : Func} {p : Tmp} (h : fn.results = #[.cell p 72]) (tmps : Array Value) (w : World) (g : Nat) (x y z : Value) (hp : tmps.getD p undef = .pointer (some ⟨g, 0, none⟩)) (hg : w.heap[g]? = some (.cells #[x, y, z] 72 (0, 0))) :
  (results fn tmps).run Tryz.prog w = .ok (.agg #[x, y, z]) w := by
 have hp' : tmps[p]?.getD undef = .pointer (some ⟨g, 0, none⟩) := by simpa using hp
 simp [results, h, hp', asAddr, run_loadVar_row w g 72 72 #[x, y, z] (0, 0) _ hg Tryz.underlying72 rfl (by kernel_rfl)]
set_option maxHeartbeats 25600000 in
theorem tplan_any (a : Nat) (n : Int) (hn : I64 n) (R : List Rt) (pR pL : Option Addr) (cR nL cL : Nat) (hRl : R.length ≤ 40) (w : World) (hT : Tp w a) (hR : RdR w (fun b => b ≠ a ∧ b < w.heap.size) (.slice pR R.length cR) R) :
  Calls Tryz.prog 25 #[.pointer (some ⟨a, 0, none⟩), .agg #[.slice pR R.length cR, .slice pL nL cL], .int .i64 n] w fun e w' => PlanTP a R n w e w' := by
 obtain ⟨ie, hie, he0, he1, he2⟩ := info_parts info_edT
 have ha := hT.lt
 obtain ⟨k1, k2⟩ := tone_box w #[.slice pR R.length cR, .slice pL nL cL] 68
 obtain ⟨k3, k4⟩ := tone_box (w.alloc (.cells #[.slice pR R.length cR, .slice pL nL cL] 68)) #[.int .i64 0, .int .i64 0, .slice none 0 0] 72
 rw [show (w.alloc (.cells #[.slice pR R.length cR, .slice pL nL cL] 68)).heap.size = w.heap.size + 1 by simp] at k3
 have H0 := Lib.hid (And.intro (kept_row k1 k4 (by simp)) (And.intro k3 (And.intro (hR.keep (grown_trans k2 k4)) (And.intro (show St a w _ from ⟨grown_none (grown_trans k2 k4) _, hT.keep (grown_trans k2 k4)⟩) (show w.heap.size + 1 < ((w.alloc (.cells #[.slice pR R.length cR, .slice pL nL cL] 68)).alloc (.cells #[.int .i64 0, .int .i64 0, .slice none 0 0] 72)).heap.size by simp)))))
 have HA := Lib.hid ha
 clear k1 k2 k3 k4 hR hT ha
 go_enter Tryz.func25, Tryz.ntmps25
 go_upto_region 1 with fail
 generalize ((w.alloc _).alloc _) = wa at *
 go_wp2_with fail
 refine (next_any a 3 (by unfold I64; omega) _ H0.out.2.2.2.1.2).mono ?_
 rintro e w1 ⟨s0, rfl, hs0, hs⟩
 have HS0 : Hid (inV s0 0 2 = true) := Lib.hid (decide_eq_true ⟨hs0.1, by have := hs0.2.1 (by omega); omega⟩)
 have hne : ∀ b, w.heap.size ≤ b → some b ≠ some a := fun b hb e => by have := Option.some.inj e; have := HA.out; omega
 have H1 := Lib.hid (And.intro (kept_row H0.out.1 hs.1 (hne _ (Nat.le_refl _))) (And.intro (kept_row H0.out.2.1 hs.1 (hne _ (by simp))) (And.intro (H0.out.2.2.1.grown hs.1 (fun b hb e => hb.1 (Option.some.inj e))) (And.intro (H0.out.2.2.2.1.trans hs) (Nat.lt_of_lt_of_le H0.out.2.2.2.2 hs.1.size)))))
 clear hs0 hs H0
 go_wp2_with fail
 refine (length_any a _ H1.out.2.2.2.1.2).mono ?_
 rintro e w2 ⟨ln, rfl, hln, hs⟩
 have HLN := Lib.hid hln
 have H2 := Lib.hid (And.intro (kept_row H1.out.1 hs.1 (hne _ (Nat.le_refl _))) (And.intro (kept_row H1.out.2.1 hs.1 (hne _ (by simp))) (And.intro (H1.out.2.2.1.grown hs.1 (fun b hb e => hb.1 (Option.some.inj e))) (And.intro (H1.out.2.2.2.1.trans hs) (Nat.lt_of_lt_of_le H1.out.2.2.2.2 hs.1.size)))))
 have hlr : ln ≤ 64 ∧ 8 ≤ ln := by
  unfold vl at hln
  simp only [Bool.or_eq_true, beq_iff_eq] at hln
  omega
 clear hs H1 hln
 obtain ⟨k1, k2⟩ := tone_box w2 #[.int .i64 s0, .int .i64 ln, .slice none 0 0] 72
 have H3 := Lib.hid (And.intro (kept_row H2.out.1 k2 (by simp)) (And.intro (kept_row H2.out.2.1 k2 (by simp)) (And.intro k1 (And.intro (H2.out.2.2.1.keep k2) (And.intro (H2.out.2.2.2.1.none_ k2) (And.intro H2.out.2.2.2.2 (show w2.heap.size < (w2.alloc (.cells #[.int .i64 s0, .int .i64 ln, .slice none 0 0] 72)).heap.size by simp)))))))
 clear k1 k2 H2
 go_upto_region 3 with fail
 generalize w2.alloc _ = w3 at *
 generalize w2.heap.size = B at *
 have t0 : w3.cell? ⟨w.heap.size, 0, none⟩ = some (.slice pR R.length cR) := cell_of_row _ _ _ _ _ _ H3.out.1
 go_wp2_with fail
 refine (order_any a R.length (by omega) w3 H3.out.2.2.2.2.1.2).mono ?_
 rintro e w4 ⟨ov, rfl, O, hO, hown, -, hs⟩
 have HO := Lib.hid hO
 have hB : w.heap.size + 1 < B := H3.out.2.2.2.2.2.1
 have P0 : Hid (PT a w R pR cR (.slice pL nL cL) B w4.heap.size ov O s0 ln (.slice none 0 0) [] w4) := Lib.hid ⟨kept_row H3.out.1 hs.1 (hne _ (Nat.le_refl _)), kept_row H3.out.2.1 hs.1 (hne _ (by omega)), kept_row H3.out.2.2.1 hs.1 (hne _ (by omega)), H3.out.2.2.2.1.grown hs.1 (fun b hb e => hb.1 (Option.some.inj e)), rd_of_ownT hown H3.out.2.2.2.2.2.2, World.ownsRow_nil _ _ _ _, H3.out.2.2.2.2.1.trans hs, hB, Nat.lt_of_lt_of_le H3.out.2.2.2.2.2.2 hs.1.size, Nat.le_refl _⟩
 obtain ⟨po, co, rfl, -, -⟩ := own_shape hown
 rw [← hO.1] at hown
 clear hown hs hO H3 t0
 generalize w4.heap.size = C at *
 have PE0 := Lib.hid (PlE.nil R O)
 go_wp2_with fail
 go_loopw [8, 10] (fun x y wr => ∃ (i : Nat) (id : Int) (v : Value) (M : List Ed), i ≤ R.length ∧ x = .int .i64 id ∧ y = .int .i64 (i : Int) ∧ 0 ≤ id ∧ id ≤ 64 * i ∧ Hid (PlE R O i id M) ∧ Hid (PT a w R pR cR (.slice pL nL cL) B C (.slice po R.length co) O s0 ln v M wr)) (fun _ y _ => R.length - (RowKit.intOf y).toNat)
 case atStart => exact ⟨0, 0, _, [], by omega, rfl, rfl, by omega, by omega, PE0, P0⟩
 case round =>
 clear P0 PE0
 obtain ⟨i, id, v, M, hi, rfl, rfl, hid0, hid1, PE, P1⟩ := hrel
 obtain ⟨w5, hw5⟩ : ∃ w5, w5 = wr := ⟨_, rfl⟩
 rw [← hw5] at P1 ⊢
 clear hw5
 by_cases hlt : i < R.length
 case pos =>
  have hlt' : (i : Int) < (R.length : Int) := by omega
  go_wp2_with fail
  refine (next_any a 4 (by unfold I64; omega) _ P1.out.st.2).mono ?_
  rintro e w6 ⟨x, rfl, -, hs⟩
  have P2 := Lib.hid (P1.out.tape HA.out hs)
  clear hs P1
  by_cases hx : x = 0
  case pos =>
   subst hx
   have PE2 := Lib.hid PE.out.skip
   go_wp2_with fail
   exact ⟨⟨i + 1, id, v, M, by omega, rfl, congrArg _ (by omega), hid0, by omega, PE2, P2⟩, by simp only [RowKit.intOf]; omega⟩
  have hx' : (x == 0) = false := by simpa using hx
  have d1 := (row3T P2.out.bx).1.2.1
  go_wp2_with fail
  refine (pick_any (fun z => 1 ≤ z ∧ z ≤ 63) a _ 0 5 5 (by omega) (by omega) _ (P2.out.st.2.alloc _) (among_list _ w6 a [1, 1, 1, 2, ln - 1] _ _ P2.out.st.2.lt rfl (by simp; omega))).mono ?_
  rintro e w7 ⟨y, rfl, hy, hs⟩
  have P3 := Lib.hid (P2.out.tape HA.out hs.alloc_left)
  clear hs P2 d1
  have hid2 : 0 ≤ id + y := by omega
  have hid3 : id + y ≤ 64 * (i + 1) := by omega
  have hid4 : id < id + y := by omega
  have hw : IntKind.i64.wrap (id + y) = id + y := IntWalk.i64_in _ (by omega)
  by_cases h256 : id + y ≤ 256
  case neg =>
   have PE2 := Lib.hid (PE.out.skip.more (Int.le_of_lt hid4))
   go_wp2_with fail
   exact ⟨⟨i + 1, id + y, v, M, by omega, rfl, congrArg _ (by omega), hid2, by omega, PE2, P3⟩, by simp only [RowKit.intOf]; omega⟩
  obtain ⟨r, hr⟩ : ∃ r, R[i]? = some r := ⟨_, List.getElem?_eq_getElem hlt⟩
  obtain ⟨k, hk⟩ : ∃ k, O[i]? = some k := ⟨_, List.getElem?_eq_getElem (by rw [HO.out.1]; exact hlt)⟩
  have hkR : k < R.length := HO.out.2.2 k (List.mem_of_getElem? hk)
  clear hr r
  obtain ⟨r, hr⟩ : ∃ r, R[k]? = some r := ⟨_, List.getElem?_eq_getElem hkR⟩
  have PE2 := Lib.hid (PE.out.add hk (ridR_at hr) hid0 hid4 h256)
  have HML := Lib.hid (show M.length ≤ 40 by have := PE.out.len; omega)
  obtain ⟨-, b, off, rfl, hbq, hcc⟩ := rdr_cells P3.out.rd (by omega)
  obtain ⟨bo, oo, rfl, hoq, c5⟩ := rdAt_T P3.out.od (i := i) (x := zv k) (by rw [List.getElem?_map, hk]; rfl)
  have HKR := Lib.hid hr
  have HKO := Lib.hid hk
  have hkR' : (k : Int) < (R.length : Int) := by omega
  clear hk hr hcc PE hbq hoq c5
  have HKd := Lib.hid (P3.out.keep (grown_drew (grown_refl _ none)))
  have hml := HML.out
  have hC0 : C ≤ w7.heap.size := P3.out.lo.2.2
  go_upto_region 10 with fail
  refine region_until (S := fun w' => Hid (PT a w R (some ⟨b, off, none⟩) cR (.slice pL nL cL) B C (.slice (some ⟨bo, oo, none⟩) R.length co) O s0 ln v M w')) (fun j => j == 14 || j == 15 || j == 16) (by kernel_rfl) (HKd) (fun hHeld => ?_)
  refine zU (i := 0) (v := ?_) rfl ?_ hHeld ?_
  rotate_left 1
  ·intro u hSu
   go_simp
   first | done | with_reducible rfl
  try simp only [Act.put, zA, zB, zC]
  refine zU (i := 1) (v := ?_) rfl ?_ hHeld ?_
  rotate_left 1
  ·intro u hSu
   obtain ⟨⟨q0, q1, q2⟩, -⟩ := row3T hSu.out.bx
   have q3 := hSu.out.tAt
   have q4 := hSu.out.rAt HKR.out
   have q5 := hSu.out.oAt HKO.out
   go_simp
   first | done | with_reducible rfl
  try simp only [Act.put, zA, zB, zC]
  refine zU (i := 2) (v := ?_) rfl ?_ hHeld ?_
  rotate_left 1
  ·intro u hSu
   go_simp
   first | done | with_reducible rfl
  try simp only [Act.put, zA, zB, zC]
  refine zU (i := 3) (v := ?_) rfl ?_ hHeld ?_
  rotate_left 1
  ·intro u hSu
   obtain ⟨⟨q0, q1, q2⟩, -⟩ := row3T hSu.out.bx
   have q3 := hSu.out.tAt
   have q4 := hSu.out.rAt HKR.out
   have q5 := hSu.out.oAt HKO.out
   go_simp
   first | done | with_reducible rfl
  try simp only [Act.put, zA, zB, zC]
  refine zU (i := 4) (v := ?_) rfl ?_ hHeld ?_
  rotate_left 1
  ·intro u hSu
   go_simp
   first | done | with_reducible rfl
  try simp only [Act.put, zA, zB, zC]
  refine zU (i := 5) (v := ?_) rfl ?_ hHeld ?_
  rotate_left 1
  ·intro u hSu
   go_simp
   first | done | with_reducible rfl
  try simp only [Act.put, zA, zB, zC]
  refine zU (i := 6) (v := ?_) rfl ?_ hHeld ?_
  rotate_left 1
  ·intro u hSu
   go_simp
   first | done | with_reducible rfl
  try simp only [Act.put, zA, zB, zC]
  refine zU (i := 7) (v := ?_) rfl ?_ hHeld ?_
  rotate_left 1
  ·intro u hSu
   obtain ⟨⟨q0, q1, q2⟩, -⟩ := row3T hSu.out.bx
   have q3 := hSu.out.tAt
   have q4 := hSu.out.rAt HKR.out
   have q5 := hSu.out.oAt HKO.out
   go_simp
   first | done | with_reducible rfl
  try simp only [Act.put, zA, zB, zC]
  refine zU (i := 8) (v := ?_) rfl ?_ hHeld ?_
  rotate_left 1
  ·intro u hSu
   go_simp
   first | done | with_reducible rfl
  try simp only [Act.put, zA, zB, zC]
  refine zU (i := 9) (v := ?_) rfl ?_ hHeld ?_
  rotate_left 1
  ·intro u hSu
   go_simp
   first | done | with_reducible rfl
  try simp only [Act.put, zA, zB, zC]
  refine zU (i := 10) (v := ?_) rfl ?_ hHeld ?_
  rotate_left 1
  ·intro u hSu
   obtain ⟨⟨q0, q1, q2⟩, -⟩ := row3T hSu.out.bx
   have q3 := hSu.out.tAt
   have q4 := hSu.out.rAt HKR.out
   have q5 := hSu.out.oAt HKO.out
   go_simp
   first | done | with_reducible rfl
  try simp only [Act.put, zA, zB, zC]
  refine zU (i := 11) (v := ?_) rfl ?_ hHeld ?_
  rotate_left 1
  ·intro u hSu
   go_simp
   first | done | with_reducible rfl
  try simp only [Act.put, zA, zB, zC]
  refine zU (i := 12) (v := ?_) rfl ?_ hHeld ?_
  rotate_left 1
  ·intro u hSu
   obtain ⟨⟨q0, q1, q2⟩, -⟩ := row3T hSu.out.bx
   have q3 := hSu.out.tAt
   have q4 := hSu.out.rAt HKR.out
   have q5 := hSu.out.oAt HKO.out
   go_simp
   first | done | with_reducible rfl
  try simp only [Act.put, zA, zB, zC]
  refine anyU_ready (rs := [13]) (by kernel_rfl) (by simp) ?_
  refine EachU.cons (o := ⟨_, _, _, _, _, _⟩) rfl (fun Kz hK => ?_) EachU.nil
  have H8 := hHeld
  go_simp
  refine hK.out _ _ (fun _ => Lib.hid (hHeld.out.keep (World.grownBy_alloc _ _ none))) (fun hH2 => ?_)
  clear hK Kz hHeld
  have hHeld := hH2 rfl
  clear hH2
  try simp only [Act.put, zA, zB, zC]
  refine anyU_ready (rs := [14]) (by kernel_rfl) (by simp) ?_
  refine EachU.cons (o := ⟨_, _, _, _, _, _⟩) rfl (fun Kz hK => ?_) EachU.nil
  refine step_append_lies _ (by rfl) _ _ 70 (by rfl) C 78 ie (.agg #[.int .i64 0, .int .i64 0]) 2 16 Tryz.underlying70 hie he0 he1 he2 rfl (by decide) v M.length (M.flatMap edC) (by rfl) (H8.out.own.alloc _) ⟨w7.drew.heap.size, 0, none⟩ 1 1 [.int .i64 r.id, .int .i64 (id + y)] (by rfl) (by rfl) (ed_rowT w7.drew ⟨r.id, id + y⟩ _) (ed_one ⟨r.id, id + y⟩) (by omega) (by unfold maxLen; omega) (by omega) (by have := H8.out.lo; simp; omega) _ rfl ?_
  intro g cap w9 hown hgrow hat hlt9
  have H9 := Lib.hid (hHeld.out.mid (N := M ++ [⟨r.id, id + y⟩]) HA.out (by rw [List.length_append, List.flatMap_append]; simpa [edC] using hown) hgrow)
  have c90 := (row3T H9.out.1).1.2.2
  have fB := frozen_of_row _ _ 2 _ _ H9.out.1
  clear hown hgrow hat hlt9
  refine hK.out _ _ (fun h => by cases h) (fun _ => ?_)
  clear hK Kz
  try simp only [Act.put, zA, zB, zC]
  refine anyU_ready (rs := [15]) (by kernel_rfl) (by simp) ?_
  refine EachU.cons (o := ⟨_, _, _, _, _, _⟩) rfl (fun Kz hK => ?_) EachU.nil
  go_simp
  refine hK.out _ _ (fun h => by cases h) (fun _ => ?_)
  clear hK Kz
  try simp only [Act.put, zA, zB, zC]
  refine anyU_ready (rs := [16]) (by kernel_rfl) (by simp) ?_
  refine EachU.cons (o := ⟨_, _, _, _, _, _⟩) rfl (fun Kz hK => ?_) EachU.nil
  go_simp
  refine hK.out _ _ (fun h => by cases h) (fun _ => ?_)
  clear hK Kz
  try simp only [Act.put, zA, zB, zC]
  refine anyU_done (by kernel_rfl) ?_ _
  have P5 := Lib.hid H9.out.2
  clear H9 H8 HKd c90 fB hHeld P3 hml
  go_wp2_with fail
  exact ⟨⟨i + 1, id + y, _, _, by omega, rfl, congrArg _ (by omega), hid2, by omega, PE2, P5⟩, by simp only [RowKit.intOf]; omega⟩
 case neg =>
  obtain rfl : i = R.length := by omega
  have hinR : ¬ (R.length : Int) < (R.length : Int) := by omega
  have HML := Lib.hid PE.out.len
  have hml := HML.out
  by_cases hn0 : 0 < n
  case neg =>
   have HZL : Hid (M.length ≤ R.length + 1) := Lib.hid (by omega)
   have HZ : Hid (n ≤ 0 → inV s0 0 2 = true ∧ vl ln = true ∧ ∃ O i id, Ord O R.length ∧ PlE R O i id M) := Lib.hid (fun _ => ⟨HS0.out, HLN.out, O, R.length, id, HO.out, PE.out⟩)
   have PZ := P1
   clear P1 hml
   obtain ⟨p3, c3, rfl, -, -⟩ := own_shape PZ.out.own
   obtain ⟨⟨d0, d1, d2⟩, -⟩ := row3T PZ.out.bx
   obtain ⟨⟨c0, c1, c2⟩, f⟩ := row3T PZ.out.rs
   have f0 := f 0
   have f1 := f 1
   have f2 := f 2
   have HT := Lib.hid (PZ.out.fin HA.out)
   clear f PZ
   go_wp2_with fail
   refine bodyPost_ret (res_plT rfl _ _ (w.heap.size + 1) _ _ _ rfl HT.out.1) rfl ?_
   exact ⟨_, _, _, p3, c3, rfl, HT.out.2.1, HZL.out, HZ.out, HT.out.2.2⟩
  case pos =>
   go_wp2_with fail
   refine (one_any a n hn _ P1.out.st.2).mono ?_
   rintro e w6 ⟨z, rfl, hs⟩
   have P2 := Lib.hid (P1.out.tape HA.out hs)
   clear hs P1
   cases z
   case false =>
    have HZL : Hid (M.length ≤ R.length + 1) := Lib.hid (by omega)
    have HZ : Hid (n ≤ 0 → inV s0 0 2 = true ∧ vl ln = true ∧ ∃ O i id, Ord O R.length ∧ PlE R O i id M) := Lib.hid (fun _ => ⟨HS0.out, HLN.out, O, R.length, id, HO.out, PE.out⟩)
    have PZ := P2
    clear P2 hml
    obtain ⟨p3, c3, rfl, -, -⟩ := own_shape PZ.out.own
    obtain ⟨⟨d0, d1, d2⟩, -⟩ := row3T PZ.out.bx
    obtain ⟨⟨c0, c1, c2⟩, f⟩ := row3T PZ.out.rs
    have f0 := f 0
    have f1 := f 1
    have f2 := f 2
    have HT := Lib.hid (PZ.out.fin HA.out)
    clear f PZ
    go_wp2_with fail
    refine bodyPost_ret (res_plT rfl _ _ (w.heap.size + 1) _ _ _ rfl HT.out.1) rfl ?_
    exact ⟨_, _, _, p3, c3, rfl, HT.out.2.1, HZL.out, HZ.out, HT.out.2.2⟩
   go_wp2_with fail
   refine (next_any a 5 (by unfold I64; omega) _ P2.out.st.2).mono ?_
   rintro e w7 ⟨qq, rfl, hq, hs⟩
   obtain ⟨q, rfl⟩ := Int.eq_ofNat_of_zero_le hq.1
   have hq7 : q < 5 := by have := hq.2.1 (by decide); omega
   have P3 := Lib.hid (P2.out.tape HA.out hs)
   clear hq hs P2
   rcases (show q = 0 ∨ q = 1 ∨ q = 2 ∨ q = 3 ∨ q = 4 by omega) with rfl | rfl | rfl | rfl | rfl
   ·skip
    go_wp2_with fail
    refine (wild_any a _ P3.out.st.2).mono ?_
    rintro e w8 ⟨x, rfl, -, hs⟩
    have P4 := Lib.hid (P3.out.tape HA.out hs)
    clear hs P3
    obtain ⟨⟨d0, d1, d2⟩, f⟩ := row3T P4.out.bx
    have f0 := f 0
    have PZ := Lib.hid (P4.out.sub_ HA.out x)
    clear P4 f
    go_upto_region 23 with fail
    generalize w8.setCell _ _ = w9 at *
    clear d0 d1 d2 f0
    have HZL : Hid (M.length ≤ R.length + 1) := Lib.hid (by omega)
    have HZ : Hid (n ≤ 0 → inV x 0 2 = true ∧ vl ln = true ∧ ∃ O i id, Ord O R.length ∧ PlE R O i id M) := Lib.hid (fun h => by omega)
    clear hml
    obtain ⟨p3, c3, rfl, -, -⟩ := own_shape PZ.out.own
    obtain ⟨⟨d0, d1, d2⟩, -⟩ := row3T PZ.out.bx
    obtain ⟨⟨c0, c1, c2⟩, f⟩ := row3T PZ.out.rs
    have f0 := f 0
    have f1 := f 1
    have f2 := f 2
    have HT := Lib.hid (PZ.out.fin HA.out)
    clear f PZ
    go_wp2_with fail
    refine bodyPost_ret (res_plT rfl _ _ (w.heap.size + 1) _ _ _ rfl HT.out.1) rfl ?_
    exact ⟨_, _, _, p3, c3, rfl, HT.out.2.1, HZL.out, HZ.out, HT.out.2.2⟩
   ·skip
    go_wp2_with fail
    refine (pick_any (fun _ => True) a _ 0 5 5 (by omega) (by omega) _ (P3.out.st.2.alloc _) (among_list _ w7 a [0, 8, 24, 64, 128] _ _ P3.out.st.2.lt rfl (fun _ _ => trivial))).mono ?_
    rintro e w8 ⟨x, rfl, -, hs⟩
    have P4 := Lib.hid (P3.out.tape HA.out hs.alloc_left)
    clear hs P3
    obtain ⟨⟨d0, d1, d2⟩, f⟩ := row3T P4.out.bx
    have f1 := f 1
    have PZ := Lib.hid (P4.out.len_ HA.out x)
    clear P4 f
    go_upto_region 23 with fail
    generalize w8.setCell _ _ = w9 at *
    clear d0 d1 d2 f1
    have HZL : Hid (M.length ≤ R.length + 1) := Lib.hid (by omega)
    have HZ : Hid (n ≤ 0 → inV s0 0 2 = true ∧ vl x = true ∧ ∃ O i id, Ord O R.length ∧ PlE R O i id M) := Lib.hid (fun h => by omega)
    clear hml
    obtain ⟨p3, c3, rfl, -, -⟩ := own_shape PZ.out.own
    obtain ⟨⟨d0, d1, d2⟩, -⟩ := row3T PZ.out.bx
    obtain ⟨⟨c0, c1, c2⟩, f⟩ := row3T PZ.out.rs
    have f0 := f 0
    have f1 := f 1
    have f2 := f 2
    have HT := Lib.hid (PZ.out.fin HA.out)
    clear f PZ
    go_wp2_with fail
    refine bodyPost_ret (res_plT rfl _ _ (w.heap.size + 1) _ _ _ rfl HT.out.1) rfl ?_
    exact ⟨_, _, _, p3, c3, rfl, HT.out.2.1, HZL.out, HZ.out, HT.out.2.2⟩
   ·skip
    have HKd := Lib.hid (P3.out.keep (grown_drew (grown_refl _ none)))
    go_upto_region 19 with fail
    refine region_until (S := fun w' => Hid (PT a w R pR cR (.slice pL nL cL) B C (.slice po R.length co) O s0 ln v M w')) (fun j => j == 10 || j == 11 || j == 12) (by kernel_rfl) (HKd) (fun hHeld => ?_)
    refine zU (i := 0) (v := ?_) rfl ?_ hHeld ?_
    rotate_left 1
    ·intro u hSu
     go_simp
     first | done | with_reducible rfl
    try simp only [Act.put, zA, zB, zC]
    refine zU (i := 1) (v := ?_) rfl ?_ hHeld ?_
    rotate_left 1
    ·intro u hSu
     obtain ⟨⟨q0, q1, q2⟩, -⟩ := row3T hSu.out.bx
     go_simp
     first | done | with_reducible rfl
    try simp only [Act.put, zA, zB, zC]
    refine zU (i := 2) (v := ?_) rfl ?_ hHeld ?_
    rotate_left 1
    ·intro u hSu
     go_simp
     first | done | with_reducible rfl
    try simp only [Act.put, zA, zB, zC]
    refine zU (i := 5) (v := ?_) rfl ?_ hHeld ?_
    rotate_left 1
    ·intro u hSu
     go_simp
     first | done | with_reducible rfl
    try simp only [Act.put, zA, zB, zC]
    refine anyU_ready (rs := [3, 6]) (by kernel_rfl) (by simp) ?_
    refine EachU.cons (o := ⟨_, _, _, _, _, _⟩) rfl (fun Kz hK => ?_) (EachU.cons (o := ⟨_, _, _, _, _, _⟩) rfl (fun Kz hK => ?_) EachU.nil)
    ·go_simp
     have hA3 := Lib.hid (among_pt hHeld.out.st.2.lt [0, 1, 99, 100] #[.int .i64 0, .int .i64 1, .int .i64 99, .int .i64 100] 3 rfl)
     try (have hB := Lib.hid (fun p hp => (hA6.out p hp).more (World.grownBy_alloc _ (.cells #[.int .i64 0, .int .i64 1, .int .i64 99, .int .i64 100] 3) _)); clear hA6; have hA6 := hB; clear hB)
     refine hK.out _ _ (fun _ => Lib.hid (hHeld.out.keep (World.grownBy_alloc _ _ none))) (fun hH2 => ?_)
     clear hK Kz hHeld
     have hHeld := hH2 rfl
     clear hH2
     try simp only [Act.put, zA, zB, zC]
     refine anyU_ready (rs := [4, 6]) (by kernel_rfl) (by simp) ?_
     refine EachU.cons (o := ⟨_, _, _, _, _, _⟩) rfl (fun Kz hK => ?_) (EachU.cons (o := ⟨_, _, _, _, _, _⟩) rfl (fun Kz hK => ?_) EachU.nil)
     ·go_simp
      go_at_call 27
      refine (pick_any (fun _ => True) a _ 0 4 4 (by omega) (by omega) _ hHeld.out.st.2 (hA3.out _ (by first | rfl | simp))).mono ?_
      rintro e w8 ⟨x1, rfl, -, hs⟩
      have H5n := Lib.hid (hHeld.out.tape HA.out hs)
      try (have hB := Lib.hid (fun p hp => (hA6.out p hp).more hs.1); clear hA6; have hA6 := hB; clear hB)
      clear hs hA3
      refine hK.out _ _ (fun _ => H5n) (fun hH2 => ?_)
      clear hK Kz hHeld
      have hHeld := hH2 rfl
      clear hH2
      try simp only [Act.put, zA, zB, zC]
      refine anyU_ready (rs := [6]) (by kernel_rfl) (by simp) ?_
      refine EachU.cons (o := ⟨_, _, _, _, _, _⟩) rfl (fun Kz hK => ?_) EachU.nil
      go_simp
      have hA6 := Lib.hid (among_pt hHeld.out.st.2.lt [0, 1, 256, 257] #[.int .i64 0, .int .i64 1, .int .i64 256, .int .i64 257] 3 rfl)
      try (have hB := Lib.hid (fun p hp => (hA3.out p hp).more (World.grownBy_alloc _ (.cells #[.int .i64 0, .int .i64 1, .int .i64 256, .int .i64 257] 3) _)); clear hA3; have hA3 := hB; clear hB)
      refine hK.out _ _ (fun _ => Lib.hid (hHeld.out.keep (World.grownBy_alloc _ _ none))) (fun hH2 => ?_)
      clear hK Kz hHeld
      have hHeld := hH2 rfl
      clear hH2
      try simp only [Act.put, zA, zB, zC]
      refine anyU_ready (rs := [7]) (by kernel_rfl) (by simp) ?_
      refine EachU.cons (o := ⟨_, _, _, _, _, _⟩) rfl (fun Kz hK => ?_) EachU.nil
      go_simp
      go_at_call 27
      refine (pick_any (fun _ => True) a _ 0 4 4 (by omega) (by omega) _ hHeld.out.st.2 (hA6.out _ (by first | rfl | simp))).mono ?_
      rintro e w8b ⟨x2, rfl, -, hs⟩
      have H5n := Lib.hid (hHeld.out.tape HA.out hs)
      try (have hB := Lib.hid (fun p hp => (hA3.out p hp).more hs.1); clear hA3; have hA3 := hB; clear hB)
      clear hs hA6
      refine hK.out _ _ (fun _ => H5n) (fun hH2 => ?_)
      clear hK Kz hHeld
      have hHeld := hH2 rfl
      clear hH2
      try simp only [Act.put, zA, zB, zC]
      refine zU (i := 8) (v := ?_) rfl ?_ hHeld ?_
      rotate_left 1
      ·intro u hSu
       obtain ⟨⟨q0, q1, q2⟩, -⟩ := row3T hSu.out.bx
       go_simp
       first | done | with_reducible rfl
      try simp only [Act.put, zA, zB, zC]
      refine anyU_ready (rs := [9]) (by kernel_rfl) (by simp) ?_
      refine EachU.cons (o := ⟨_, _, _, _, _, _⟩) rfl (fun Kz hK => ?_) EachU.nil
      have H8 := hHeld
      go_simp
      refine hK.out _ _ (fun _ => Lib.hid (hHeld.out.keep (World.grownBy_alloc _ _ none))) (fun hH2 => ?_)
      clear hK Kz hHeld
      have hHeld := hH2 rfl
      clear hH2
      try simp only [Act.put, zA, zB, zC]
      refine anyU_ready (rs := [10]) (by kernel_rfl) (by simp) ?_
      refine EachU.cons (o := ⟨_, _, _, _, _, _⟩) rfl (fun Kz hK => ?_) EachU.nil
      refine step_append_lies _ (by rfl) _ _ 70 (by rfl) C 78 ie (.agg #[.int .i64 0, .int .i64 0]) 2 16 Tryz.underlying70 hie he0 he1 he2 rfl (by decide) v M.length (M.flatMap edC) (by rfl) (H8.out.own.alloc _) ⟨w8b.heap.size, 0, none⟩ 1 1 [.int .i64 x1, .int .i64 x2] (by rfl) (by rfl) (ed_rowT w8b ⟨x1, x2⟩ _) (ed_one ⟨x1, x2⟩) (by omega) (by unfold maxLen; omega) (by omega) (by have := H8.out.lo; simp; omega) _ rfl ?_
      intro g cap w9 hown hgrow hat hlt9
      have H9 := Lib.hid (hHeld.out.mid (N := M ++ [⟨x1, x2⟩]) HA.out (by rw [List.length_append, List.flatMap_append]; simpa [edC] using hown) hgrow)
      have c90 := (row3T H9.out.1).1.2.2
      have fB := frozen_of_row _ _ 2 _ _ H9.out.1
      clear hown hgrow hat hlt9
      refine hK.out _ _ (fun h => by cases h) (fun _ => ?_)
      clear hK Kz
      try simp only [Act.put, zA, zB, zC]
      refine anyU_ready (rs := [11]) (by kernel_rfl) (by simp) ?_
      refine EachU.cons (o := ⟨_, _, _, _, _, _⟩) rfl (fun Kz hK => ?_) EachU.nil
      go_simp
      refine hK.out _ _ (fun h => by cases h) (fun _ => ?_)
      clear hK Kz
      try simp only [Act.put, zA, zB, zC]
      refine anyU_ready (rs := [12]) (by kernel_rfl) (by simp) ?_
      refine EachU.cons (o := ⟨_, _, _, _, _, _⟩) rfl (fun Kz hK => ?_) EachU.nil
      go_simp
      refine hK.out _ _ (fun h => by cases h) (fun _ => ?_)
      clear hK Kz
      try simp only [Act.put, zA, zB, zC]
      refine anyU_done (by kernel_rfl) ?_ _
      have PZ := Lib.hid H9.out.2
      have hNl : (M ++ [(⟨x1, x2⟩ : Ed)]).length ≤ R.length + 1 := by rw [List.length_append]; simp; omega
      clear H9 H8 HKd c90 fB hHeld P3 hml
      obtain ⟨N, hN⟩ : ∃ N, (M ++ [(⟨x1, x2⟩ : Ed)]) = N := ⟨_, rfl⟩
      rw [hN] at PZ hNl
      clear hN
      have HZL : Hid (N.length ≤ R.length + 1) := Lib.hid (hNl)
      have HZ : Hid (n ≤ 0 → inV s0 0 2 = true ∧ vl ln = true ∧ ∃ O i id, Ord O R.length ∧ PlE R O i id N) := Lib.hid (fun h => by omega)
      clear hNl
      go_upto_region 23 with fail
      generalize w9.setCell _ _ = w10 at *
      obtain ⟨vv, hvv⟩ : ∃ vv, Value.slice (some ⟨g, 0, none⟩) (M.length + 1) cap = vv := ⟨_, rfl⟩
      rw [hvv] at PZ
      clear hvv
      obtain ⟨p3, c3, rfl, -, -⟩ := own_shape PZ.out.own
      obtain ⟨⟨d0, d1, d2⟩, -⟩ := row3T PZ.out.bx
      obtain ⟨⟨c0, c1, c2⟩, f⟩ := row3T PZ.out.rs
      have f0 := f 0
      have f1 := f 1
      have f2 := f 2
      have HT := Lib.hid (PZ.out.fin HA.out)
      clear f PZ
      go_wp2_with fail
      refine bodyPost_ret (res_plT rfl _ _ (w.heap.size + 1) _ _ _ rfl HT.out.1) rfl ?_
      exact ⟨_, _, _, p3, c3, rfl, HT.out.2.1, HZL.out, HZ.out, HT.out.2.2⟩
     ·go_simp
      have hA6 := Lib.hid (among_pt hHeld.out.st.2.lt [0, 1, 256, 257] #[.int .i64 0, .int .i64 1, .int .i64 256, .int .i64 257] 3 rfl)
      try (have hB := Lib.hid (fun p hp => (hA3.out p hp).more (World.grownBy_alloc _ (.cells #[.int .i64 0, .int .i64 1, .int .i64 256, .int .i64 257] 3) _)); clear hA3; have hA3 := hB; clear hB)
      refine hK.out _ _ (fun _ => Lib.hid (hHeld.out.keep (World.grownBy_alloc _ _ none))) (fun hH2 => ?_)
      clear hK Kz hHeld
      have hHeld := hH2 rfl
      clear hH2
      try simp only [Act.put, zA, zB, zC]
      refine anyU_ready (rs := [4]) (by kernel_rfl) (by simp) ?_
      refine EachU.cons (o := ⟨_, _, _, _, _, _⟩) rfl (fun Kz hK => ?_) EachU.nil
      go_simp
      go_at_call 27
      refine (pick_any (fun _ => True) a _ 0 4 4 (by omega) (by omega) _ hHeld.out.st.2 (hA3.out _ (by first | rfl | simp))).mono ?_
      rintro e w8 ⟨x1, rfl, -, hs⟩
      have H5n := Lib.hid (hHeld.out.tape HA.out hs)
      try (have hB := Lib.hid (fun p hp => (hA6.out p hp).more hs.1); clear hA6; have hA6 := hB; clear hB)
      clear hs hA3
      refine hK.out _ _ (fun _ => H5n) (fun hH2 => ?_)
      clear hK Kz hHeld
      have hHeld := hH2 rfl
      clear hH2
      try simp only [Act.put, zA, zB, zC]
      refine anyU_ready (rs := [7]) (by kernel_rfl) (by simp) ?_
      refine EachU.cons (o := ⟨_, _, _, _, _, _⟩) rfl (fun Kz hK => ?_) EachU.nil
      go_simp
      go_at_call 27
      refine (pick_any (fun _ => True) a _ 0 4 4 (by omega) (by omega) _ hHeld.out.st.2 (hA6.out _ (by first | rfl | simp))).mono ?_
      rintro e w8b ⟨x2, rfl, -, hs⟩
      have H5n := Lib.hid (hHeld.out.tape HA.out hs)
      try (have hB := Lib.hid (fun p hp => (hA3.out p hp).more hs.1); clear hA3; have hA3 := hB; clear hB)
      clear hs hA6
      refine hK.out _ _ (fun _ => H5n) (fun hH2 => ?_)
      clear hK Kz hHeld
      have hHeld := hH2 rfl
      clear hH2
      try simp only [Act.put, zA, zB, zC]
      refine zU (i := 8) (v := ?_) rfl ?_ hHeld ?_
      rotate_left 1
      ·intro u hSu
       obtain ⟨⟨q0, q1, q2⟩, -⟩ := row3T hSu.out.bx
       go_simp
       first | done | with_reducible rfl
      try simp only [Act.put, zA, zB, zC]
      refine anyU_ready (rs := [9]) (by kernel_rfl) (by simp) ?_
      refine EachU.cons (o := ⟨_, _, _, _, _, _⟩) rfl (fun Kz hK => ?_) EachU.nil
      have H8 := hHeld
      go_simp
      refine hK.out _ _ (fun _ => Lib.hid (hHeld.out.keep (World.grownBy_alloc _ _ none))) (fun hH2 => ?_)
      clear hK Kz hHeld
      have hHeld := hH2 rfl
      clear hH2
      try simp only [Act.put, zA, zB, zC]
      refine anyU_ready (rs := [10]) (by kernel_rfl) (by simp) ?_
      refine EachU.cons (o := ⟨_, _, _, _, _, _⟩) rfl (fun Kz hK => ?_) EachU.nil
      refine step_append_lies _ (by rfl) _ _ 70 (by rfl) C 78 ie (.agg #[.int .i64 0, .int .i64 0]) 2 16 Tryz.underlying70 hie he0 he1 he2 rfl (by decide) v M.length (M.flatMap edC) (by rfl) (H8.out.own.alloc _) ⟨w8b.heap.size, 0, none⟩ 1 1 [.int .i64 x1, .int .i64 x2] (by rfl) (by rfl) (ed_rowT w8b ⟨x1, x2⟩ _) (ed_one ⟨x1, x2⟩) (by omega) (by unfold maxLen; omega) (by omega) (by have := H8.out.lo; simp; omega) _ rfl ?_
      intro g cap w9 hown hgrow hat hlt9
      have H9 := Lib.hid (hHeld.out.mid (N := M ++ [⟨x1, x2⟩]) HA.out (by rw [List.length_append, List.flatMap_append]; simpa [edC] using hown) hgrow)
      have c90 := (row3T H9.out.1).1.2.2
      have fB := frozen_of_row _ _ 2 _ _ H9.out.1
      clear hown hgrow hat hlt9
      refine hK.out _ _ (fun h => by cases h) (fun _ => ?_)
      clear hK Kz
      try simp only [Act.put, zA, zB, zC]
      refine anyU_ready (rs := [11]) (by kernel_rfl) (by simp) ?_
      refine EachU.cons (o := ⟨_, _, _, _, _, _⟩) rfl (fun Kz hK => ?_) EachU.nil
      go_simp
      refine hK.out _ _ (fun h => by cases h) (fun _ => ?_)
      clear hK Kz
      try simp only [Act.put, zA, zB, zC]
      refine anyU_ready (rs := [12]) (by kernel_rfl) (by simp) ?_
      refine EachU.cons (o := ⟨_, _, _, _, _, _⟩) rfl (fun Kz hK => ?_) EachU.nil
      go_simp
      refine hK.out _ _ (fun h => by cases h) (fun _ => ?_)
      clear hK Kz
      try simp only [Act.put, zA, zB, zC]
      refine anyU_done (by kernel_rfl) ?_ _
      have PZ := Lib.hid H9.out.2
      have hNl : (M ++ [(⟨x1, x2⟩ : Ed)]).length ≤ R.length + 1 := by rw [List.length_append]; simp; omega
      clear H9 H8 HKd c90 fB hHeld P3 hml
      obtain ⟨N, hN⟩ : ∃ N, (M ++ [(⟨x1, x2⟩ : Ed)]) = N := ⟨_, rfl⟩
      rw [hN] at PZ hNl
      clear hN
      have HZL : Hid (N.length ≤ R.length + 1) := Lib.hid (hNl)
      have HZ : Hid (n ≤ 0 → inV s0 0 2 = true ∧ vl ln = true ∧ ∃ O i id, Ord O R.length ∧ PlE R O i id N) := Lib.hid (fun h => by omega)
      clear hNl
      go_upto_region 23 with fail
      generalize w9.setCell _ _ = w10 at *
      obtain ⟨vv, hvv⟩ : ∃ vv, Value.slice (some ⟨g, 0, none⟩) (M.length + 1) cap = vv := ⟨_, rfl⟩
      rw [hvv] at PZ
      clear hvv
      obtain ⟨p3, c3, rfl, -, -⟩ := own_shape PZ.out.own
      obtain ⟨⟨d0, d1, d2⟩, -⟩ := row3T PZ.out.bx
      obtain ⟨⟨c0, c1, c2⟩, f⟩ := row3T PZ.out.rs
      have f0 := f 0
      have f1 := f 1
      have f2 := f 2
      have HT := Lib.hid (PZ.out.fin HA.out)
      clear f PZ
      go_wp2_with fail
      refine bodyPost_ret (res_plT rfl _ _ (w.heap.size + 1) _ _ _ rfl HT.out.1) rfl ?_
      exact ⟨_, _, _, p3, c3, rfl, HT.out.2.1, HZL.out, HZ.out, HT.out.2.2⟩
    ·go_simp
     have hA6 := Lib.hid (among_pt hHeld.out.st.2.lt [0, 1, 256, 257] #[.int .i64 0, .int .i64 1, .int .i64 256, .int .i64 257] 3 rfl)
     try (have hB := Lib.hid (fun p hp => (hA3.out p hp).more (World.grownBy_alloc _ (.cells #[.int .i64 0, .int .i64 1, .int .i64 256, .int .i64 257] 3) _)); clear hA3; have hA3 := hB; clear hB)
     refine hK.out _ _ (fun _ => Lib.hid (hHeld.out.keep (World.grownBy_alloc _ _ none))) (fun hH2 => ?_)
     clear hK Kz hHeld
     have hHeld := hH2 rfl
     clear hH2
     try simp only [Act.put, zA, zB, zC]
     refine anyU_ready (rs := [3]) (by kernel_rfl) (by simp) ?_
     refine EachU.cons (o := ⟨_, _, _, _, _, _⟩) rfl (fun Kz hK => ?_) EachU.nil
     go_simp
     have hA3 := Lib.hid (among_pt hHeld.out.st.2.lt [0, 1, 99, 100] #[.int .i64 0, .int .i64 1, .int .i64 99, .int .i64 100] 3 rfl)
     try (have hB := Lib.hid (fun p hp => (hA6.out p hp).more (World.grownBy_alloc _ (.cells #[.int .i64 0, .int .i64 1, .int .i64 99, .int .i64 100] 3) _)); clear hA6; have hA6 := hB; clear hB)
     refine hK.out _ _ (fun _ => Lib.hid (hHeld.out.keep (World.grownBy_alloc _ _ none))) (fun hH2 => ?_)
     clear hK Kz hHeld
     have hHeld := hH2 rfl
     clear hH2
     try simp only [Act.put, zA, zB, zC]
     refine anyU_ready (rs := [4]) (by kernel_rfl) (by simp) ?_
     refine EachU.cons (o := ⟨_, _, _, _, _, _⟩) rfl (fun Kz hK => ?_) EachU.nil
     go_simp
     go_at_call 27
     refine (pick_any (fun _ => True) a _ 0 4 4 (by omega) (by omega) _ hHeld.out.st.2 (hA3.out _ (by first | rfl | simp))).mono ?_
     rintro e w8 ⟨x1, rfl, -, hs⟩
     have H5n := Lib.hid (hHeld.out.tape HA.out hs)
     try (have hB := Lib.hid (fun p hp => (hA6.out p hp).more hs.1); clear hA6; have hA6 := hB; clear hB)
     clear hs hA3
     refine hK.out _ _ (fun _ => H5n) (fun hH2 => ?_)
     clear hK Kz hHeld
     have hHeld := hH2 rfl
     clear hH2
     try simp only [Act.put, zA, zB, zC]
     refine anyU_ready (rs := [7]) (by kernel_rfl) (by simp) ?_
     refine EachU.cons (o := ⟨_, _, _, _, _, _⟩) rfl (fun Kz hK => ?_) EachU.nil
     go_simp
     go_at_call 27
     refine (pick_any (fun _ => True) a _ 0 4 4 (by omega) (by omega) _ hHeld.out.st.2 (hA6.out _ (by first | rfl | simp))).mono ?_
     rintro e w8b ⟨x2, rfl, -, hs⟩
     have H5n := Lib.hid (hHeld.out.tape HA.out hs)
     try (have hB := Lib.hid (fun p hp => (hA3.out p hp).more hs.1); clear hA3; have hA3 := hB; clear hB)
     clear hs hA6
     refine hK.out _ _ (fun _ => H5n) (fun hH2 => ?_)
     clear hK Kz hHeld
     have hHeld := hH2 rfl
     clear hH2
     try simp only [Act.put, zA, zB, zC]
     refine zU (i := 8) (v := ?_) rfl ?_ hHeld ?_
     rotate_left 1
     ·intro u hSu
      obtain ⟨⟨q0, q1, q2⟩, -⟩ := row3T hSu.out.bx
      go_simp
      first | done | with_reducible rfl
     try simp only [Act.put, zA, zB, zC]
     refine anyU_ready (rs := [9]) (by kernel_rfl) (by simp) ?_
     refine EachU.cons (o := ⟨_, _, _, _, _, _⟩) rfl (fun Kz hK => ?_) EachU.nil
     have H8 := hHeld
     go_simp
     refine hK.out _ _ (fun _ => Lib.hid (hHeld.out.keep (World.grownBy_alloc _ _ none))) (fun hH2 => ?_)
     clear hK Kz hHeld
     have hHeld := hH2 rfl
     clear hH2
     try simp only [Act.put, zA, zB, zC]
     refine anyU_ready (rs := [10]) (by kernel_rfl) (by simp) ?_
     refine EachU.cons (o := ⟨_, _, _, _, _, _⟩) rfl (fun Kz hK => ?_) EachU.nil
     refine step_append_lies _ (by rfl) _ _ 70 (by rfl) C 78 ie (.agg #[.int .i64 0, .int .i64 0]) 2 16 Tryz.underlying70 hie he0 he1 he2 rfl (by decide) v M.length (M.flatMap edC) (by rfl) (H8.out.own.alloc _) ⟨w8b.heap.size, 0, none⟩ 1 1 [.int .i64 x1, .int .i64 x2] (by rfl) (by rfl) (ed_rowT w8b ⟨x1, x2⟩ _) (ed_one ⟨x1, x2⟩) (by omega) (by unfold maxLen; omega) (by omega) (by have := H8.out.lo; simp; omega) _ rfl ?_
     intro g cap w9 hown hgrow hat hlt9
     have H9 := Lib.hid (hHeld.out.mid (N := M ++ [⟨x1, x2⟩]) HA.out (by rw [List.length_append, List.flatMap_append]; simpa [edC] using hown) hgrow)
     have c90 := (row3T H9.out.1).1.2.2
     have fB := frozen_of_row _ _ 2 _ _ H9.out.1
     clear hown hgrow hat hlt9
     refine hK.out _ _ (fun h => by cases h) (fun _ => ?_)
     clear hK Kz
     try simp only [Act.put, zA, zB, zC]
     refine anyU_ready (rs := [11]) (by kernel_rfl) (by simp) ?_
     refine EachU.cons (o := ⟨_, _, _, _, _, _⟩) rfl (fun Kz hK => ?_) EachU.nil
     go_simp
     refine hK.out _ _ (fun h => by cases h) (fun _ => ?_)
     clear hK Kz
     try simp only [Act.put, zA, zB, zC]
     refine anyU_ready (rs := [12]) (by kernel_rfl) (by simp) ?_
     refine EachU.cons (o := ⟨_, _, _, _, _, _⟩) rfl (fun Kz hK => ?_) EachU.nil
     go_simp
     refine hK.out _ _ (fun h => by cases h) (fun _ => ?_)
     clear hK Kz
     try simp only [Act.put, zA, zB, zC]
     refine anyU_done (by kernel_rfl) ?_ _
     have PZ := Lib.hid H9.out.2
     have hNl : (M ++ [(⟨x1, x2⟩ : Ed)]).length ≤ R.length + 1 := by rw [List.length_append]; simp; omega
     clear H9 H8 HKd c90 fB hHeld P3 hml
     obtain ⟨N, hN⟩ : ∃ N, (M ++ [(⟨x1, x2⟩ : Ed)]) = N := ⟨_, rfl⟩
     rw [hN] at PZ hNl
     clear hN
     have HZL : Hid (N.length ≤ R.length + 1) := Lib.hid (hNl)
     have HZ : Hid (n ≤ 0 → inV s0 0 2 = true ∧ vl ln = true ∧ ∃ O i id, Ord O R.length ∧ PlE R O i id N) := Lib.hid (fun h => by omega)
     clear hNl
     go_upto_region 23 with fail
     generalize w9.setCell _ _ = w10 at *
     obtain ⟨vv, hvv⟩ : ∃ vv, Value.slice (some ⟨g, 0, none⟩) (M.length + 1) cap = vv := ⟨_, rfl⟩
     rw [hvv] at PZ
     clear hvv
     obtain ⟨p3, c3, rfl, -, -⟩ := own_shape PZ.out.own
     obtain ⟨⟨d0, d1, d2⟩, -⟩ := row3T PZ.out.bx
     obtain ⟨⟨c0, c1, c2⟩, f⟩ := row3T PZ.out.rs
     have f0 := f 0
     have f1 := f 1
     have f2 := f 2
     have HT := Lib.hid (PZ.out.fin HA.out)
     clear f PZ
     go_wp2_with fail
     refine bodyPost_ret (res_plT rfl _ _ (w.heap.size + 1) _ _ _ rfl HT.out.1) rfl ?_
     exact ⟨_, _, _, p3, c3, rfl, HT.out.2.1, HZL.out, HZ.out, HT.out.2.2⟩
   ·skip
    by_cases hm0 : 0 < M.length
    case neg =>
     have hm0' : ¬ (0 : Int) < (M.length : Int) := by omega
     obtain ⟨p3, c3, rfl, -, -⟩ := own_shape P3.out.own
     obtain ⟨⟨d0, d1, d2⟩, -⟩ := row3T P3.out.bx
     have PZ := P3
     clear P3
     go_upto_region 23 with fail
     clear d0 d1 d2 hm0 hm0'
     have HZL : Hid (M.length ≤ R.length + 1) := Lib.hid (by omega)
     have HZ : Hid (n ≤ 0 → inV s0 0 2 = true ∧ vl ln = true ∧ ∃ O i id, Ord O R.length ∧ PlE R O i id M) := Lib.hid (fun h => by omega)
     clear hml
     obtain ⟨⟨d0, d1, d2⟩, -⟩ := row3T PZ.out.bx
     obtain ⟨⟨c0, c1, c2⟩, f⟩ := row3T PZ.out.rs
     have f0 := f 0
     have f1 := f 1
     have f2 := f 2
     have HT := Lib.hid (PZ.out.fin HA.out)
     clear f PZ
     go_wp2_with fail
     refine bodyPost_ret (res_plT rfl _ _ (w.heap.size + 1) _ _ _ rfl HT.out.1) rfl ?_
     exact ⟨_, _, _, p3, c3, rfl, HT.out.2.1, HZL.out, HZ.out, HT.out.2.2⟩
    have hm0' : (0 : Int) < (M.length : Int) := by omega
    obtain ⟨p3, c3, rfl, -, -⟩ := own_shape P3.out.own
    obtain ⟨g3, rfl⟩ := own_p3 P3.out.own hm0
    obtain ⟨⟨d0, d1, d2⟩, -⟩ := row3T P3.out.bx
    have HKd := Lib.hid (P3.out.keep (grown_drew (grown_refl _ none)))
    go_upto_region 22 with fail
    clear d0 d1 d2
    refine region_until (S := fun w' => Hid (PT a w R pR cR (.slice pL nL cL) B C (.slice po R.length co) O s0 ln (.slice (some ⟨g3, 0, none⟩) M.length c3) M w')) (fun j => j == 6) (by kernel_rfl) (HKd) (fun hHeld => ?_)
    refine zU (i := 0) (v := ?_) rfl ?_ hHeld ?_
    rotate_left 1
    ·intro u hSu
     go_simp
     first | done | with_reducible rfl
    try simp only [Act.put, zA, zB, zC]
    refine zU (i := 1) (v := ?_) rfl ?_ hHeld ?_
    rotate_left 1
    ·intro u hSu
     obtain ⟨⟨q0, q1, q2⟩, -⟩ := row3T hSu.out.bx
     go_simp
     first | done | with_reducible rfl
    try simp only [Act.put, zA, zB, zC]
    refine zU (i := 2) (v := ?_) rfl ?_ hHeld ?_
    rotate_left 1
    ·intro u hSu
     go_simp
     first | done | with_reducible rfl
    try simp only [Act.put, zA, zB, zC]
    refine anyU_ready (rs := [3]) (by kernel_rfl) (by simp) ?_
    refine EachU.cons (o := ⟨_, _, _, _, _, _⟩) rfl (fun Kz hK => ?_) EachU.nil
    go_simp
    go_at_call 33
    refine (wild_any a _ hHeld.out.st.2).mono ?_
    rintro e w8 ⟨x, rfl, -, hs⟩
    have H5n := Lib.hid (hHeld.out.tape HA.out hs)
    clear hs
    refine hK.out _ _ (fun _ => H5n) (fun hH2 => ?_)
    clear hK Kz hHeld
    have hHeld := hH2 rfl
    clear hH2
    try simp only [Act.put, zA, zB, zC]
    refine zU (i := 4) (v := ?_) rfl ?_ hHeld ?_
    rotate_left 1
    ·intro u hSu
     go_simp
     first | done | with_reducible rfl
    try simp only [Act.put, zA, zB, zC]
    refine zU (i := 5) (v := ?_) rfl ?_ hHeld ?_
    rotate_left 1
    ·intro u hSu
     go_simp
     first | done | with_reducible rfl
    try simp only [Act.put, zA, zB, zC]
    refine anyU_ready (rs := [6]) (by kernel_rfl) (by simp) ?_
    refine EachU.cons (o := ⟨_, _, _, _, _, _⟩) rfl (fun Kz hK => ?_) EachU.nil
    obtain ⟨x0, cS⟩ := hHeld.out.eAt hm0
    have fS := hHeld.out.own.frozenAt 1
    go_simp
    refine hK.out _ _ (fun h => by cases h) (fun _ => ?_)
    clear hK Kz
    try simp only [Act.put, zA, zB, zC]
    refine anyU_done (by kernel_rfl) ?_ _
    obtain ⟨N, hN, PZ⟩ := hHeld.out.setE HA.out hm0 x
    have PZ := Lib.hid PZ
    have HNL := Lib.hid hN
    rw [← hN] at PZ
    clear hN
    have HZL : Hid (N.length ≤ R.length + 1) := Lib.hid (by have := HNL.out; omega)
    have HZ : Hid (n ≤ 0 → inV s0 0 2 = true ∧ vl ln = true ∧ ∃ O i id, Ord O R.length ∧ PlE R O i id N) := Lib.hid (fun h => by omega)
    clear HKd hHeld P3 hml cS fS
    go_upto_region 23 with fail
    generalize w8.setCell _ _ = w10 at *
    obtain ⟨vv, hvv⟩ : ∃ vv, Value.slice (some ⟨g3, 0, none⟩) N.length c3 = vv := ⟨_, rfl⟩
    rw [hvv] at PZ
    clear hvv
    obtain ⟨p3, c3, rfl, -, -⟩ := own_shape PZ.out.own
    obtain ⟨⟨d0, d1, d2⟩, -⟩ := row3T PZ.out.bx
    obtain ⟨⟨c0, c1, c2⟩, f⟩ := row3T PZ.out.rs
    have f0 := f 0
    have f1 := f 1
    have f2 := f 2
    have HT := Lib.hid (PZ.out.fin HA.out)
    clear f PZ
    go_wp2_with fail
    refine bodyPost_ret (res_plT rfl _ _ (w.heap.size + 1) _ _ _ rfl HT.out.1) rfl ?_
    exact ⟨_, _, _, p3, c3, rfl, HT.out.2.1, HZL.out, HZ.out, HT.out.2.2⟩
   ·skip
    have hwid : IntKind.i64.wrap (id + 1) = id + 1 := IntWalk.i64_in _ (by omega)
    have HO2 := Lib.hid P3.out.own
    obtain ⟨⟨d0, d1, d2⟩, -⟩ := row3T P3.out.bx
    have hC0 : C ≤ w7.heap.size := P3.out.lo.2.2
    have hB1 : B < w7.heap.size := by have := P3.out.lo; omega
    go_wp2_with (at_builtin; refine hold_on ?_)
    refine Lib.hid ?_
    refine wpList_append_lies _ rfl _ _ 70 rfl C 78 ie (.agg #[.int .i64 0, .int .i64 0]) 2 16 Tryz.underlying70 hie he0 he1 he2 rfl (by decide) v M.length (M.flatMap edC) rfl (HO2.out.alloc _) ⟨w7.heap.size, 0, none⟩ 1 1 [.int .i64 50, .int .i64 (id + 1)] rfl rfl (ed_rowT w7 ⟨50, id + 1⟩ _) (ed_one ⟨50, id + 1⟩) (by decide) (by unfold maxLen; omega) (by omega) (by simp; omega) _ rfl ?_
    intro g cap w9 hown hgrow hat hlt9
    have H9 := Lib.hid ((P3.out.keep (World.grownBy_alloc _ _ none)).mid (N := M ++ [⟨50, id + 1⟩]) HA.out (by rw [List.length_append, List.flatMap_append]; simpa [edC] using hown) hgrow)
    have c90 := (row3T H9.out.1).1.2.2
    have fB := frozen_of_row _ _ 2 _ _ H9.out.1
    have PZ := Lib.hid H9.out.2
    have hNl : (M ++ [(⟨50, id + 1⟩ : Ed)]).length ≤ R.length + 1 := by rw [List.length_append]; simp; omega
    clear hown hgrow hat hlt9 H9 HO2 d0 d1 d2 P3 hml
    obtain ⟨N, hN⟩ : ∃ N, M ++ [(⟨50, id + 1⟩ : Ed)] = N := ⟨_, rfl⟩
    rw [hN] at PZ hNl
    clear hN
    have HZL : Hid (N.length ≤ R.length + 1) := Lib.hid (hNl)
    have HZ : Hid (n ≤ 0 → inV s0 0 2 = true ∧ vl ln = true ∧ ∃ O i id, Ord O R.length ∧ PlE R O i id N) := Lib.hid (fun h => by omega)
    clear hNl
    go_upto_region 23 with fail
    generalize w9.setCell _ _ = w10 at *
    clear c90 fB
    obtain ⟨vv, hvv⟩ : ∃ vv, Value.slice (some ⟨g, 0, none⟩) (M.length + 1) cap = vv := ⟨_, rfl⟩
    rw [hvv] at PZ
    clear hvv
    obtain ⟨p3, c3, rfl, -, -⟩ := own_shape PZ.out.own
    obtain ⟨⟨d0, d1, d2⟩, -⟩ := row3T PZ.out.bx
    obtain ⟨⟨c0, c1, c2⟩, f⟩ := row3T PZ.out.rs
    have f0 := f 0
    have f1 := f 1
    have f2 := f 2
    have HT := Lib.hid (PZ.out.fin HA.out)
    clear f PZ
    go_wp2_with fail
    refine bodyPost_ret (res_plT rfl _ _ (w.heap.size + 1) _ _ _ rfl HT.out.1) rfl ?_
    exact ⟨_, _, _, p3, c3, rfl, HT.out.2.1, HZL.out, HZ.out, HT.out.2.2⟩
end Go.Proofs.YtpogblengagpaaaGreatDoor

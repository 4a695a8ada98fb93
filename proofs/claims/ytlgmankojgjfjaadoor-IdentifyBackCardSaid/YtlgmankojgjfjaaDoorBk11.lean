/- Parts of the proof, packed: IdNam, IdNamR, Ref, Draw, IdSeLaw. -/
import Derived.Test.YtlgmankojgjfjaaDoorBk6
import Derived.Test.YtlgmankojgjfjaaDoorBk10
import Derived.Test.YtlgmankojgjfjaaDoorBk1
/- identify: Names, of the program and of the reference. -/
namespace Go.Proofs.YtlgmankojgjfjaaDoor
open Go.RowKit Bs
set_option maxRecDepth 100000 in
theorem boxes_nm (w : World) (A B : Array Value) (s t : TypeId) : ((w.alloc (.cells A s)).alloc (.cells B t)).heap[w.heap.size]? = some (.cells A s (0, 0)) ∧ ((w.alloc (.cells A s)).alloc (.cells B t)).heap[w.heap.size + 1]? = some (.cells B t (0, 0)) ∧ w.grownBy ((w.alloc (.cells A s)).alloc (.cells B t)) none ∧ w.heap.size + 1 < ((w.alloc (.cells A s)).alloc (.cells B t)).heap.size := by
  obtain ⟨k1, k2⟩ := tone_box w A s
  obtain ⟨k3, k4⟩ := tone_box (w.alloc (.cells A s)) B t
  rw [show (w.alloc (.cells A s)).heap.size = w.heap.size + 1 by simp] at k3
  exact ⟨kept_row k1 k4 (by simp), k3, grown_trans k2 k4, by simp⟩
/-- What Names returns. -/
def NmPost (sub n : Int) (E : List Ed) (s : Int) (b : Nat) (w : World) (e : Ending) (w' : World) : Prop :=
  ∃ (p : Option Addr) (c : Nat), e = .returned (.tuple #[.slice p (nmO sub n E s b).length c, .int .i64 (nmX sub n E s b)]) ∧ w'.ownsRow w.heap.size 3 1 (.slice p (nmO sub n E s b).length c) (nmO sub n E s b).length ((nmO sub n E s b).map tv) ∧ w.grownBy w' none
set_option maxRecDepth 100000 in
theorem nm_no {sub n s : Int} {E : List Ed} {b : Nat} {x : Int} (h : nmX sub n E s b = x) (hx : x ≠ 0) {w w' : World} (g : w.grownBy w' none) : NmPost sub n E s b w (.returned (.tuple #[.slice none 0 0, .int .i64 x])) w' := by
  have h0 : nmO sub n E s b = [] := by unfold nmO; rw [if_neg (by rw [h]; exact hx)]
  exact ⟨none, 0, by rw [h0, h]; rfl, by rw [h0]; exact World.ownsRow_nil _ _ _ _, g⟩
/-- While the names grow. -/
structure NG (W : World) (sub n : Int) (E : List Ed) (p : Option Addr) (c : Nat) (s : Int) (b C : Nat) (lv v : Value) (M : List Int) (w : World) : Prop where
  bx : w.heap[W.heap.size]? = some (.cells #[.int .i64 sub, .int .i64 n, .slice p E.length c] 30 (0, 0))
  bs : w.heap[W.heap.size + 1]? = some (.cells #[.int .i64 s, .int .u64 (b : Int)] 25 (0, 0))
  rd : RdF w (· < W.heap.size) (.slice p E.length c) E.length (E.flatMap edC)
  rl : Rd w (fun x => W.heap.size + 1 < x ∧ x < C) lv ((bl b).map ival)
  own : w.ownsRow C 3 1 v M.length (M.map tv)
  gr : W.grownBy w none
  lo : W.heap.size + 1 < C ∧ C ≤ w.heap.size
section
variable {W w w1 : World} {sub n s : Int} {E : List Ed} {p : Option Addr} {c b C : Nat} {lv v v' : Value} {M N : List Int}
set_option maxRecDepth 100000 in
theorem NG.keep (h : NG W sub n E p c s b C lv v M w) (g : w.grownBy w1 none) : NG W sub n E p c s b C lv v M w1 :=
  ⟨kept_row h.bx g (by simp), kept_row h.bs g (by simp), h.rd.keep g, h.rl.keep g, h.own.kept g (by cases v.ownBlock <;> simp), grown_trans h.gr g, h.lo.1, Nat.le_trans h.lo.2 g.size⟩
set_option maxRecDepth 100000 in
theorem NG.put (h : NG W sub n E p c s b C lv v M w) (hown : w1.ownsRow C 3 1 v' N.length (N.map tv)) (hg : w.grownBy w1 v.ownBlock) : NG W sub n E p c s b C lv v' N w1 := by
  have hlo := h.lo
  have hne : ∀ x, x < C → some x ≠ v.ownBlock := fun x hx e => by have := (h.own.lt x e.symm).1; omega
  exact ⟨kept_row h.bx hg (hne _ (by omega)), kept_row h.bs hg (hne _ (by omega)), h.rd.grown hg (fun x hx => hne x (by omega)), h.rl.grown hg (fun x hx => hne x hx.2), hown, grown_any h.gr hg (fun x hx => hne x (by omega)), h.lo.1, Nat.le_trans h.lo.2 hg.size⟩
set_option maxRecDepth 100000 in
theorem NG.start {l : Value} (w w1 : World) (hb : w.heap[W.heap.size]? = some (.cells #[.int .i64 sub, .int .i64 n, .slice p E.length c] 30 (0, 0))) (hs : w.heap[W.heap.size + 1]? = some (.cells #[.int .i64 s, .int .u64 (b : Int)] 25 (0, 0))) (hd : RdF w (· < W.heap.size) (.slice p E.length c) E.length (E.flatMap edC)) (hg : W.grownBy w none) (hz : W.heap.size + 1 < w.heap.size) (hl : Rd w1 (w.heap.size ≤ ·) l ((bl b).map ival)) (g : w.grownBy w1 none) : NG W sub n E p c s b w1.heap.size l (.slice none 0 0) [] w1 := by
  refine ⟨kept_row hb g (by simp), kept_row hs g (by simp), hd.keep g, ?_, World.ownsRow_nil _ _ _ _, grown_trans hg g, Nat.lt_of_lt_of_le hz g.size, Nat.le_refl _⟩
  obtain ⟨p1, c1, e, hx⟩ := hl
  refine ⟨p1, c1, e, fun hne => ?_⟩
  obtain ⟨b1, off, hp, hq, hc⟩ := hx hne
  refine ⟨b1, off, hp, ⟨by omega, ?_⟩, hc⟩
  obtain ⟨u, hu⟩ : ∃ u, ((bl b).map ival)[0]? = some u := by
    cases h0 : (bl b).map ival with
    | nil => exact absurd h0 hne
    | cons u t => exact ⟨u, rfl⟩
  exact World.block_lt_of_cell? w1 ⟨b1, off + 0, none⟩ (hc 0 u hu)
end
set_option maxRecDepth 100000 in
theorem int_row (w : World) (x : Int) (t : TypeId) : ∀ j u, [Value.int .i64 x][j]? = some u → (w.alloc (.cells #[.int .i64 x] t)).cell? ((⟨w.heap.size, 0, none⟩ : Addr).add j) = some u := by
  intro j u hu
  rw [add_plain]
  have hb := heap_alloc_new w (.cells #[.int .i64 x] t)
  rcases j with _ | j
  · cases hu; exact cell_of_row _ _ _ _ _ _ hb
  · simp at hu
set_option maxRecDepth 100000 in
theorem int_one (x : Int) : ∀ u ∈ [Value.int .i64 x], u.oneCell' = true := by
  intro u hu
  obtain rfl : u = .int .i64 x := by simpa using hu
  rfl
set_option maxRecDepth 100000 in
theorem nmL_at {s n : Int} {b k j : Nat} (h : (bl b)[k]? = some j) : (nmL s n b)[k]? = some (atI s (j : Int) n) := by unfold nmL; rw [List.getElem?_map, h]; rfl
/-- The names of the first k bits. -/
def nmK (s n : Int) (b k : Nat) : List Int := (nmL s n b).take k
set_option maxRecDepth 100000 in
theorem nmK_end (s n : Int) (b : Nat) : nmK s n b (bl b).length = nmL s n b := by
  unfold nmK
  rw [List.take_of_length_le (by unfold nmL; rw [List.length_map]; exact Nat.le_refl _)]
set_option maxRecDepth 100000 in
theorem nmK_len (s n : Int) (b k : Nat) : (nmK s n b k).length ≤ (bl b).length := by
  unfold nmK nmL
  rw [List.length_take, List.length_map]; omega
set_option maxRecDepth 100000 in
theorem nmL_take {s n : Int} {b k j : Nat} (h : (bl b)[k]? = some j) : nmK s n b (k + 1) = nmK s n b k ++ [atI s (j : Int) n] := by unfold nmK; rw [List.take_add_one, nmL_at h]; rfl
set_option maxRecDepth 100000 in
theorem nmL_len (s n : Int) (b : Nat) : (nmL s n b).length = (bl b).length := by unfold nmL; rw [List.length_map]
set_option maxRecDepth 100000 in
set_option maxHeartbeats 12800000 in
theorem inames_any (sub n : Int) (E : List Ed) (p : Option Addr) (c : Nat) (s : Int) (b : Nat) (hb : U64 b) (w : World) (hR : RdF w (· < w.heap.size) (.slice p E.length c) E.length (E.flatMap edC)) (hm : E.length ≤ 9223372036854775807) (hT : Tb w) :
    Calls Tryd.prog 15 #[.agg #[.int .i64 sub, .int .i64 n, .slice p E.length c], .agg #[.int .i64 s, .int .u64 (b : Int)]] w fun e w' => NmPost sub n E s b w e w' := by
  obtain ⟨ii, hi, hi0, hi1, hi2⟩ := info_parts info_int
  obtain ⟨k1, k2, k3, k4⟩ := boxes_nm w #[.int .i64 sub, .int .i64 n, .slice p E.length c] #[.int .i64 s, .int .u64 (b : Int)] 30 25
  have H0 := Lib.hid (And.intro k1 (And.intro k2 (And.intro k3 (And.intro k4 (hR.keep k3)))))
  have HTB := Lib.hid hT
  clear k1 k2 k3 k4 hR hT
  go_enter Tryd.func15, Tryd.ntmps15
  go_upto_region 1 with fail
  generalize ((w.alloc _).alloc _) = w1 at *
  obtain ⟨⟨d0, d1, d2⟩, -⟩ := row3i H0.out.1
  go_wp2_with fail
  refine (ivplan_any sub n E p c _ w1 H0.out.2.2.2.2 hm).mono ?_
  rintro e w2 ⟨rfl, hg⟩
  have H1 := Lib.hid (And.intro (kept_row H0.out.1 hg (by simp)) (And.intro (kept_row H0.out.2.1 hg (by simp)) (And.intro (grown_trans H0.out.2.2.1 hg) (And.intro (Nat.lt_of_lt_of_le H0.out.2.2.2.1 hg.size) (H0.out.2.2.2.2.keep hg)))))
  clear hg H0 d0 d1 d2
  cases hv : vPl sub n E
  case false =>
    have HP : Hid (nmX sub n E s b = 1) := Lib.hid (by unfold nmX; rw [if_pos hv])
    clear hv
    go_wp2_with fail
    go_ret2
    exact nm_no HP.out (by decide) H1.out.2.2.1
  have HV := Lib.hid hv
  have c1 : w2.cell? ⟨w.heap.size + 1, 1, none⟩ = some (.int .u64 (b : Int)) := cell_of_row _ _ _ _ _ _ H1.out.2.1
  clear hv
  go_wp2_with fail
  refine (listp_any b hb w2 (HTB.out.keep H1.out.2.2.1)).mono ?_
  rintro e w3 ⟨l, rfl, hl, hg⟩
  have S0 := Lib.hid (NG.start w2 w3 H1.out.1 H1.out.2.1 H1.out.2.2.2.2 H1.out.2.2.1 H1.out.2.2.2.1 hl hg)
  obtain ⟨pl, cl, rfl, -⟩ := hl
  clear hg H1 c1
  rw [show ((bl b).map ival).length = (bl b).length by simp] at S0 ⊢
  obtain ⟨C, hC⟩ : ∃ C, w3.heap.size = C := ⟨_, rfl⟩
  rw [hC] at S0
  clear hC
  have hbl := bl_length_le b
  go_wp2_with fail
  go_loopw [6, 18] (fun v x wr => ∃ (k : Nat) (q : Option Addr) (d : Nat), k ≤ (bl b).length ∧ x = .int .i64 (k : Int) ∧ v = .slice q (nmK s n b k).length d ∧ Hid ((nmK s n b k).any (ukE E) = false) ∧ Hid (NG w sub n E p c s b C (.slice pl (bl b).length cl) (.slice q (nmK s n b k).length d) (nmK s n b k) wr)) (fun _ x _ => (bl b).length - (RowKit.intOf x).toNat)
  case atStart => exact ⟨0, none, 0, Nat.zero_le _, rfl, rfl, Lib.hid rfl, S0⟩
  case round =>
  clear S0
  obtain ⟨k, q, d, hk, rfl, rfl, HN, S0⟩ := hrel
  obtain ⟨w5, hw5⟩ : ∃ w5, w5 = wr := ⟨_, rfl⟩
  rw [← hw5] at S0 ⊢
  clear hw5
  by_cases hlt : k < (bl b).length
  case neg =>
    obtain rfl : k = (bl b).length := by omega
    have hnl : ¬ ((bl b).length : Int) < ((bl b).length : Int) := by omega
    rw [nmK_end] at S0 HN ⊢
    have HP : Hid (nmX sub n E s b = 0) := Lib.hid (by unfold nmX; rw [if_neg (by rw [HV.out]; decide), if_neg (by rw [HN.out]; decide)])
    have HO : Hid (nmO sub n E s b = nmL s n b) := Lib.hid (by unfold nmO; rw [if_pos HP.out])
    go_wp2_with fail
    go_ret2
    refine ⟨q, d, by rw [HO.out, HP.out]; rfl, ?_, S0.out.gr⟩
    rw [HO.out]
    have hlo := S0.out.lo
    exact S0.out.own.mono (by omega)
  case pos =>
  have hlt' : (k : Int) < ((bl b).length : Int) := by omega
  obtain ⟨j, hj⟩ : ∃ j, (bl b)[k]? = some j := ⟨_, List.getElem?_eq_getElem hlt⟩
  have HJ := Lib.hid hj
  obtain ⟨b1, off, rfl, hq, a0⟩ := rdAt_T S0.out.rl (i := k) (x := ival j) (by rw [List.getElem?_map, hj]; rfl)
  unfold ival at a0
  have HML : Hid ((nmK s n b k).length ≤ 64) := Lib.hid (by have := nmK_len s n b k; omega)
  obtain ⟨⟨d0, d1, d2⟩, -⟩ := row3i S0.out.bx
  have c0 : w5.cell? ⟨w.heap.size + 1, 0, none⟩ = some (.int .i64 s) := cell_of_row _ _ _ _ _ _ S0.out.bs
  clear hj
  go_wp2_with fail
  refine (iat_any s (j : Int) n w5).mono ?_
  rintro e w6 ⟨rfl, hg⟩
  have S1 := Lib.hid (S0.out.keep hg)
  clear hg S0 d0 d1 d2 a0 c0
  obtain ⟨⟨d0, d1, d2⟩, -⟩ := row3i S1.out.bx
  obtain ⟨id, hid⟩ : ∃ id, atI s (j : Int) n = id := ⟨_, rfl⟩
  have HID := Lib.hid hid
  rw [hid]
  clear hid
  go_wp2_with fail
  refine (ihas_any sub n E id p c _ w6 S1.out.rd HV.out).mono ?_
  rintro e w7 ⟨rfl, hg⟩
  have S2 := Lib.hid (S1.out.keep hg)
  clear hg S1 d0 d1 d2
  cases hkn : knE E id
  case false =>
    have HP : Hid (nmX sub n E s b = 4) := Lib.hid (by unfold nmX; rw [if_neg (by rw [HV.out]; decide), if_pos (any_at (nmL_at HJ.out) (by unfold ukE; rw [HID.out, hkn]; rfl))])
    clear hkn
    go_wp2_with fail
    go_ret2
    exact nm_no HP.out (by decide) S2.out.gr
  case true =>
  have HN2 : Hid ((nmK s n b (k + 1)).any (ukE E) = false) := Lib.hid (any_take (k := k) HN.out (nmL_at HJ.out) (by unfold ukE; rw [HID.out, hkn]; rfl))
  have HT2 : Hid (nmK s n b (k + 1) = nmK s n b k ++ [id]) := Lib.hid (by rw [nmL_take HJ.out, HID.out])
  obtain ⟨M, hM⟩ : ∃ M, nmK s n b k = M := ⟨_, rfl⟩
  obtain ⟨M2, hM2⟩ : ∃ M2, nmK s n b (k + 1) = M2 := ⟨_, rfl⟩
  rw [hM] at S2 HT2 HML ⊢
  rw [hM2] at HT2 HN2
  have HM2 := Lib.hid hM2
  have hml := HML.out
  clear hkn hM hM2 HN
  have HO2 := Lib.hid S2.out.own
  have hsz : C ≤ w7.heap.size := S2.out.lo.2
  go_wp2_with (at_builtin; refine hold_on ?_)
  refine Lib.hid ?_
  refine wpList_append_lies _ rfl _ _ 22 rfl C 3 ii (.int .i64 0) 1 8 Tryd.underlying22 hi hi0 hi1 hi2 rfl (by decide) (.slice q M.length d) M.length (M.map tv) rfl (HO2.out.alloc _) ⟨w7.heap.size, 0, none⟩ 1 1 [.int .i64 id] rfl rfl (int_row w7 id _) (int_one id) (by decide) (by unfold maxLen; omega) (by omega) (by simp; omega) _ rfl ?_
  intro g cap w8 hown hgrow hat hlt8
  have S3 := Lib.hid ((S2.out.keep (World.grownBy_alloc _ _ none)).put (N := M ++ [id]) (by rw [List.length_append, List.map_append]; simpa [tv] using hown) hgrow)
  rw [← HT2.out] at S3
  have HL : Hid (M.length + 1 = M2.length) := Lib.hid (by rw [HT2.out, List.length_append]; rfl)
  rw [HL.out] at S3 ⊢
  clear hown hgrow hat hlt8 HO2 S2 hsz HML hml HL HT2
  go_wp2_with fail
  exact ⟨⟨k + 1, some ⟨g, 0, none⟩, cap, by omega, congrArg _ (by omega), by rw [HM2.out], by rw [HM2.out]; exact HN2, by rw [HM2.out]; exact S3⟩, by simp only [RowKit.intOf]; omega⟩
end Go.Proofs.YtlgmankojgjfjaaDoor

/- The reference's Names. -/
namespace Go.Proofs.YtlgmankojgjfjaaDoor
open Go.RowKit Bs
end Go.Proofs.YtlgmankojgjfjaaDoor

/- The reference's functions on bits: Count, Nth, First, Rank, Spread, Gather. -/
namespace Go.Proofs.YtlgmankojgjfjaaDoor
open Go.RowKit Bs

end Go.Proofs.YtlgmankojgjfjaaDoor

/- The tape's bit strings. -/
namespace Go.Proofs.YtlgmankojgjfjaaDoor
open Go.RowKit Bs

end Go.Proofs.YtlgmankojgjfjaaDoor

/- The law IdentifySets. -/
namespace Go.Proofs.YtlgmankojgjfjaaDoor
open Go.RowKit Bs
section
variable {W w w1 w2 : World} {a P : Nat} {sub n : Int} {E : List Ed} {pE : Option Addr} {cE : Nat} {xs : Int} {xb : Nat} {X : List Int} {px : Option Addr} {cx : Nat}
/-- The two lists. -/
structure LL (D : Nat) (M : List Int) (q : Option Addr) (d : Nat) (X : List Int) (px : Option Addr) (cx : Nat) (w : World) : Prop where
  hd : w.heap[D]? = some (.cells #[.slice q M.length d, .slice px X.length cx] 22 (0, 0))
  rm : Rd w (fun _ => True) (.slice q M.length d) (M.map tv)
set_option maxRecDepth 100000 in
theorem LL.keep {D : Nat} {M : List Int} {q : Option Addr} {d : Nat} (h : LL D M q d X px cx w) (g : w.grownBy w2 none) : LL D M q d X px cx w2 := ⟨kept_row h.hd g (by simp), h.rm.keep g⟩
end
end Go.Proofs.YtlgmankojgjfjaaDoor

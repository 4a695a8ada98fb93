/- Parts of the proof, packed: ShNxt, ToApM, ShCto, ShPass, ShUse, ShRt, ShLay, ShSrt, ShCnt, ShPts, ShSrn, ShPtw, ShExm, ToCompW, ToConn, ToBri, ToCuts, ToAwake, ShAwk, ToTopK. -/
import Derived.Test.YtahafijpcmphaaaGreatQt6
import Derived.Test.YtahafijpcmphaaaGreatQt4
import Derived.BigQuiet
import Derived.Test.YtahafijpcmphaaaGreatQt2
import Derived.Test.YtahafijpcmphaaaGreatQt5
import Derived.Test.YtahafijpcmphaaaGreatQt3
import Derived.Test.YtahafijpcmphaaaGreatQt1
import Derived.Deep.AppendLies
import Derived.Deep.Onto
import Derived.Laws.OwnMore
/- shortest.nextTo. -/
namespace Go.Proofs.YtahafijpcmphaaaGreat
set_option maxRecDepth 100000
open Go.RowKit Go.Maps Bs
def nxP (f : Int → Option Int) (r : Int) (n : Int × Int) : Bool := match f n.1 with
  | some x => decide (n.2 + x = (f r).getD 0)
  | none => false
def nxM (f : Int → Option Int) (r : Int) (M : List (Int × Int)) : List Int := (M.filter (nxP f r)).map (·.1)
theorem nxM_next (L : List Lk) (f : Int → Option Int) (r : Int) : nextV L f r = nxM f r (nbD L r) := rfl
theorem nxM_snoc {f : Int → Option Int} {r : Int} {M : List (Int × Int)} {k : Nat} {y : Int × Int} (h : M[k]? = some y) : nxM f r (M.take (k + 1)) = nxM f r (M.take k) ++ (if nxP f r y = true then [y.1] else []) := by
 unfold nxM
 rw [List.take_add_one, h, List.filter_append, List.map_append]
 congr 1
 by_cases hp : nxP f r y = true
 ·rw [if_pos hp]
  simp [hp]
 ·rw [if_neg hp]
  simp [hp]
theorem nxM_len (f : Int → Option Int) (r : Int) (M : List (Int × Int)) : (nxM f r M).length ≤ M.length := by
 unfold nxM
 rw [List.length_map]
 exact List.length_filter_le _ _
theorem NK.base {w w1 wr : World} {v : Value} {l : List Int} (h : NK w1 v l wr) (g : w.grownBy w1 none) : NK w v l wr := ⟨h.own.mono g.size, grown_trans g h.gr⟩
theorem dst_rng {R : List Rt} {L : List Lk} {z : Int} (h : hasV R L z = true) {r : Int} {n : Int × Int} (hn : n ∈ nbD L r) : (1 ≤ n.2 ∧ n.2 ≤ 1000) ∧ 1 ≤ n.1 ∧ n.1 ≤ 99 := by
 have := (okT_g (hasV_iff.1 h).1).edg (nbD_mem.1 (show (n.1, n.2) ∈ nbD L r from hn))
 exact ⟨this.1, this.2.2⟩
set_option maxHeartbeats 6400000 in
theorem tnxW_any (T : Tg) (r z : Int) (v : Value) (q q2 : Nat → Prop) (w : World) (hT : TgOk w q T) (h2 : T.L.length ≤ 1000) (hr : okT T.R T.L = true → I64 r) (hV : CV w q2 v (fun x => dst T.R T.L x z) (hasV T.R T.L z)) :
  Calls Tryz.prog 89 #[.agg #[.slice T.pR T.R.length T.cR, .slice T.pL T.L.length T.cL], .int .i64 r, v] w fun e w' => TRet (nextV T.L (fun x => dst T.R T.L x z) r) w e w' := by
 obtain ⟨i0, hi, hz0, hz1, hz2⟩ := info_parts info_int
 obtain ⟨R, L, pR, cR, pL, cL⟩ := T
 simp only at h2 hr hV ⊢
 obtain ⟨k1, k2⟩ := tone_box w #[.slice pR R.length cR, .slice pL L.length cL] 45
 have HB := Lib.hid (And.intro k1 (And.intro k2 (hT.keep k2)))
 have HV := Lib.hid (hV.keep k2)
 have HI := Lib.hid hr
 clear k1 k2 hT hr hV
 obtain ⟨c0, c1⟩ := row_cells HB.out.1
 obtain ⟨f, hf⟩ : ∃ f : Int → Option Int, (fun x => dst R L x z) = f := ⟨_, rfl⟩
 have HF : Hid (∀ x d, f x = some d → 0 ≤ d ∧ d ≤ 24000) := Lib.hid (fun x d h => by rw [← hf] at h; exact (dst_bd h).1)
 rw [hf] at HV ⊢
 clear hf
 obtain ⟨X, hX⟩ : ∃ X, nextV L f r = X := ⟨_, rfl⟩
 have HX := Lib.hid hX
 rw [hX]
 clear hX
 go_enter Tryz.func89, Tryz.ntmps89
 go_wp2_with fail
 refine (tnearby_any L r pL cL _ _ HB.out.2.2.l h2).mono ?_
 rintro e w7 ⟨vn, rfl, hown7, hg7⟩
 obtain ⟨pn, cn, rfl, hcn1, hcn2⟩ := own_shape hown7
 have hml := nbD_len r L
 have HW7 := Lib.hid (grown_trans HB.out.2.1 hg7)
 have HV7 := Lib.hid (HV.out.keep hg7)
 obtain ⟨M, hM⟩ : ∃ M, nbD L r = M := ⟨_, rfl⟩
 have HMM := Lib.hid hM
 rw [hM] at hown7 hcn1 hml ⊢
 have HN := Lib.hid (rdf_of_own2 hown7)
 have hm2 : M.length ≤ 2000 := by omega
 have N0 : Hid (NK w7 (.slice none 0 0) (nxM f r (M.take 0)) w7) := Lib.hid ⟨World.ownsRow_nil _ _ _ _, grown_refl _ _⟩
 clear hM hown7 hg7 hml c0 c1 HV
 go_wp2_with fail
 go_loopw [7, 17] (fun vo a wr => ∃ (k : Nat) (va : Value), va = vo ∧ k ≤ M.length ∧ a = .int .i64 (k : Int) ∧ Hid (NK w7 va (nxM f r (M.take k)) wr)) (fun _ a _ => M.length - (RowKit.intOf a).toNat)
 case atStart => exact ⟨0, _, rfl, Nat.zero_le _, rfl, N0⟩
 case round =>
  obtain ⟨k, va, rfl, hk, rfl, NN⟩ := hrel
  clear N0
  by_cases hlt : k < M.length
  ·obtain ⟨-, b, off, rfl, hq, hc⟩ := dsn_cells (HN.out.keep NN.out.gr) (by omega)
   obtain ⟨y, hy⟩ : ∃ y, M[k]? = some y := ⟨_, List.getElem?_eq_getElem hlt⟩
   obtain ⟨a0, a1⟩ := hc k y hy
   have HS := Lib.hid (nxM_snoc (f := f) (r := r) hy)
   have hlen := nxM_len f r (M.take k)
   have hltk : (M.take k).length ≤ k := List.length_take_le _ _
   have gal := World.grownBy_alloc wr (.cells #[.int .i64 y.1, .int .i64 y.2] 131) none
   have hbx := heap_alloc_new wr (.cells #[.int .i64 y.1, .int .i64 y.2] 131)
   have HG := Lib.hid gal
   have HBX := Lib.hid hbx
   have HYM := Lib.hid (List.mem_of_getElem? hy)
   clear hc hy gal hbx
   go_upto_region 5 with fail
   clear a0 a1
   generalize wr.alloc _ = wy at *
   have NY := Lib.hid (NN.out.keep HG.out)
   have HVY := Lib.hid ((HV7.out.keep NN.out.gr).keep HG.out)
   obtain ⟨d0, d1⟩ := row_cells HBX.out
   obtain ⟨A, hA⟩ : ∃ A, nxM f r (M.take k) = A := ⟨_, rfl⟩
   rw [hA] at NY HS hlen
   have hAl : A.length ≤ 2000 := by omega
   clear hA hlen hltk
   -- the neighbour has no cost
   cases hf : f y.1 with
   | none =>
    have q1 : (Instr.lookup 114 v (.int .i64 y.1) true).run Tryz.prog wy = .ok (.tuple #[.int .i64 0, .bool false]) wy := by
     rcases HVY.out with ⟨-, rfl, -⟩ | ⟨h3, -⟩
     ·exact (look_none wy y.1).2
     ·have h4 := dst_rng h3 (r := r) (n := y) (by rw [HMM.out]; exact HYM.out)
      have h5 := (HVY.out.look (x := y.1) (by unfold I64; omega)).2
      rw [hf] at h5
      exact h5
    have hp : nxP f r y = false := by unfold nxP; rw [hf]
    rw [hp] at HS
    have HS2 : Hid (nxM f r (M.take (k + 1)) = A) := Lib.hid (by rw [HS.out]; simp)
    clear hp hf
    go_wp2_with fail
    exact ⟨⟨k + 1, _, rfl, by omega, congrArg _ (by omega), by rw [HS2.out]; exact NY⟩, by simp only [RowKit.intOf]; omega⟩
   | some x =>
    have h3 : hasV R L z = true := by
     rcases HVY.out with ⟨-, -, h⟩ | ⟨h3, -⟩
     ·rw [h] at hf; cases hf
     ·exact h3
    have h4 := dst_rng h3 (r := r) (n := y) (by rw [HMM.out]; exact HYM.out)
    have q1 := (HVY.out.look (x := y.1) (by unfold I64; omega)).2
    have q2 := (HVY.out.look (x := r) (HI.out (hasV_iff.1 h3).1)).1
    have hx := HF.out y.1 x hf
    obtain ⟨t, ht⟩ : ∃ t, (f r).getD 0 = t := ⟨_, rfl⟩
    rw [ht] at q2
    have hp : nxP f r y = decide (y.2 + x = t) := by unfold nxP; rw [hf, ht]
    rw [hf] at q1
    simp only [Option.getD_some, Option.isSome_some] at q1
    rw [hp] at HS
    clear hp hf ht h3
    by_cases he : y.2 + x = t
    ·have HS2 : Hid (nxM f r (M.take (k + 1)) = A ++ [y.1]) := Lib.hid (by rw [HS.out, decide_eq_true he]; rfl)
     have he' : (y.2 + x == t) = true := by simpa using he
     have hown := NY.out.own
     have hsz := NY.out.gr.size
     clear HS he
     go_wp2_with (at_builtin; refine hold_on ?_)
     refine Lib.hid ?_
     refine wpList_append_lies _ rfl _ _ 22 rfl w7.heap.size 3 i0 (.int .i64 0) 1 8 Tryz.underlying22 hi hz0 hz1 hz2 rfl (by decide) _ _ _ rfl (hown.alloc _) ⟨wy.heap.size, 0, none⟩ 1 1 [.int .i64 y.1] rfl rfl ?c1 ?c2 (by decide) ?c3 ?c4 ?c5 _ rfl ?_
     try (case c1 => exact cell_one _ _ _)
     case c2 => (intro u hu; simp at hu; rcases hu with rfl; rfl)
     case c3 => first | omega | (unfold maxLen; omega)
     case c4 => omega
     case c5 => first | omega | (simp; omega)
     intro gq capq w8 hown8 hg8 hat8 hlt8
     obtain ⟨vq, hvq⟩ : ∃ vq, Value.slice (some ⟨gq, 0, none⟩) (A.length + 1) capq = vq := ⟨_, rfl⟩
     rw [hvq] at hown8 ⊢
     obtain ⟨n1, -⟩ := NY.out.more (x := y.1) (grown_refl _ _) hown8 hg8
     have N1 : Hid (NK w7 vq (nxM f r (M.take (k + 1))) w8) := Lib.hid (by rw [HS2.out]; exact n1)
     clear hvq hat8 hlt8 hg8 hown n1 hown8
     go_wp2_with fail
     exact ⟨⟨k + 1, _, rfl, by omega, congrArg _ (by omega), N1⟩, by simp only [RowKit.intOf]; omega⟩
    ·have HS2 : Hid (nxM f r (M.take (k + 1)) = A) := Lib.hid (by rw [HS.out, decide_eq_false he]; simp)
     have he' : (y.2 + x == t) = false := by simpa using he
     clear HS he
     go_wp2_with fail
     exact ⟨⟨k + 1, _, rfl, by omega, congrArg _ (by omega), by rw [HS2.out]; exact NY⟩, by simp only [RowKit.intOf]; omega⟩
  ·obtain rfl : k = M.length := by omega
   have hN := NN.out
   rw [List.take_length, ← HMM.out, ← nxM_next, HX.out] at hN
   have H9 := Lib.hid (hN.base HW7.out).ret
   clear hN NN
   go_wp2_with fail
   go_ret
   obtain ⟨p, c, rfl, h3⟩ := H9.out
   exact ⟨p, c, rfl, h3⟩
end Go.Proofs.YtahafijpcmphaaaGreat

/- Apply: the values. -/
namespace Go.Proofs.YtahafijpcmphaaaGreat
set_option maxRecDepth 100000
open Go.RowKit Bs
theorem ends_inj {R : List Rt} {L : List Lk} (ho : OkAll R L) {i j : Nat} {l m : Lk} (hi : L[i]? = some l) (hj : L[j]? = some m) (e1 : l.a = m.a) (e2 : l.b = m.b) : i = j := by
 have hp := pair_of_asc ltL (fun _ _ _ => ltL_trans) L ho.ls
 rcases Nat.lt_trichotomy i j with h | h | h
 ·have := of_decide_eq_true (pair_get hp h hi hj)
  omega
 ·exact h
 ·have := of_decide_eq_true (pair_get hp h hj hi)
  omega
theorem flat_set2 (l x : Lk) : ∀ (L : List Lk) (i : Nat), L[i]? = some l → (L.set i ⟨l.a, l.b, x.ca, x.cb, l.cp⟩).flatMap lkC = ((L.flatMap lkC).set (i * 5 + 2) (.int .i64 x.ca)).set (i * 5 + 3) (.int .i64 x.cb)
 | [], i, h => by simp at h
 | m :: t, 0, h => by
  obtain rfl : m = l := by simpa using h
  rfl
 | m :: t, i + 1, h => by
  have ih := flat_set2 l x t i (by simpa using h)
  rw [List.set_cons_succ, List.flatMap_cons, ih, List.flatMap_cons]
  have e2 : (i + 1) * 5 + 2 = (lkC m).length + (i * 5 + 2) := by
   show (i + 1) * 5 + 2 = 5 + (i * 5 + 2)
   omega
  have e3 : (i + 1) * 5 + 3 = (lkC m).length + (i * 5 + 3) := by
   show (i + 1) * 5 + 3 = 5 + (i * 5 + 3)
   omega
  rw [e2, e3, List.set_append_right _ _ (Nat.le_add_right _ _), Nat.add_sub_cancel_left, List.set_append_right _ _ (Nat.le_add_right _ _), Nat.add_sub_cancel_left]
theorem own_set2 {w : World} {base n cap g i : Nat} {L : List Lk} {l x : Lk} (h : w.ownsRow base 94 5 (.slice (some ⟨g, 0, none⟩) n cap) L.length (L.flatMap lkC)) (hl : L[i]? = some l) :
  ((w.setCell ⟨g, i * 5 + 2, none⟩ (.int .i64 x.ca)).setCell ⟨g, i * 5 + 3, none⟩ (.int .i64 x.cb)).ownsRow base 94 5 (.slice (some ⟨g, 0, none⟩) n cap) (L.set i ⟨l.a, l.b, x.ca, x.cb, l.cp⟩).length ((L.set i ⟨l.a, l.b, x.ca, x.cb, l.cp⟩).flatMap lkC) := by
 have hn : n = L.length := by
  obtain ⟨p, c, e, _⟩ := own_shape h
  injection e
 subst hn
 obtain ⟨s1, -⟩ := h.stored (i * 5 + 2) (.int .i64 x.ca)
 obtain ⟨s2, -⟩ := s1.stored (i * 5 + 3) (.int .i64 x.cb)
 rw [List.length_set, flat_set2 l x L i hl]
 exact s2
end Go.Proofs.YtahafijpcmphaaaGreat

/- shortest.costsTo: links flipped, then costsFrom. -/
namespace Go.Proofs.YtahafijpcmphaaaGreat
set_option maxRecDepth 100000
open Go.RowKit Go.Maps Bs
def flipK (l : Lk) : Lk := ⟨l.a, l.b, l.cb, l.ca, l.cp⟩
def flK (L : List Lk) (k : Nat) : List Lk := flipL (L.take k) ++ L.drop k
theorem flK_len (L : List Lk) (k : Nat) : (flK L k).length = L.length := by
 unfold flK flipL
 rw [List.length_append, List.length_map, List.length_take, List.length_drop]
 omega
theorem flK_at {L : List Lk} {k : Nat} {l : Lk} (h : L[k]? = some l) : (flK L k)[k]? = some l := by
 have hk := (List.getElem?_eq_some_iff.1 h).1
 unfold flK flipL
 rw [List.getElem?_append_right (by rw [List.length_map, List.length_take]; omega), List.length_map, List.length_take, Nat.min_eq_left (by omega), Nat.sub_self, List.getElem?_drop, Nat.add_zero]
 exact h
theorem flK_set {L : List Lk} {k : Nat} {l : Lk} (h : L[k]? = some l) : (flK L k).set k (flipK l) = flK L (k + 1) := by
 have hk := (List.getElem?_eq_some_iff.1 h).1
 unfold flK flipL
 have hl : (List.map (fun l : Lk => (⟨l.a, l.b, l.cb, l.ca, l.cp⟩ : Lk)) (L.take k)).length = k := by rw [List.length_map, List.length_take]; omega
 rw [List.set_append_right _ _ (by omega), hl, Nat.sub_self, List.take_add_one, h, List.map_append, List.append_assoc]
 congr 1
 have hd : L.drop k = l :: L.drop (k + 1) := by
  rw [List.drop_eq_getElem_cons hk]
  congr 1
  rw [List.getElem?_eq_getElem hk] at h
  exact Option.some.inj h
 rw [hd]
 rfl
theorem flK_end (L : List Lk) : flK L L.length = flipL L := by
 unfold flK
 rw [List.take_length, List.drop_length, List.append_nil]
structure FK (w : World) (T : Tg) (v : Value) (k : Nat) (wr : World) : Prop where
 gb : wr.heap[w.heap.size]? = some (.cells #[.slice T.pR T.R.length T.cR, .slice T.pL T.L.length T.cL] 45 (0, 0))
 t : TgOk wr (· < w.heap.size) T
 o : wr.ownsRow (w.heap.size + 1) 94 5 v T.L.length ((flK T.L k).flatMap lkC)
 gr : w.grownBy wr none
theorem FK.put {w wr w' : World} {T : Tg} {v : Value} {k k' g : Nat} (h : FK w T v k wr) (gg : wr.grownBy w' (some g)) (hg : w.heap.size < g) (ho : w'.ownsRow (w.heap.size + 1) 94 5 v T.L.length ((flK T.L k').flatMap lkC)) : FK w T v k' w' :=
 ⟨kept_row h.gb gg (fun e => by have := Option.some.inj e; omega), h.t.grown gg (fun b hb e => by have := Option.some.inj e; have h2 : b < w.heap.size := hb; omega), ho, grown_any h.gr gg (fun b hb e => by have := Option.some.inj e; omega)⟩
theorem FK.keep {w wr w' : World} {T : Tg} {v : Value} {k : Nat} (h : FK w T v k wr) (g : wr.grownBy w' none) : FK w T v k w' :=
 ⟨kept_row h.gb g (by simp), h.t.keep g, h.o.kept g (by cases hv : v.ownBlock <;> simp), grown_trans h.gr g⟩
set_option maxHeartbeats 6400000 in
theorem tct_any (T : Tg) (z : Int) (q : Nat → Prop) (w : World) (hT : TgOk w q T) (h1 : T.R.length ≤ 1000) (h2 : T.L.length ≤ 1000) (hp : T.pL = none → T.cL = 0) :
  Calls Tryz.prog 90 #[.agg #[.slice T.pR T.R.length T.cR, .slice T.pL T.L.length T.cL], .int .i64 z] w fun e w' => CgPost (fun x => dst T.R T.L x z) (hasV T.R T.L z) w e w' := by
 obtain ⟨R, L, pR, cR, pL, cL⟩ := T
 simp only at h1 h2 hp ⊢
 obtain ⟨k1, k2⟩ := tone_box w #[.slice pR R.length cR, .slice pL L.length cL] 45
 have HB := Lib.hid (And.intro k1 (And.intro k2 (hT.old.keep k2)))
 clear k1 k2 hT
 obtain ⟨c0, c1⟩ := row_cells HB.out.1
 obtain ⟨f, hf⟩ : ∃ f : Int → Option Int, (fun x => dst R L x z) = f := ⟨_, rfl⟩
 obtain ⟨ok, hok⟩ : ∃ ok, hasV R L z = ok := ⟨_, rfl⟩
 have HF := Lib.hid (And.intro hf hok)
 rw [hf, hok]
 clear hf hok
 go_enter Tryz.func90, Tryz.ntmps90
 go_wp2_with fail
 refine (tcloneL_any L pL cL _ _ HB.out.2.2.l hp HB.out.2.2.cl h2).mono ?_
 rintro e w7 ⟨v, rfl, hown, hg⟩
 have F0 : Hid (FK w ⟨R, L, pR, cR, pL, cL⟩ v 0 w7) := Lib.hid ⟨kept_row HB.out.1 hg (by simp), HB.out.2.2.keep hg, by rw [show flK L 0 = L from rfl]; exact hown.mono (by simp), grown_trans HB.out.2.1 hg⟩
 obtain ⟨p, cap, rfl, hc1, hc2⟩ := own_shape hown
 clear hown hg c0 c1
 go_wp2_with fail
 go_loopw [13] (fun a wr => ∃ k : Nat, k ≤ L.length ∧ a = .int .i64 (k : Int) ∧ Hid (FK w ⟨R, L, pR, cR, pL, cL⟩ (.slice p L.length cap) k wr)) (fun a _ => L.length - (RowKit.intOf a).toNat)
 case atStart => exact ⟨0, Nat.zero_le _, rfl, F0⟩
 case round =>
  obtain ⟨k, hk, rfl, F⟩ := hrel
  clear F0
  by_cases hlt : k < L.length
  ·obtain ⟨g, rfl⟩ : ∃ g, p = some ⟨g, 0, none⟩ := by
    rcases Joins.ownsRow_forms F.out.o with ⟨e, e0⟩ | ⟨g1, cap1, e⟩
    ·have e1 : L.length = 0 := e0
     omega
    ·injection e with e1 e2 e3
     exact ⟨g1, e1⟩
   obtain ⟨l, hl⟩ : ∃ l, L[k]? = some l := ⟨_, List.getElem?_eq_getElem hlt⟩
   have hown := F.out.o
   have hgl := hown.lt g rfl
   have hat := flK_at hl
   have hfl : ((flK L k).flatMap lkC).length = L.length * 5 := by rw [flat_len lkC 5 (fun _ => rfl), flK_len]
   have hcell : ∀ j, j < 5 → wr.cell? ⟨g, k * 5 + j, none⟩ = (lkC l)[j]? := fun j hj => (hown.cellAt (k * 5 + j) (by omega)).trans (flat_at lkC 5 (fun _ => rfl) (flK L k) k j l hat hj)
   have a0 : wr.cell? ⟨g, k * 5, none⟩ = some (.int .i64 l.a) := hcell 0 (by decide)
   have a1 : wr.cell? ⟨g, k * 5 + 1, none⟩ = some (.int .i64 l.b) := hcell 1 (by decide)
   have a2 : wr.cell? ⟨g, k * 5 + 2, none⟩ = some (.int .i64 l.ca) := hcell 2 (by decide)
   have a3 : wr.cell? ⟨g, k * 5 + 3, none⟩ = some (.int .i64 l.cb) := hcell 3 (by decide)
   have a4 : wr.cell? ⟨g, k * 5 + 4, none⟩ = some (.int .i64 l.cp) := hcell 4 (by decide)
   have gal := World.grownBy_alloc wr (.cells #[.int .i64 l.a, .int .i64 l.b, .int .i64 l.ca, .int .i64 l.cb, .int .i64 l.cp] 94) none
   have hbx := heap_alloc_new wr (.cells #[.int .i64 l.a, .int .i64 l.b, .int .i64 l.ca, .int .i64 l.cb, .int .i64 l.cp] 94)
   have HG := Lib.hid gal
   have HBX := Lib.hid hbx
   have HL := Lib.hid (And.intro hl hgl)
   clear hown hat hfl hcell gal hbx hl hgl
   go_upto_region 5 with fail
   clear a0 a1 a2 a3 a4
   generalize wr.alloc _ = wy at *
   have FY := Lib.hid (F.out.keep HG.out)
   have HS : Hid (∀ u, Hid (wy.grownBy u (some g)) → u.heap[wr.heap.size]? = some (.cells #[.int .i64 l.a, .int .i64 l.b, .int .i64 l.ca, .int .i64 l.cb, .int .i64 l.cp] 94 (0, 0))) := Lib.hid (fun u hu => kept_row HBX.out hu.out (fun e => by have := Option.some.inj e; have := HL.out.2.2; omega))
   have hk1 : (k : Int) < (L.length : Int) := by omega
   refine wp_region_held_drew (S := fun w' => Hid (wy.grownBy w' (some g))) (by kernel_rfl) (Lib.hid (grown_drew (grown_refl _ _))) (fun hHeld => ?_)
   refine zT (i := 0) (v := ?_) rfl ?_ hHeld ?_
   rotate_left 1
   ·intro u hSu
    go_simp
    first | done | with_reducible rfl
   try simp only [Act.put, zA, zB, zC]
   refine zT (i := 1) (v := ?_) rfl ?_ hHeld ?_
   rotate_left 1
   ·intro u hSu
    go_simp
    first | done | with_reducible rfl
   try simp only [Act.put, zA, zB, zC]
   refine zT (i := 2) (v := ?_) rfl ?_ hHeld ?_
   rotate_left 1
   ·intro u hSu
    go_simp
    first | done | with_reducible rfl
   try simp only [Act.put, zA, zB, zC]
   refine zT (i := 3) (v := ?_) rfl ?_ hHeld ?_
   rotate_left 1
   ·intro u hSu
    go_simp
    first | done | with_reducible rfl
   try simp only [Act.put, zA, zB, zC]
   refine zT (i := 4) (v := ?_) rfl ?_ hHeld ?_
   rotate_left 1
   ·intro u hSu
    go_simp
    first | done | with_reducible rfl
   try simp only [Act.put, zA, zB, zC]
   refine zT (i := 5) (v := ?_) rfl ?_ hHeld ?_
   rotate_left 1
   ·intro u hSu
    obtain ⟨l0, l1, l2, l3, l4⟩ := lk_facts (HS.out _ hSu)
    go_simp
    first | done | with_reducible rfl
   try simp only [Act.put, zA, zB, zC]
   refine zT (i := 6) (v := ?_) rfl ?_ hHeld ?_
   rotate_left 1
   ·intro u hSu
    go_simp
    first | done | with_reducible rfl
   try simp only [Act.put, zA, zB, zC]
   refine zT (i := 7) (v := ?_) rfl ?_ hHeld ?_
   rotate_left 1
   ·intro u hSu
    obtain ⟨l0, l1, l2, l3, l4⟩ := lk_facts (HS.out _ hSu)
    go_simp
    first | done | with_reducible rfl
   try simp only [Act.put, zA, zB, zC]
   refine zT (i := 8) (v := ?_) rfl ?_ hHeld ?_
   rotate_left 1
   ·intro u hSu
    go_simp
    first | done | with_reducible rfl
   try simp only [Act.put, zA, zB, zC]
   refine zT (i := 9) (v := ?_) rfl ?_ hHeld ?_
   rotate_left 1
   ·intro u hSu
    go_simp
    first | done | with_reducible rfl
   try simp only [Act.put, zA, zB, zC]
   refine wpAnyH_ready (rs := [10]) (by kernel_rfl) (by simp) ?_
   refine AllReadyH.cons (o := ⟨_, _, _, _, _, _⟩) rfl (fun Kz hK => ?_) AllReadyH.nil
   have z2 : wy.cell? ⟨g, k * 5 + 2, none⟩ = some (.int .i64 l.ca) := (FY.out.o.cellAt (k * 5 + 2) (by show k * 5 + 2 < L.length * 5; omega)).trans (flat_at lkC 5 (fun _ => rfl) (flK L k) k 2 l (flK_at HL.out.1) (by decide))
   have y2 := FY.out.o.frozenAt (k * 5 + 2)
   go_simp
   refine hK.out _ _ (Lib.hid (grown_trans hHeld.out (grown_setCell _ ⟨g, k * 5 + 2, none⟩ _))) (fun hH2 => ?_)
   clear hK Kz hHeld
   have hHeld := hH2
   clear hH2
   try simp only [Act.put, zA, zB, zC]
   refine zT (i := 11) (v := ?_) rfl ?_ hHeld ?_
   rotate_left 1
   ·intro u hSu
    go_simp
    first | done | with_reducible rfl
   try simp only [Act.put, zA, zB, zC]
   refine zT (i := 12) (v := ?_) rfl ?_ hHeld ?_
   rotate_left 1
   ·intro u hSu
    go_simp
    first | done | with_reducible rfl
   try simp only [Act.put, zA, zB, zC]
   refine wpAnyH_ready (rs := [13]) (by kernel_rfl) (by simp) ?_
   refine AllReadyH.cons (o := ⟨_, _, _, _, _, _⟩) rfl (fun Kz hK => ?_) AllReadyH.nil
   have z3 : wy.cell? ⟨g, k * 5 + 3, none⟩ = some (.int .i64 l.cb) := (FY.out.o.cellAt (k * 5 + 3) (by show k * 5 + 3 < L.length * 5; omega)).trans (flat_at lkC 5 (fun _ => rfl) (flK L k) k 3 l (flK_at HL.out.1) (by decide))
   have y3 := FY.out.o.frozenAt (k * 5 + 3)
   go_simp
   refine hK.out _ _ (Lib.hid (grown_trans hHeld.out (grown_setCell _ ⟨g, k * 5 + 3, none⟩ _))) (fun hH2 => ?_)
   clear hK Kz hHeld
   have hHeld := hH2
   clear hH2
   try simp only [Act.put, zA, zB, zC]
   refine wpAnyH_done (by kernel_rfl) ?_ _
   have hset := own_set2 (x := ⟨0, 0, l.cb, l.ca, 0⟩) (i := k) (show wy.ownsRow (w.heap.size + 1) 94 5 (.slice (some ⟨g, 0, none⟩) L.length cap) (flK L k).length ((flK L k).flatMap lkC) by rw [flK_len]; exact FY.out.o) (flK_at HL.out.1)
   rw [show (⟨l.a, l.b, l.cb, l.ca, l.cp⟩ : Lk) = flipK l from rfl, flK_set HL.out.1, flK_len] at hset
   have hgs : wy.grownBy ((wy.setCell ⟨g, k * 5 + 2, none⟩ (.int .i64 l.cb)).setCell ⟨g, k * 5 + 3, none⟩ (.int .i64 l.ca)) (some g) := grown_trans (grown_setCell wy ⟨g, k * 5 + 2, none⟩ (.int .i64 l.cb)) (grown_setCell _ ⟨g, k * 5 + 3, none⟩ (.int .i64 l.ca))
   have F9 := Lib.hid (FY.out.put (k' := k + 1) (grown_drew hgs) (by have := HL.out.2.1; omega) hset.drew)
   clear hset hgs hHeld z2 y2 z3 y3 HS FY
   try clear l0 l1 l2 l3 l4
   generalize ((wy.setCell ⟨g, k * 5 + 2, none⟩ (.int .i64 l.cb)).setCell ⟨g, k * 5 + 3, none⟩ (.int .i64 l.ca)).drew = ws at *
   go_wp2_with fail
   exact ⟨⟨k + 1, by omega, congrArg _ (by omega), F9⟩, by simp only [RowKit.intOf]; omega⟩
  ·obtain rfl : k = L.length := by omega
   obtain ⟨c0, c1⟩ := row_cells F.out.gb
   have hro := F.out.o
   simp only at hro
   rw [flK_end] at hro
   have hll : (flipL L).length = L.length := by unfold flipL; rw [List.length_map]
   have HT2 : Hid (TgOk wr (fun _ => True) ⟨R, flipL L, pR, cR, p, cap⟩) := Lib.hid ⟨F.out.t.r.mono (fun _ _ => trivial), by
    have h3 := (rdf_of_own hro).mono (q' := fun _ => True) (fun _ _ => trivial)
    show RdF wr _ _ (flipL L).length _
    rw [hll]
    exact h3, F.out.t.cr, by simp only; omega⟩
   have HLL := Lib.hid hll
   clear hro hll
   go_wp2_with fail
   have h9 := tcg_any ⟨R, flipL L, pR, cR, p, cap⟩ z _ wr HT2.out h1 (by simp only; rw [HLL.out]; omega)
   simp only at h9
   rw [HLL.out] at h9
   refine h9.mono ?_
   rintro e w9 ⟨v9, rfl, hv9, hg9⟩
   have H9 := Lib.hid (And.intro hv9 hg9)
   clear hv9 hg9 h9 c0 c1
   go_wp2_with fail
   go_ret
   refine ⟨_, rfl, ?_, grown_trans F.out.gr H9.out.2⟩
   have h8 := H9.out.1.mono (q' := (w.heap.size ≤ ·)) (fun b hb _ => Nat.le_trans F.out.gr.size hb)
   rw [hasV_flip, HF.out.2] at h8
   rw [show dst R (flipL L) z = f from (funext fun x => dst_flip R L z x).trans HF.out.1] at h8
   exact h8
end Go.Proofs.YtahafijpcmphaaaGreat

/- shortest.passes and Avoids. -/
namespace Go.Proofs.YtahafijpcmphaaaGreat
set_option maxRecDepth 100000
open Go.RowKit Go.Maps Bs
end Go.Proofs.YtahafijpcmphaaaGreat

/- shortest.Next and Uses. -/
namespace Go.Proofs.YtahafijpcmphaaaGreat
set_option maxRecDepth 100000
open Go.RowKit Go.Maps Bs
noncomputable def nxt (R : List Rt) (L : List Lk) (r z : Int) : List Int := nextV L (fun x => dst R L x z) r
set_option maxHeartbeats 3200000 in
theorem tnextW_any (T : Tg) (a b : Int) (q : Nat → Prop) (w : World) (hT : TgOk w q T) (h1 : T.R.length ≤ 1000) (h2 : T.L.length ≤ 1000) (hp : T.pL = none → T.cL = 0) (ha : okT T.R T.L = true → I64 a) :
  Calls Tryz.prog 39 #[.agg #[.slice T.pR T.R.length T.cR, .slice T.pL T.L.length T.cL], .int .i64 a, .int .i64 b] w fun e w' => TRet (nxt T.R T.L a b) w e w' := by
 obtain ⟨R, L, pR, cR, pL, cL⟩ := T
 simp only at h1 h2 hp ha ⊢
 obtain ⟨k1, k2⟩ := tone_box w #[.slice pR R.length cR, .slice pL L.length cL] 45
 have HB := Lib.hid (And.intro k1 (And.intro k2 (hT.keep k2)))
 clear k1 k2 hT
 have HA := Lib.hid ha
 clear ha
 obtain ⟨X, hX⟩ : ∃ X, nxt R L a b = X := ⟨_, rfl⟩
 have HX := Lib.hid hX
 rw [hX]
 clear hX
 obtain ⟨wA, hwA⟩ : ∃ wA, w.alloc (.cells #[.slice pR R.length cR, .slice pL L.length cL] 45) = wA := ⟨_, rfl⟩
 go_enter Tryz.func39, Tryz.ntmps39
 go_upto_region 1 with fail
 rw [hwA] at HB
 clear hwA
 refine wp_region_held_drew (S := fun w' => Hid (wA.grownBy w' none)) (by kernel_rfl) (Lib.hid (grown_drew (grown_refl _ _))) (fun hHeld => ?_)
 refine zT (i := 0) (v := ?_) rfl ?_ hHeld ?_
 rotate_left 1
 ·intro u hSu
  obtain ⟨c0, c1⟩ := row_cells (kept_row HB.out.1 hSu.out (by simp))
  go_simp
  first | done | with_reducible rfl
 try simp only [Act.put, zA, zB, zC]
 refine zT (i := 1) (v := ?_) rfl ?_ hHeld ?_
 rotate_left 1
 ·intro u hSu
  go_simp
  first | done | with_reducible rfl
 try simp only [Act.put, zA, zB, zC]
 refine zT (i := 2) (v := ?_) rfl ?_ hHeld ?_
 rotate_left 1
 ·intro u hSu
  obtain ⟨c0, c1⟩ := row_cells (kept_row HB.out.1 hSu.out (by simp))
  go_simp
  first | done | with_reducible rfl
 try simp only [Act.put, zA, zB, zC]
 refine zT (i := 3) (v := ?_) rfl ?_ hHeld ?_
 rotate_left 1
 ·intro u hSu
  go_simp
  first | done | with_reducible rfl
 try simp only [Act.put, zA, zB, zC]
 refine wpAnyH_ready (rs := [4]) (by kernel_rfl) (by simp) ?_
 refine AllReadyH.cons (o := ⟨_, _, _, _, _, _⟩) rfl (fun Kz hK => ?_) AllReadyH.nil
 go_simp
 go_at_call 90
 refine (tct_any ⟨R, L, pR, cR, pL, cL⟩ b _ _ (HB.out.2.2.keep hHeld.out) h1 h2 hp).mono ?_
 rintro e w5 ⟨v, rfl, hv, hg⟩
 have HV4 := Lib.hid hv
 clear hv
 refine hK.out _ _ (Lib.hid (grown_trans hHeld.out hg)) (fun hH2 => ?_)
 clear hK Kz hHeld
 have hHeld := hH2
 clear hH2
 try simp only [Act.put, zA, zB, zC]
 refine wpAnyH_ready (rs := [5]) (by kernel_rfl) (by simp) ?_
 refine AllReadyH.cons (o := ⟨_, _, _, _, _, _⟩) rfl (fun Kz hK => ?_) AllReadyH.nil
 go_simp
 go_at_call 89
 refine (tnxW_any ⟨R, L, pR, cR, pL, cL⟩ a b v _ _ _ (HB.out.2.2.keep hHeld.out) h2 HA.out HV4.out).mono ?_
 rintro e w6 ⟨p6, c6, rfl, hr6, hc6, hn6, hg6⟩
 have hX2 : nextV L (fun x => dst R L x b) a = X := HX.out
 have hsz := (grown_trans HB.out.2.1 hHeld.out).size
 (try simp only at hr6 hc6)
 rw [hX2] at hr6 hc6 ⊢
 have HR : Hid (Rd w6 (w.heap.size ≤ ·) (.slice p6 X.length c6) (X.map tv) ∧ (X.length ≤ c6 ∧ c6 ≤ 9223372036854775807) ∧ (p6 = none → c6 = 0) ∧ True) := Lib.hid ⟨hr6.mono (fun b hb => Nat.le_trans hsz hb), hc6, hn6, trivial⟩
 clear hr6 hc6 hn6 hsz hX2
 refine hK.out _ _ (Lib.hid (grown_trans hHeld.out hg6)) (fun hH2 => ?_)
 clear hK Kz hHeld
 have hHeld := hH2
 clear hH2
 try simp only [Act.put, zA, zB, zC]
 refine zT (i := 6) (v := ?_) rfl ?_ hHeld ?_
 rotate_left 1
 ·intro u hSu
  go_simp
  first | done | with_reducible rfl
 try simp only [Act.put, zA, zB, zC]
 refine wpAnyH_done (by kernel_rfl) ?_ _
 have H9 := Lib.hid (grown_trans HB.out.2.1 hHeld.out)
 clear hHeld HB HV4
 go_wp2_with fail
 go_ret
 obtain ⟨g1, g2, g3, g4⟩ := HR.out
 exact ⟨_, _, rfl, g1, g2, g3, H9.out⟩
end Go.Proofs.YtahafijpcmphaaaGreat

/- shortest.Route. -/
namespace Go.Proofs.YtahafijpcmphaaaGreat
set_option maxRecDepth 100000
open Go.RowKit Go.Maps Bs
theorem hasV_end {R : List Rt} {L : List Lk} {r z d : Int} (h : dst R L r z = some d) : hasV R L z = true := by
 obtain ⟨h1, -, h3⟩ := dst_both h
 exact hasV_iff.2 ⟨h1, h3⟩
theorem nxt_step {R : List Rt} {L : List Lk} {r z u : Int} (h : u ∈ nxt R L r z) : ∃ d x c, dst R L r z = some d ∧ dst R L u z = some x ∧ c + x = d ∧ 1 ≤ c ∧ edg L r u c := by
 have h0 := h
 unfold nxt at h
 have hz : hasV R L z = true := by
  unfold nextV at h
  obtain ⟨⟨v, c⟩, hm, rfl⟩ := List.mem_map.1 h
  obtain ⟨-, h2⟩ := List.mem_filter.1 hm
  simp only at h2
  cases hv : dst R L v z with
  | none => rw [hv] at h2; cases h2
  | some x => exact hasV_end hv
 have hp := (okT_g (hasV_iff.1 hz).1).pos
 cases hr : dst R L r z with
 | none =>
  have := next_none (f := fun x => dst R L x z) hp (fun v x hx => (dst_bd hx).1.1) hr
  rw [this] at h
  cases h
 | some d =>
  obtain ⟨x, c, h1, h2, h3, -⟩ := next_lt (f := fun x => dst R L x z) hp hr h
  exact ⟨d, x, c, rfl, h1, h3, hp.edg h2, h2⟩
end Go.Proofs.YtahafijpcmphaaaGreat

/- empty -/
namespace Go.Proofs.YtahafijpcmphaaaGreat
set_option maxRecDepth 100000
end Go.Proofs.YtahafijpcmphaaaGreat

/- empty -/
namespace Go.Proofs.YtahafijpcmphaaaGreat
set_option maxRecDepth 100000
end Go.Proofs.YtahafijpcmphaaaGreat

/- Counting least walks: one table for both sides. -/
namespace Go.Proofs.YtahafijpcmphaaaGreat
set_option maxRecDepth 100000
end Go.Proofs.YtahafijpcmphaaaGreat

/- shortest.pathsTo and Paths. -/
namespace Go.Proofs.YtahafijpcmphaaaGreat
set_option maxRecDepth 100000
open Go.RowKit Go.Maps Bs
end Go.Proofs.YtahafijpcmphaaaGreat

/- empty -/
namespace Go.Proofs.YtahafijpcmphaaaGreat
set_option maxRecDepth 100000
end Go.Proofs.YtahafijpcmphaaaGreat

/- shortest.pathsTo and Paths: the walks. -/
namespace Go.Proofs.YtahafijpcmphaaaGreat
set_option maxRecDepth 100000
open Go.RowKit Go.Maps Bs
end Go.Proofs.YtahafijpcmphaaaGreat

/- empty -/
namespace Go.Proofs.YtahafijpcmphaaaGreat
set_option maxRecDepth 100000
end Go.Proofs.YtahafijpcmphaaaGreat

/- empty -/
namespace Go.Proofs.YtahafijpcmphaaaGreat
set_option maxRecDepth 100000
end Go.Proofs.YtahafijpcmphaaaGreat

/- topology: Connected. -/
namespace Go.Proofs.YtahafijpcmphaaaGreat
set_option maxRecDepth 100000
open Go.RowKit Bs
def both (a b : Int) (C : List Int) : Bool := hasI C a && hasI C b
end Go.Proofs.YtahafijpcmphaaaGreat

/- empty -/
namespace Go.Proofs.YtahafijpcmphaaaGreat
set_option maxRecDepth 100000
end Go.Proofs.YtahafijpcmphaaaGreat

/- empty -/
namespace Go.Proofs.YtahafijpcmphaaaGreat
set_option maxRecDepth 100000
end Go.Proofs.YtahafijpcmphaaaGreat

/- empty -/
namespace Go.Proofs.YtahafijpcmphaaaGreat
set_option maxRecDepth 100000
end Go.Proofs.YtahafijpcmphaaaGreat

/- empty -/
namespace Go.Proofs.YtahafijpcmphaaaGreat
set_option maxRecDepth 100000
end Go.Proofs.YtahafijpcmphaaaGreat

/- While the tape makes a topology. -/
namespace Go.Proofs.YtahafijpcmphaaaGreat
set_option maxRecDepth 100000
open Go.RowKit Bs
structure TK (a : Nat) (W : World) (uR uL vR vL : Value) (R : List Rt) (L : List Lk) (w : World) : Prop where
 gb : w.heap[W.heap.size + 1]? = some (.cells #[uR, uL] 45 (0, 0))
 rb : w.heap[W.heap.size]? = some (.cells #[.slice none 0 0, .slice none 0 0] 45 (0, 0))
 oR : w.ownsRow (W.heap.size + 2) 92 2 vR R.length (R.flatMap rtC)
 oL : w.ownsRow (W.heap.size + 2) 94 5 vL L.length (L.flatMap lkC)
 ap : ∀ g, vR.ownBlock = some g → vL.ownBlock ≠ some g
 st : St a W w
 sz : W.heap.size + 2 ≤ w.heap.size
theorem own_other {w w' : World} {base size n b : Nat} {e : TypeId} {v : Value} {xs : List Value} (h : w.ownsRow base e size v n xs) (g : w.grownBy w' (some b)) (hb : b < base) : w'.ownsRow base e size v n xs :=
 h.kept g (by
  cases hv : v.ownBlock with
  | none => exact .inl rfl
  | some k => exact .inr (fun e => by have e2 := Option.some.inj e; have := (h.lt k hv).1; omega))
theorem St.storeT {a b : Nat} {W w w1 : World} (h : St a W w) (g : w.grownBy w1 (some b)) (hb : W.heap.size ≤ b) (ha : a < W.heap.size) : St a W w1 := by
 refine ⟨⟨g.os.trans h.1.os, g.tape.trans h.1.tape, g.output.trans h.1.output, Nat.le_trans h.1.size g.size, fun i hi hia => (g.block i (Nat.lt_of_lt_of_le hi h.1.size) (fun e => by have := Option.some.inj e; omega)).trans (h.1.block i hi hia)⟩, ?_⟩
 obtain ⟨v, n, i, T⟩ := h.2
 have hlt : a < w.heap.size := Nat.lt_of_lt_of_le ha h.1.size
 have hk : w1.heap[a]? = w.heap[a]? := g.block a hlt (fun e => by have := Option.some.inj e; omega)
 refine ⟨v, n, i, (World.cell?_of_block (a := ⟨a, 0, none⟩) hk).trans T.l, (World.cell?_of_block (a := ⟨a, 1, none⟩) hk).trans T.p, (World.frozen?_of_block (a := ⟨a, 1, none⟩) hk).trans T.fr, ?_, T.le, T.len⟩
 obtain ⟨p, c, hv, hc⟩ := T.ints
 refine ⟨p, c, hv, fun hn => ?_⟩
 obtain ⟨b1, off, hp, hb1, hx⟩ := hc hn
 refine ⟨b1, off, hp, hb1, fun i hi => ?_⟩
 obtain ⟨x, hx1, hcell⟩ := hx i hi
 exact ⟨x, hx1, g.cell hcell (fun e => by have : b1 = b := Option.some.inj e; omega)⟩
section
variable {a : Nat} {W w w1 : World} {uR uL vR vL v' : Value} {R : List Rt} {L : List Lk}
theorem TK.keep (h : TK a W uR uL vR vL R L w) (g : w.grownBy w1 none) : TK a W uR uL vR vL R L w1 :=
 ⟨kept_row h.gb g (by simp), kept_row h.rb g (by simp), h.oR.kept g (by cases hv : vR.ownBlock <;> simp), h.oL.kept g (by cases hv : vL.ownBlock <;> simp), h.ap, h.st.trans ⟨grown_none g _, h.st.2.keep g⟩, Nat.le_trans h.sz g.size⟩
theorem TK.tape (h : TK a W uR uL vR vL R L w) (ha : a < W.heap.size) (k : St a w w1) : TK a W uR uL vR vL R L w1 :=
 ⟨kept_row h.gb k.1 (fun e => by have := Option.some.inj e; omega), kept_row h.rb k.1 (fun e => by have := Option.some.inj e; omega), own_other h.oR k.1 (by omega), own_other h.oL k.1 (by omega), h.ap, h.st.trans k, Nat.le_trans h.sz k.1.size⟩
theorem TK.start (hT : Tp w a) : TK a w (.slice none 0 0) (.slice none 0 0) (.slice none 0 0) (.slice none 0 0) [] [] ((w.alloc (.cells #[.slice none 0 0, .slice none 0 0] 45)).alloc (.cells #[.slice none 0 0, .slice none 0 0] 45)) := by
 obtain ⟨k1, k2, k3, _⟩ := two_boxes w #[.slice none 0 0, .slice none 0 0] #[.slice none 0 0, .slice none 0 0] 45 45
 exact ⟨k2, k1, World.ownsRow_nil _ _ _ _, World.ownsRow_nil _ _ _ _, fun g hg => (by cases hg), ⟨grown_none k3 _, hT.keep k3⟩, by simp⟩
theorem St.rowT {a base size n : Nat} {W w w1 : World} {e : TypeId} {v : Value} {xs : List Value} (h : St a W w) (ho : w.ownsRow base e size v n xs) (hb : W.heap.size ≤ base) (ha : a < W.heap.size) (k : w.grownBy w1 v.ownBlock) : St a W w1 := by
 cases hv : v.ownBlock with
 | none => rw [hv] at k; exact ⟨grown_trans h.1 (grown_none k _), h.2.keep k⟩
 | some g => rw [hv] at k; exact h.storeT k (Nat.le_trans hb (ho.lt g hv).1) ha
theorem TK.addR {g n cap : Nat} {y : Rt} (h : TK a W uR uL vR vL R L w) (ha : a < W.heap.size) (hown : w1.ownsRow (W.heap.size + 2) 92 2 (.slice (some ⟨g, 0, none⟩) n cap) (R.length + 1) (R.flatMap rtC ++ [.int .i64 y.id, .bool y.cap])) (hg : w.grownBy w1 vR.ownBlock) (hat : vR.ownBlock = some g ∨ g = w.heap.size) :
  TK a W uR uL (.slice (some ⟨g, 0, none⟩) n cap) vL (R ++ [y]) L w1 := by
 have hne : ∀ k, k < W.heap.size + 2 → some k ≠ vR.ownBlock := fun k hk e => by
  have := (h.oR.lt k e.symm).1
  omega
 refine ⟨kept_row h.gb hg (hne _ (by omega)), kept_row h.rb hg (hne _ (by omega)), ?_, h.oL.kept hg ?_, ?_, h.st.rowT h.oR (by omega) ha hg, Nat.le_trans h.sz hg.size⟩
 ·rw [List.length_append, List.flatMap_append]; exact hown
 ·cases hv : vL.ownBlock with
  | none => exact .inl rfl
  | some k => exact .inr (fun e => h.ap k e.symm hv)
 ·intro g2 hg2 e
  obtain rfl : g = g2 := by simpa [Value.ownBlock] using hg2
  rcases hat with hat | hat
  ·exact h.ap g hat e
  ·have := (h.oL.lt g e).2
   omega
theorem TK.addL {g n cap : Nat} {y : Lk} (h : TK a W uR uL vR vL R L w) (ha : a < W.heap.size) (hown : w1.ownsRow (W.heap.size + 2) 94 5 (.slice (some ⟨g, 0, none⟩) n cap) (L.length + 1) (L.flatMap lkC ++ [.int .i64 y.a, .int .i64 y.b, .int .i64 y.ca, .int .i64 y.cb, .int .i64 y.cp])) (hg : w.grownBy w1 vL.ownBlock) (hat : vL.ownBlock = some g ∨ g = w.heap.size) :
  TK a W uR uL vR (.slice (some ⟨g, 0, none⟩) n cap) R (L ++ [y]) w1 := by
 have hne : ∀ k, k < W.heap.size + 2 → some k ≠ vL.ownBlock := fun k hk e => by
  have := (h.oL.lt k e.symm).1
  omega
 refine ⟨kept_row h.gb hg (hne _ (by omega)), kept_row h.rb hg (hne _ (by omega)), h.oR.kept hg ?_, ?_, ?_, h.st.rowT h.oL (by omega) ha hg, Nat.le_trans h.sz hg.size⟩
 ·cases hv : vR.ownBlock with
  | none => exact .inl rfl
  | some k => exact .inr (fun e => h.ap k hv e.symm)
 ·rw [List.length_append, List.flatMap_append]; exact hown
 ·intro g2 hg2 e
  obtain rfl : g = g2 := by simpa [Value.ownBlock] using e
  rcases hat with hat | hat
  ·exact h.ap g hg2 hat
  ·have := (h.oR.lt g hg2).2
   omega
theorem TK.put0 (h : TK a W uR uL vR vL R L w) (ha : a < W.heap.size) : TK a W vR uL vR vL R L (w.setCell ⟨W.heap.size + 1, 0, none⟩ vR) := by
 have k : w.grownBy (w.setCell ⟨W.heap.size + 1, 0, none⟩ vR) (some (W.heap.size + 1)) := grown_setCell w ⟨W.heap.size + 1, 0, none⟩ vR
 exact ⟨heap_setCell_same w _ 0 _ _ vR h.gb, kept_row h.rb k (fun e => by have : W.heap.size = W.heap.size + 1 := Option.some.inj e; omega), own_other h.oR k (by omega), own_other h.oL k (by omega), h.ap, h.st.storeT k (by omega) ha, Nat.le_trans h.sz k.size⟩
theorem TK.put1 (h : TK a W uR uL vR vL R L w) (ha : a < W.heap.size) : TK a W uR vL vR vL R L (w.setCell ⟨W.heap.size + 1, 1, none⟩ vL) := by
 have k : w.grownBy (w.setCell ⟨W.heap.size + 1, 1, none⟩ vL) (some (W.heap.size + 1)) := grown_setCell w ⟨W.heap.size + 1, 1, none⟩ vL
 exact ⟨heap_setCell_same w _ 1 _ _ vL h.gb, kept_row h.rb k (fun e => by have : W.heap.size = W.heap.size + 1 := Option.some.inj e; omega), own_other h.oR k (by omega), own_other h.oL k (by omega), h.ap, h.st.storeT k (by omega) ha, Nat.le_trans h.sz k.size⟩
theorem TK.newL {O : List Lk} (h : TK a W uR uL vR vL R L w) (hown : w1.ownsRow w.heap.size 94 5 v' O.length (O.flatMap lkC)) (g : w.grownBy w1 none) : TK a W uR uL vR v' R O w1 := by
 have h1 := h.keep g
 refine ⟨h1.gb, h1.rb, h1.oR, hown.mono h.sz, fun k hk e => ?_, h1.st, h1.sz⟩
 have := (hown.lt k e).1
 have := (h.oR.lt k hk).2
 omega
theorem flat_set : ∀ (L : List Lk) (k j : Nat) (x : Int), k < L.length → j < 5 → ∃ L' : List Lk, L'.length = L.length ∧ L'.flatMap lkC = (L.flatMap lkC).set (k * 5 + j) (.int .i64 x)
 | [], k, _, _, hk, _ => absurd hk (Nat.not_lt_zero k)
 | m :: t, 0, j, x, _, hj => by
  rcases (show j = 0 ∨ j = 1 ∨ j = 2 ∨ j = 3 ∨ j = 4 by omega) with rfl | rfl | rfl | rfl | rfl
  ·exact ⟨⟨x, m.b, m.ca, m.cb, m.cp⟩ :: t, rfl, rfl⟩
  ·exact ⟨⟨m.a, x, m.ca, m.cb, m.cp⟩ :: t, rfl, rfl⟩
  ·exact ⟨⟨m.a, m.b, x, m.cb, m.cp⟩ :: t, rfl, rfl⟩
  ·exact ⟨⟨m.a, m.b, m.ca, x, m.cp⟩ :: t, rfl, rfl⟩
  ·exact ⟨⟨m.a, m.b, m.ca, m.cb, x⟩ :: t, rfl, rfl⟩
 | m :: t, k + 1, j, x, hk, hj => by
  obtain ⟨L', h1, h2⟩ := flat_set t k j x (by simpa using hk) hj
  refine ⟨m :: L', by simp [h1], ?_⟩
  rw [List.flatMap_cons, h2, List.flatMap_cons]
  have e : (k + 1) * 5 + j = (lkC m).length + (k * 5 + j) := by
   show (k + 1) * 5 + j = 5 + (k * 5 + j)
   omega
  rw [e, List.set_append_right _ _ (Nat.le_add_right _ _), Nat.add_sub_cancel_left]
theorem TK.setL {g n cap k j : Nat} {x : Int} (h : TK a W uR uL vR (.slice (some ⟨g, 0, none⟩) n cap) R L w) (ha : a < W.heap.size) (hk : k < L.length) (hj : j < 5) :
  ∃ L', L'.length = L.length ∧ TK a W uR uL vR (.slice (some ⟨g, 0, none⟩) n cap) R L' (w.setCell ⟨g, k * 5 + j, none⟩ (.int .i64 x)) := by
 obtain ⟨L', hl, hf⟩ := flat_set L k j x hk hj
 obtain ⟨-, -, -⟩ : True ∧ True ∧ True := ⟨trivial, trivial, trivial⟩
 have hg0 := (h.oL.lt g rfl).1
 have hn : n = L.length := by
  obtain ⟨p, c, e, _⟩ := own_shape h.oL
  injection e
 subst hn
 obtain ⟨s1, s2⟩ := h.oL.stored (k * 5 + j) (.int .i64 x)
 refine ⟨L', hl, kept_row h.gb s2 (fun e => by have : W.heap.size + 1 = g := Option.some.inj e; omega), kept_row h.rb s2 (fun e => by have : W.heap.size = g := Option.some.inj e; omega), h.oR.kept s2 ?_, ?_, h.ap, h.st.storeT s2 (by omega) ha, Nat.le_trans h.sz s2.size⟩
 ·cases hv : vR.ownBlock with
  | none => exact .inl rfl
  | some k => exact .inr (fun e => h.ap k hv (by rw [e]; rfl))
 ·rw [hl, hf]; exact s1
end
def TopoPost (a : Nat) (most : Nat) (n : Int) (w : World) (e : Ending) (w' : World) : Prop :=
 ∃ (R : List Rt) (L : List Lk) (vR vL : Value), e = .returned (.agg #[vR, vL]) ∧ w'.ownsRow w.heap.size 92 2 vR R.length (R.flatMap rtC) ∧ w'.ownsRow w.heap.size 94 5 vL L.length (L.flatMap lkC) ∧ (∀ g, vR.ownBlock = some g → vL.ownBlock ≠ some g) ∧ TopOf most n R L ∧ St a w w'
theorem tg_of_own {w : World} {base : Nat} {vR vL : Value} {R : List Rt} {L : List Lk} (hR : w.ownsRow base 92 2 vR R.length (R.flatMap rtC)) (hL : w.ownsRow base 94 5 vL L.length (L.flatMap lkC)) :
  ∃ pR cR pL cL, vR = .slice pR R.length cR ∧ vL = .slice pL L.length cL ∧ TgOk w (fun b => base ≤ b ∧ b < w.heap.size) ⟨R, L, pR, cR, pL, cL⟩ := by
 obtain ⟨pR, cR, rfl, h1, h2⟩ := own_shape hR
 obtain ⟨pL, cL, rfl, h3, h4⟩ := own_shape hL
 exact ⟨pR, cR, pL, cL, rfl, rfl, rdf_of_own2 hR, rdf_of_own2 hL, ⟨h1, h2⟩, ⟨h3, h4⟩⟩
end Go.Proofs.YtahafijpcmphaaaGreat

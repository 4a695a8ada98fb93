/- Parts of the proof, packed: ShReM, ShRAt, ShRSt. -/
import Derived.Test.YtpogblengagpaaaGreatDoorLo8
import Derived.Test.YtpogblengagpaaaGreatDoorLo11
import Derived.Test.YtpogblengagpaaaGreatDoorLo3
import Derived.Deep.OwnRows
/- The reference's tables of costs and of numbers: the mathematics. -/
namespace Go.Proofs.YtpogblengagpaaaGreatDoor
set_option maxRecDepth 100000
open Go.RowKit Bs
def toK (L : List Lk) (z : Int) (k : Nat) : Int → Int := passes (flipL L) k (startF z)
def toJ (L : List Lk) (z : Int) (k j : Nat) : Int → Int := ((flipL L).take j).foldl rlx (toK L z k)
theorem toJ_end (L : List Lk) (z : Int) (k : Nat) : toJ L z k L.length = toK L z (k + 1) := by
  unfold toJ
  rw [List.take_of_length_le (by unfold flipL; rw [List.length_map]; exact Nat.le_refl _)]
  rfl
theorem toJ_step {L : List Lk} {z : Int} {k j : Nat} {l : Lk} (h : L[j]? = some l) : toJ L z k (j + 1) = rlx1 (rlx1 (toJ L z k j) l.b l.a l.ca) l.a l.b l.cb := by
  unfold toJ
  have h1 : (flipL L)[j]? = some ⟨l.a, l.b, l.cb, l.ca, l.cp⟩ := by
    unfold flipL
    rw [List.getElem?_map, h]
    rfl
  rw [List.take_add_one, h1, List.foldl_append]
  rfl
theorem snd_toJ (L : List Lk) (z : Int) (k j : Nat) : Snd (flipL L) z (toJ L z k j) :=
  (fold_rlx ((flipL L).take j) (toK L z k) (fun _ h => List.mem_of_mem_take h) (snd_passes (flipL L) z k)).1
theorem Snd.bd {L : List Lk} (hp : Pos L) {z : Int} {D : Int → Int} (h : Snd L z D) (v : Int) : 0 ≤ D v ∧ D v ≤ farN := by
  rcases h v with h1 | h1
  · rw [h1]; decide
  · exact ⟨h1.2.ge hp, by omega⟩
theorem toJ_bd {R : List Rt} {L : List Lk} (h : okT R L = true) (z : Int) (k j : Nat) (v : Int) : 0 ≤ toJ L z k j v ∧ toJ L z k j v ≤ farN := (snd_toJ L z k j).bd (okT_g h).pos.flip v
def clV (V : List Int) (D : Int → Int) : List Value := V.map fun v => tv (D v)
theorem clV_at {V : List Int} {D : Int → Int} {i : Nat} {v : Int} (h : V[i]? = some v) : (clV V D)[i]? = some (tv (D v)) := by
  unfold clV
  rw [List.getElem?_map, h]
  rfl
theorem clV_len (V : List Int) (D : Int → Int) : (clV V D).length = V.length := by unfold clV; rw [List.length_map]
theorem nodup_idx : ∀ (V : List Int), V.Nodup → ∀ (i j : Nat) (hi : i < V.length) (hj : j < V.length), V[i] = V[j] → i = j
  | [], _, _, _, hi, _, _ => absurd hi (Nat.not_lt_zero _)
  | a :: t, hn, i, j, hi, hj, e => by
    obtain ⟨h1, h2⟩ := List.nodup_cons.1 hn
    cases i with
    | zero =>
      cases j with
      | zero => rfl
      | succ j =>
        rw [List.getElem_cons_zero, List.getElem_cons_succ] at e
        exact absurd (by rw [e]; exact List.getElem_mem _) h1
    | succ i =>
      cases j with
      | zero =>
        rw [List.getElem_cons_zero, List.getElem_cons_succ] at e
        exact absurd (by rw [← e]; exact List.getElem_mem _) h1
      | succ j =>
        rw [List.getElem_cons_succ, List.getElem_cons_succ] at e
        rw [nodup_idx t h2 i j (by simpa using hi) (by simpa using hj) e]
theorem nodup_at {V : List Int} (hn : V.Nodup) {i j : Nat} {v : Int} (hi : V[i]? = some v) (hj : V[j]? = some v) : i = j := by
  obtain ⟨h1, e1⟩ := List.getElem?_eq_some_iff.1 hi
  obtain ⟨h2, e2⟩ := List.getElem?_eq_some_iff.1 hj
  exact nodup_idx V hn i j h1 h2 (e1.trans e2.symm)
theorem clV_set {V : List Int} (hn : V.Nodup) {i : Nat} {v : Int} (h : V[i]? = some v) (D : Int → Int) (x : Int) : (clV V D).set i (tv x) = clV V (updF D v x) := by
  apply List.ext_getElem?
  intro j
  rw [List.getElem?_set]
  by_cases hij : i = j
  · subst hij
    rw [if_pos rfl, clV_at h]
    have h1 : i < (clV V D).length := by rw [clV_len]; exact (List.getElem?_eq_some_iff.1 h).1
    rw [if_pos h1]
    unfold updF
    rw [if_pos rfl]
  · rw [if_neg hij]
    unfold clV
    rw [List.getElem?_map, List.getElem?_map]
    cases hj : V[j]? with
    | none => rfl
    | some u =>
      have hne : u ≠ v := fun e => hij (nodup_at hn h (by rw [hj, e]))
      show some (tv (D u)) = some (tv (updF D v x u))
      rw [show updF D v x u = D u by unfold updF; rw [if_neg hne]]
def atV (R : List Rt) (D : Int → Int) (r : Int) : Int := if r ∈ ids R then D r else farN
def okS (R : List Rt) (L : List Lk) (D : Int → Int) (x r u : Int) : Bool := decide (atV R D u < farN) && decide ((priceV L r u).1 + atV R D u = x)
def stV (R : List Rt) (L : List Lk) (D : Int → Int) (r : Int) : List Int := if atV R D r = farN ∨ atV R D r = 0 then [] else (nearR R L r).filter (okS R L D (atV R D r) r)
end Go.Proofs.YtpogblengagpaaaGreatDoor

/- The reference's place and At; a row of costs of the call's own. -/
namespace Go.Proofs.YtpogblengagpaaaGreatDoor
set_option maxRecDepth 100000
open Go.RowKit Bs
theorem ids_len (R : List Rt) : (ids R).length = R.length := by unfold ids; rw [List.length_map]
theorem ids_at {R : List Rt} {k : Nat} {y : Rt} (h : R[k]? = some y) : (ids R)[k]? = some y.id := by unfold ids; rw [List.getElem?_map, h]; rfl
theorem ids_nodup {R : List Rt} {L : List Lk} (h : okT R L = true) : (ids R).Nodup := nodup_of_lt (ids_pair h)
set_option maxHeartbeats 1600000 in
theorem rplace_any (T : Tg) (x : Int) (i : Nat) (q : Nat → Prop) (w : World) (hT : TgOk w q T) (hi : (ids T.R)[i]? = some x) (hn : (ids T.R).Nodup) :
  Calls Tryz.prog 129 #[.agg #[.slice T.pR T.R.length T.cR, .slice T.pL T.L.length T.cL], .int .i64 x] w fun e w' => e = .returned (.int .i64 (i : Int)) ∧ w.grownBy w' none := by
 have C0 := Lib.hid (CK.start hT)
 have hmR := Nat.le_trans hT.cr.1 hT.cr.2
 clear hT
 obtain ⟨R, L, pR, cR, pL, cL⟩ := T
 simp only at hmR C0 hi hn ⊢
 have HI := Lib.hid (And.intro hi hn)
 have hil : i < R.length := by have := (List.getElem?_eq_some_iff.1 hi).1; rwa [ids_len] at this
 clear hi hn
 go_enter Tryz.func129, Tryz.ntmps129
 go_upto_region 1 with fail
 generalize w.alloc _ = wa at *
 go_wp2_with fail
 go_loopw [5] (fun a wr => ∃ k : Nat, k ≤ i ∧ a = .int .i64 (k : Int) ∧ Hid (CK w ⟨R, L, pR, cR, pL, cL⟩ wr)) (fun a _ => R.length - (RowKit.intOf a).toNat)
 case atStart => exact ⟨0, Nat.zero_le _, rfl, C0⟩
 case round =>
  obtain ⟨k, hk, rfl, C⟩ := hrel
  clear C0
  obtain ⟨c0, c1⟩ := row_cells C.out.box
  have hlt : k < R.length := by omega
  obtain ⟨b, off, hp⟩ := ck_pr C.out (show 0 < R.length by omega)
  change pR = _ at hp
  subst hp
  obtain ⟨y, hy⟩ : ∃ y, R[k]? = some y := ⟨_, List.getElem?_eq_getElem hlt⟩
  obtain ⟨a0, a1⟩ := ck_rt C.out hy
  have hyi := ids_at hy
  by_cases e : k = i
  ·subst e
   have e1 : y.id = x := by have := HI.out.1; rw [hyi] at this; exact Option.some.inj this
   have e' : (y.id == x) = true := by simpa using e1
   clear hy hyi e1
   go_wp2_with fail
   go_ret
   exact ⟨rfl, C.out.gr⟩
  ·have e' : (y.id == x) = false := by
    rw [beq_eq_false_iff_ne]
    intro e1
    exact e (nodup_at HI.out.2 (by rw [hyi, e1]) HI.out.1)
   clear hy hyi
   go_wp2_with fail
   exact ⟨⟨k + 1, by omega, congrArg _ (by omega), C⟩, by simp only [RowKit.intOf]; omega⟩
set_option maxHeartbeats 1600000 in
theorem rat_any (T : Tg) (D : Int → Int) (x : Int) (A : List Int) (pd : Option Addr) (cd : Nat) (q q2 : Nat → Prop) (w : World) (hT : TgOk w q T) (hA : A = (ids T.R).map D) (hD : Rd w q2 (.slice pd A.length cd) (A.map tv)) :
  Calls Tryz.prog 130 #[.agg #[.slice T.pR T.R.length T.cR, .slice T.pL T.L.length T.cL], .slice pd A.length cd, .int .i64 x] w fun e w' => e = .returned (.int .i64 (atV T.R D x)) ∧ w.grownBy w' none := by
 have C0 := Lib.hid (CK.start hT)
 have HD := Lib.hid hD
 have hmR := Nat.le_trans hT.cr.1 hT.cr.2
 clear hT hD
 obtain ⟨R, L, pR, cR, pL, cL⟩ := T
 simp only at hmR C0 hA ⊢
 have hAl : A.length = R.length := by rw [hA, List.length_map, ids_len]
 have HA := Lib.hid hA
 clear hA
 go_enter Tryz.func130, Tryz.ntmps130
 go_upto_region 1 with fail
 generalize w.alloc _ = wa at *
 go_wp2_with fail
 go_loopw [7] (fun a wr => ∃ k : Nat, k ≤ R.length ∧ a = .int .i64 (k : Int) ∧ Hid (CK w ⟨R, L, pR, cR, pL, cL⟩ wr) ∧ Hid ((R.take k).any (fun r => decide (r.id = x)) = false)) (fun a _ => R.length - (RowKit.intOf a).toNat)
 case atStart => exact ⟨0, Nat.zero_le _, rfl, C0, Lib.hid rfl⟩
 case round =>
  obtain ⟨k, hk, rfl, C, HN⟩ := hrel
  clear C0
  obtain ⟨c0, c1⟩ := row_cells C.out.box
  by_cases hlt : k < R.length
  ·obtain ⟨b, off, hp⟩ := ck_pr C.out (show 0 < R.length by omega)
   change pR = _ at hp
   subst hp
   obtain ⟨y, hy⟩ : ∃ y, R[k]? = some y := ⟨_, List.getElem?_eq_getElem hlt⟩
   obtain ⟨a0, a1⟩ := ck_rt C.out hy
   have HY := Lib.hid hy
   clear hy
   by_cases e : y.id = x
   ·have e' : (y.id == x) = true := by simpa using e
    have HE := Lib.hid e
    obtain ⟨-, bd, od, rfl, -, hc⟩ := rdi_at (HD.out.keep C.out.gr) (by omega)
    have d0 := hc k (D y.id) (by rw [HA.out, List.getElem?_map, ids_at HY.out]; rfl)
    clear e hc
    go_wp2_with fail
    go_ret
    refine ⟨?_, C.out.gr⟩
    have h1 : x ∈ ids R := ids_has.2 (any_at HY.out (decide_eq_true HE.out))
    unfold atV
    rw [if_pos h1, ← HE.out]
    rfl
   ·have e' : (y.id == x) = false := by simpa using e
    have HE := Lib.hid e
    clear e
    go_wp2_with fail
    exact ⟨⟨k + 1, by omega, congrArg _ (by omega), C, Lib.hid (any_take HN.out HY.out (decide_eq_false HE.out))⟩, by simp only [RowKit.intOf]; omega⟩
  ·obtain rfl : k = R.length := by omega
   go_wp2_with fail
   go_ret
   have h1 : hasR R x = false := any_end HN.out (Nat.le_refl _)
   unfold atV
   rw [if_neg (fun h => by rw [ids_has.1 h] at h1; cases h1)]
   exact ⟨rfl, C.out.gr⟩
theorem made_int (N : Nat) : madeCells #[Value.int .i64 0] N = (List.replicate N (tv 0)).toArray := by
 unfold madeCells
 apply Array.ext'
 rw [Array.toList_map, Array.toList_range]
 apply List.ext_getElem?
 intro i
 rw [List.getElem?_map, List.getElem?_replicate]
 by_cases h : i < N
 ·rw [List.getElem?_range h, if_pos h]
  simp [tv, Nat.mod_one]
 ·rw [List.getElem?_eq_none (by simpa using h), if_neg h]; rfl
theorem clV_zero (V : List Int) : clV V (fun _ => 0) = List.replicate V.length (tv 0) := by
 unfold clV
 rw [List.map_const']
theorem wpList_make_ints (w : World) {ops : Array Oper} {rest : List Oper} {o : Oper} {a : Act} {Q : Exit → Act → World → Prop} (hg : o.guard = none) (l c : Operand) (hop : o.op = Op.makeSlice 22 l c) (M : Nat)
  (hl : a.eval l = .int .i64 (M : Int)) (hc : a.eval c = .int .i64 (M : Int)) (hM : M ≤ 100000)
  (hK : TRow (w.alloc (.cells (Array.replicate M (tv 0)) 3)) w.heap.size 3 (List.replicate M (tv 0)) → w.grownBy (w.alloc (.cells (Array.replicate M (tv 0)) 3)) none → wpList Tryz.prog ops Q rest (a.put o.dst (.slice (some ⟨w.heap.size, 0, none⟩) M M)) (w.alloc (.cells (Array.replicate M (tv 0)) 3))) : wpList Tryz.prog ops Q (o :: rest) a w := by
 obtain ⟨i0, hi, hz0, hz1, hz2⟩ := info_parts info_int
 refine wpList_make_row w hg l c 22 hop 3 i0 (.int .i64 0) Tryz.underlying22 hi hz0 hz1 rfl .i64 .i64 M hl hc (by rw [hz2]; omega) (by omega) ?_
 rw [made_int, List.toArray_replicate]
 refine hK ?_ (World.grownBy_alloc w _ _)
 unfold TRow
 rw [List.toArray_replicate]
 exact heap_alloc_new w _
structure TM (w : World) (T : Tg) (G gd : Nat) (D : Int → Int) (wr : World) : Prop where
 gb : wr.heap[G]? = some (.cells #[.slice T.pR T.R.length T.cR, .slice T.pL T.L.length T.cL] 68 (0, 0))
 t : TgOk wr (· < gd) T
 d : TRow wr gd 3 (clV (ids T.R) D)
 gr : w.grownBy wr none
 lt : G < gd ∧ w.heap.size ≤ G
theorem TM.keep {w wr w' : World} {T : Tg} {G gd : Nat} {D : Int → Int} (h : TM w T G gd D wr) (g : wr.grownBy w' none) : TM w T G gd D w' :=
 ⟨kept_row h.gb g (by simp), h.t.keep g, h.d.kept g (by simp), grown_trans h.gr g, h.lt⟩
theorem TM.put {w wr : World} {T : Tg} {G gd : Nat} {D : Int → Int} (h : TM w T G gd D wr) (hn : (ids T.R).Nodup) {i : Nat} {v : Int} (hi : (ids T.R)[i]? = some v) (x : Int) : TM w T G gd (updF D v x) (wr.setCell ⟨gd, i, none⟩ (tv x)) := by
 have g := grown_setCell wr ⟨gd, i, none⟩ (tv x)
 have hlt := h.lt
 refine ⟨kept_row h.gb g (fun e => by have := Option.some.inj e; simp only at this; omega), h.t.grown g (fun b hb e => by have := Option.some.inj e; simp only at this; omega), ?_, grown_new h.gr g (by show w.heap.size ≤ gd; omega), hlt⟩
 have := h.d.set i (tv x)
 rwa [clV_set hn hi] at this
def iniF (V : List Int) (z : Int) (i : Nat) : Int → Int := fun u => if u ∈ V.take i then startF z u else 0
theorem iniF_step {V : List Int} {z v : Int} {i : Nat} (h : V[i]? = some v) : updF (iniF V z i) v (startF z v) = iniF V z (i + 1) := by
 funext u
 unfold updF iniF
 rw [List.take_add_one, h]
 by_cases hu : u = v
 ·rw [if_pos hu, hu, if_pos (by simp)]
 ·rw [if_neg hu]
  by_cases hm : u ∈ V.take i
  ·rw [if_pos hm, if_pos (by simp [hm])]
  ·rw [if_neg hm, if_neg (by simp [hm, hu])]
theorem clV_congr {V : List Int} {D E : Int → Int} (h : ∀ v ∈ V, D v = E v) : clV V D = clV V E := by
 unfold clV
 exact List.map_congr_left (fun v hv => by rw [h v hv])
theorem iniF_end (V : List Int) (z : Int) : clV V (iniF V z V.length) = clV V (startF z) :=
 clV_congr (fun v hv => by unfold iniF; rw [List.take_length, if_pos hv])
theorem updF_twice (D : Int → Int) (v x y : Int) : updF (updF D v x) v y = updF D v y := by
 funext u
 unfold updF
 by_cases h : u = v
 ·rw [if_pos h, if_pos h]
 ·rw [if_neg h, if_neg h, if_neg h]
end Go.Proofs.YtpogblengagpaaaGreatDoor

/- The reference's Steps. -/
namespace Go.Proofs.YtpogblengagpaaaGreatDoor
set_option maxRecDepth 100000
open Go.RowKit Bs
theorem filt_snocI {P : Int → Bool} {M : List Int} {k : Nat} {y : Int} (h : M[k]? = some y) : (M.take (k + 1)).filter P = (M.take k).filter P ++ (if P y = true then [y] else []) := by
 rw [List.take_add_one, h, List.filter_append]
 congr 1
 by_cases hp : P y = true
 ·rw [if_pos hp]; simp [hp]
 ·rw [if_neg hp]; simp [hp]
theorem price_bd {R : List Rt} {L : List Lk} (h : okT R L = true) (u v : Int) : 0 ≤ (priceV L u v).1 ∧ (priceV L u v).1 ≤ 1000 := by
 cases hp : (priceV L u v).2 with
 | true =>
  have he := price_ed2 h (u := u) (v := v) (c := (priceV L u v).1) (Prod.ext rfl hp)
  have := ((okT_g h).edg he).1
  omega
 | false =>
  unfold priceV at hp ⊢
  cases hf : L.findSome? (priceB u v) with
  | none => simp
  | some c => rw [hf] at hp; cases hp
set_option maxHeartbeats 6400000 in
theorem rsteps_any (T : Tg) (D : Int → Int) (x : Int) (A : List Int) (pd : Option Addr) (cd : Nat) (q q2 : Nat → Prop) (w : World) (hT : TgOk w q T) (hok : okT T.R T.L = true) (hA : A = (ids T.R).map D) (hD : Rd w q2 (.slice pd A.length cd) (A.map tv)) (hb : ∀ v, 0 ≤ D v ∧ D v ≤ farN) :
  Calls Tryz.prog 114 #[.agg #[.slice T.pR T.R.length T.cR, .slice T.pL T.L.length T.cL], .slice pd A.length cd, .int .i64 x] w fun e w' => TRet (stV T.R T.L D x) w e w' := by
 obtain ⟨i0, hi, hz0, hz1, hz2⟩ := info_parts info_int
 obtain ⟨R, L, pR, cR, pL, cL⟩ := T
 simp only at hok hA ⊢
 have hl := (okT_g hok).len
 rw [ids_len] at hl
 obtain ⟨hR24, hL60⟩ := hl
 have HOK := Lib.hid hok
 obtain ⟨k1, k2⟩ := tone_box w #[.slice pR R.length cR, .slice pL L.length cL] 68
 have HB := Lib.hid (And.intro k1 (And.intro k2 (hT.keep k2)))
 have HD := Lib.hid (hD.keep k2)
 have HA := Lib.hid hA
 have HBD : Hid (∀ v, 0 ≤ atV R D v ∧ atV R D v ≤ farN) := Lib.hid (fun v => by
  unfold atV
  by_cases h : v ∈ ids R
  ·rw [if_pos h]; exact hb v
  ·rw [if_neg h]; unfold farN; omega)
 clear k1 k2 hT hD hA hb hok
 obtain ⟨c0, c1⟩ := row_cells HB.out.1
 obtain ⟨X, hX⟩ : ∃ X, stV R L D x = X := ⟨_, rfl⟩
 have HX := Lib.hid hX
 rw [hX]
 clear hX
 go_enter Tryz.func114, Tryz.ntmps114
 go_upto_region 1 with fail
 generalize w.alloc _ = wb at *
 go_wp2_with fail
 refine (rat_any ⟨R, L, pR, cR, pL, cL⟩ D x A pd cd _ _ wb HB.out.2.2 HA.out HD.out).mono ?_
 rintro e w1 ⟨rfl, hg⟩
 simp only
 obtain ⟨v, hv⟩ : ∃ v, atV R D x = v := ⟨_, rfl⟩
 have HV : Hid (atV R D x = v) := Lib.hid hv
 have hvb := HBD.out x
 rw [hv] at hvb ⊢
 have HB1 := Lib.hid (And.intro (kept_row HB.out.1 hg (by simp)) (And.intro (grown_trans HB.out.2.1 hg) (HB.out.2.2.keep hg)))
 have HD1 := Lib.hid (HD.out.keep hg)
 clear hg c0 c1 HB HD hv
 obtain ⟨c0, c1⟩ := row_cells HB1.out.1
 go_upto_region 3 with fail
 by_cases hfar : v = farN
 ·have hf' : (v == 1073741824) = true := by rw [hfar]; rfl
  have hX : X = [] := by rw [← HX.out]; unfold stV; rw [HV.out, if_pos (.inl hfar)]
  clear hfar
  subst hX
  go_wp2_with fail
  go_ret
  exact ⟨none, 0, rfl, ⟨none, 0, rfl, fun hne => absurd rfl hne⟩, ⟨Nat.le_refl _, by omega⟩, fun _ => rfl, HB1.out.2.1⟩
 ·have hf' : (v == 1073741824) = false := by rw [beq_eq_false_iff_ne]; exact hfar
  by_cases hz : v = 0
  ·have hX : X = [] := by rw [← HX.out]; unfold stV; rw [HV.out, if_pos (.inr hz)]
   have hz' : (v == 0) = true := by rw [hz]; rfl
   clear hfar hz
   subst hX
   go_wp2_with fail
   go_ret
   exact ⟨none, 0, rfl, ⟨none, 0, rfl, fun hne => absurd rfl hne⟩, ⟨Nat.le_refl _, by omega⟩, fun _ => rfl, HB1.out.2.1⟩
  ·have hz' : (v == 0) = false := by rw [beq_eq_false_iff_ne]; exact hz
   have hX : X = (nearR R L x).filter (okS R L D v x) := by
    rw [← HX.out]; unfold stV; rw [HV.out, if_neg (by rintro (h | h); exact hfar h; exact hz h)]
   have HX2 := Lib.hid hX
   clear hX hfar hz
   go_wp2_with fail
   refine (rnear_any ⟨R, L, pR, cR, pL, cL⟩ x _ w1 HB1.out.2.2 (by show R.length ≤ 1000; omega)).mono ?_
   rintro e w2 ⟨pn, cn, rfl, hrn, hcn, hnn, hg⟩
   (try simp only at hrn hcn ⊢)
   have hNl : (nearR R L x).length ≤ R.length := by unfold nearR; rw [List.length_map]; exact List.length_filter_le _ _
   obtain ⟨N, hN⟩ : ∃ N, nearR R L x = N := ⟨_, rfl⟩
   rw [hN] at hrn hcn HX2 hNl ⊢
   have HN : Hid (Rd w2 (fun _ => True) (.slice pn N.length cn) (N.map tv)) := Lib.hid (hrn.mono (fun _ _ => trivial))
   have HB2 := Lib.hid (And.intro (kept_row HB1.out.1 hg (by simp)) (And.intro (grown_trans HB1.out.2.1 hg) (HB1.out.2.2.keep hg)))
   have HD2 := Lib.hid (HD1.out.keep hg)
   have HPB := Lib.hid (fun u => price_bd HOK.out x u)
   have hNl2 : N.length ≤ 24 := by omega
   have N0 : Hid (NK w2 (.slice none 0 0) ((N.take 0).filter (okS R L D v x)) w2) := Lib.hid ⟨World.ownsRow_nil _ _ _ _, grown_refl _ _⟩
   clear hrn hg hnn hNl c0 c1 HB1 HD1 hN
   go_wp2_with fail
   go_loopw [7, 10] (fun vo a wr => ∃ (k : Nat) (va : Value), va = vo ∧ k ≤ N.length ∧ a = .int .i64 (k : Int) ∧ Hid (NK w2 va ((N.take k).filter (okS R L D v x)) wr)) (fun _ a _ => N.length - (RowKit.intOf a).toNat)
   case atStart => exact ⟨0, _, rfl, Nat.zero_le _, rfl, N0⟩
   case round =>
   obtain ⟨w3, rfl⟩ : ∃ w3, w3 = wr := ⟨_, rfl⟩
   obtain ⟨k, va, rfl, hk, rfl, NN⟩ := hrel
   clear N0
   by_cases hlt : k < N.length
   ·obtain ⟨-, b8, o8, rfl, -, -⟩ := rdi_at (HN.out.keep NN.out.gr) (by omega)
    obtain ⟨n, hn⟩ : ∃ n, N[k]? = some n := ⟨_, List.getElem?_eq_getElem hlt⟩
    have HC : Hid (∀ u, w2.grownBy u none → u.cell? ⟨b8, o8 + k, none⟩ = some (.int .i64 n)) := Lib.hid (fun u g => by
     obtain ⟨-, b, o, e, -, hc⟩ := rdi_at (HN.out.keep g) (by omega)
     injection e with e
     injection e with e1 e2
     subst e1
     subst e2
     exact hc k n hn)
    have HS := Lib.hid (filt_snocI (P := okS R L D v x) hn)
    have hk1 : (k : Int) < (N.length : Int) := by omega
    obtain ⟨c, hc⟩ : ∃ c, (priceV L x n).1 = c := ⟨_, rfl⟩
    obtain ⟨bo, hbo⟩ : ∃ bo, (priceV L x n).2 = bo := ⟨_, rfl⟩
    have hcb := HPB.out n
    rw [hc] at hcb
    obtain ⟨d, hd⟩ : ∃ d, atV R D n = d := ⟨_, rfl⟩
    have hdb := HBD.out n
    rw [hd] at hdb
    have HPR := Lib.hid (And.intro hc (And.intro hbo hd))
    have HP : Hid (okS R L D v x n = (decide (d < farN) && decide (c + d = v))) := Lib.hid (by unfold okS; rw [hc, hd])
    clear hn hc hbo hd
    obtain ⟨B, hB⟩ : ∃ B, (N.take k).filter (okS R L D v x) = B := ⟨_, rfl⟩
    have hBl : B.length ≤ 24 := by rw [← hB]; exact Nat.le_trans (List.length_filter_le _ _) (by rw [List.length_take]; omega)
    rw [hB] at NN HS
    clear hB
    go_upto_region 9 with fail
    refine wp_region_held_drew (S := fun w' => Hid (w3.grownBy w' none)) (by kernel_rfl) (Lib.hid (grown_drew (grown_refl _ _))) (fun hHeld => ?_)
    refine zT (i := 0) (v := ?_) rfl ?_ hHeld ?_
    rotate_left 1
    ·intro u hSu
     obtain ⟨q0, q1⟩ := row_cells (kept_row HB2.out.1 (grown_trans NN.out.gr hSu.out) (by simp))
     have q2 := HC.out u (grown_trans NN.out.gr hSu.out)
     go_simp
     first | done | with_reducible rfl
    try simp only [Act.put, zA, zB, zC]
    refine zT (i := 1) (v := ?_) rfl ?_ hHeld ?_
    rotate_left 1
    ·intro u hSu
     go_simp
     first | done | with_reducible rfl
    try simp only [Act.put, zA, zB, zC]
    refine zT (i := 2) (v := ?_) rfl ?_ hHeld ?_
    rotate_left 1
    ·intro u hSu
     go_simp
     first | done | with_reducible rfl
    try simp only [Act.put, zA, zB, zC]
    refine zT (i := 3) (v := ?_) rfl ?_ hHeld ?_
    rotate_left 1
    ·intro u hSu
     go_simp
     first | done | with_reducible rfl
    try simp only [Act.put, zA, zB, zC]
    refine zT (i := 4) (v := ?_) rfl ?_ hHeld ?_
    rotate_left 1
    ·intro u hSu
     go_simp
     first | done | with_reducible rfl
    try simp only [Act.put, zA, zB, zC]
    refine zT (i := 5) (v := ?_) rfl ?_ hHeld ?_
    rotate_left 1
    ·intro u hSu
     obtain ⟨q0, q1⟩ := row_cells (kept_row HB2.out.1 (grown_trans NN.out.gr hSu.out) (by simp))
     have q2 := HC.out u (grown_trans NN.out.gr hSu.out)
     go_simp
     first | done | with_reducible rfl
    try simp only [Act.put, zA, zB, zC]
    refine wpAnyH_ready (rs := [6]) (by kernel_rfl) (by simp) ?_
    refine AllReadyH.cons (o := ⟨_, _, _, _, _, _⟩) rfl (fun Kz hK => ?_) AllReadyH.nil
    go_simp
    go_at_call 132
    refine (rprice_any ⟨R, L, pR, cR, pL, cL⟩ x n _ _ (HB2.out.2.2.keep (grown_trans NN.out.gr hHeld.out))).mono ?_
    rintro e w9 ⟨rfl, hg9⟩
    simp only
    rw [HPR.out.1, HPR.out.2.1]
    refine hK.out _ _ (Lib.hid (grown_trans hHeld.out hg9)) (fun hH2 => ?_)
    clear hK Kz hHeld
    have hHeld := hH2
    clear hH2
    try simp only [Act.put, zA, zB, zC]
    refine zT (i := 7) (v := ?_) rfl ?_ hHeld ?_
    rotate_left 1
    ·intro u hSu
     go_simp
     first | done | with_reducible rfl
    try simp only [Act.put, zA, zB, zC]
    refine zT (i := 8) (v := ?_) rfl ?_ hHeld ?_
    rotate_left 1
    ·intro u hSu
     go_simp
     first | done | with_reducible rfl
    try simp only [Act.put, zA, zB, zC]
    refine zT (i := 9) (v := ?_) rfl ?_ hHeld ?_
    rotate_left 1
    ·intro u hSu
     go_simp
     first | done | with_reducible rfl
    try simp only [Act.put, zA, zB, zC]
    refine zT (i := 10) (v := ?_) rfl ?_ hHeld ?_
    rotate_left 1
    ·intro u hSu
     go_simp
     first | done | with_reducible rfl
    try simp only [Act.put, zA, zB, zC]
    refine zT (i := 11) (v := ?_) rfl ?_ hHeld ?_
    rotate_left 1
    ·intro u hSu
     go_simp
     first | done | with_reducible rfl
    try simp only [Act.put, zA, zB, zC]
    refine wpAnyH_done (by kernel_rfl) ?_ _
    obtain ⟨wa, hwa⟩ : ∃ wa, wa = w9 := ⟨_, rfl⟩
    have NA := Lib.hid (NN.out.keep hHeld.out)
    rw [← hwa] at NA ⊢
    clear hHeld hwa
    go_upto_region 10 with fail
    by_cases hdf : d < farN
    ·have hdf2 : d < 1073741824 := hdf
     by_cases hcd : c + d = v
     ·skip
      refine wp_region_held_drew (S := fun w' => Hid (wa.grownBy w' none)) (by kernel_rfl) (Lib.hid (grown_drew (grown_refl _ _))) (fun hHeld => ?_)
      refine zT (i := 0) (v := ?_) rfl ?_ hHeld ?_
      rotate_left 1
      ·intro u hSu
       obtain ⟨q0, q1⟩ := row_cells (kept_row HB2.out.1 (grown_trans NA.out.gr hSu.out) (by simp))
       have q2 := HC.out u (grown_trans NA.out.gr hSu.out)
       go_simp
       first | done | with_reducible rfl
      try simp only [Act.put, zA, zB, zC]
      refine zT (i := 1) (v := ?_) rfl ?_ hHeld ?_
      rotate_left 1
      ·intro u hSu
       go_simp
       first | done | with_reducible rfl
      try simp only [Act.put, zA, zB, zC]
      refine zT (i := 2) (v := ?_) rfl ?_ hHeld ?_
      rotate_left 1
      ·intro u hSu
       go_simp
       first | done | with_reducible rfl
      try simp only [Act.put, zA, zB, zC]
      refine zT (i := 3) (v := ?_) rfl ?_ hHeld ?_
      rotate_left 1
      ·intro u hSu
       go_simp
       first | done | with_reducible rfl
      try simp only [Act.put, zA, zB, zC]
      refine zT (i := 4) (v := ?_) rfl ?_ hHeld ?_
      rotate_left 1
      ·intro u hSu
       go_simp
       first | done | with_reducible rfl
      try simp only [Act.put, zA, zB, zC]
      refine zT (i := 5) (v := ?_) rfl ?_ hHeld ?_
      rotate_left 1
      ·intro u hSu
       obtain ⟨q0, q1⟩ := row_cells (kept_row HB2.out.1 (grown_trans NA.out.gr hSu.out) (by simp))
       have q2 := HC.out u (grown_trans NA.out.gr hSu.out)
       go_simp
       first | done | with_reducible rfl
      try simp only [Act.put, zA, zB, zC]
      refine wpAnyH_ready (rs := [6]) (by kernel_rfl) (by simp) ?_
      refine AllReadyH.cons (o := ⟨_, _, _, _, _, _⟩) rfl (fun Kz hK => ?_) AllReadyH.nil
      go_simp
      go_at_call 130
      refine (rat_any ⟨R, L, pR, cR, pL, cL⟩ D n A pd cd _ _ _ (HB2.out.2.2.keep (grown_trans NA.out.gr hHeld.out)) HA.out (HD2.out.keep (grown_trans NA.out.gr hHeld.out))).mono ?_
      rintro e wc1 ⟨rfl, hgc⟩
      simp only
      rw [HPR.out.2.2]
      refine hK.out _ _ (Lib.hid (grown_trans hHeld.out hgc)) (fun hH2 => ?_)
      clear hK Kz hHeld
      have hHeld := hH2
      clear hH2
      try simp only [Act.put, zA, zB, zC]
      refine zT (i := 7) (v := (.bool true)) rfl ?_ hHeld ?_
      ·intro u hSu
       go_simp
       first | done | (simp; omega) | omega
      try simp only [Act.put, zA, zB, zC]
      refine zT (i := 8) (v := ?_) rfl ?_ hHeld ?_
      rotate_left 1
      ·intro u hSu
       go_simp
       first | done | with_reducible rfl
      try simp only [Act.put, zA, zB, zC]
      refine zT (i := 9) (v := ?_) rfl ?_ hHeld ?_
      rotate_left 1
      ·intro u hSu
       go_simp
       first | done | with_reducible rfl
      try simp only [Act.put, zA, zB, zC]
      refine zT (i := 10) (v := ?_) rfl ?_ hHeld ?_
      rotate_left 1
      ·intro u hSu
       obtain ⟨q0, q1⟩ := row_cells (kept_row HB2.out.1 (grown_trans NA.out.gr hSu.out) (by simp))
       have q2 := HC.out u (grown_trans NA.out.gr hSu.out)
       go_simp
       first | done | with_reducible rfl
      try simp only [Act.put, zA, zB, zC]
      refine zT (i := 11) (v := ?_) rfl ?_ hHeld ?_
      rotate_left 1
      ·intro u hSu
       go_simp
       first | done | with_reducible rfl
      try simp only [Act.put, zA, zB, zC]
      refine zT (i := 12) (v := ?_) rfl ?_ hHeld ?_
      rotate_left 1
      ·intro u hSu
       go_simp
       first | done | with_reducible rfl
      try simp only [Act.put, zA, zB, zC]
      refine zT (i := 13) (v := ?_) rfl ?_ hHeld ?_
      rotate_left 1
      ·intro u hSu
       go_simp
       first | done | with_reducible rfl
      try simp only [Act.put, zA, zB, zC]
      refine zT (i := 14) (v := ?_) rfl ?_ hHeld ?_
      rotate_left 1
      ·intro u hSu
       go_simp
       first | done | with_reducible rfl
      try simp only [Act.put, zA, zB, zC]
      refine zT (i := 15) (v := ?_) rfl ?_ hHeld ?_
      rotate_left 1
      ·intro u hSu
       obtain ⟨q0, q1⟩ := row_cells (kept_row HB2.out.1 (grown_trans NA.out.gr hSu.out) (by simp))
       have q2 := HC.out u (grown_trans NA.out.gr hSu.out)
       go_simp
       first | done | with_reducible rfl
      try simp only [Act.put, zA, zB, zC]
      refine zT (i := 18) (v := ?_) rfl ?_ hHeld ?_
      rotate_left 1
      ·intro u hSu
       go_simp
       first | done | with_reducible rfl
      try simp only [Act.put, zA, zB, zC]
      refine wpAnyH_ready (rs := [16]) (by kernel_rfl) (by simp) ?_
      refine AllReadyH.cons (o := ⟨_, _, _, _, _, _⟩) rfl (fun Kz hK => ?_) AllReadyH.nil
      go_simp
      go_at_call 130
      refine (rat_any ⟨R, L, pR, cR, pL, cL⟩ D n A pd cd _ _ _ (HB2.out.2.2.keep (grown_trans NA.out.gr hHeld.out)) HA.out (HD2.out.keep (grown_trans NA.out.gr hHeld.out))).mono ?_
      rintro e wc2 ⟨rfl, hgc⟩
      simp only
      rw [HPR.out.2.2]
      refine hK.out _ _ (Lib.hid (grown_trans hHeld.out hgc)) (fun hH2 => ?_)
      clear hK Kz hHeld
      have hHeld := hH2
      clear hH2
      try simp only [Act.put, zA, zB, zC]
      refine zT (i := 17) (v := (.int .i64 (c + d))) rfl ?_ hHeld ?_
      ·intro u hSu
       go_simp
       first | done | exact Go.IntWalk.i64_in _ (by omega) | omega
      try simp only [Act.put, zA, zB, zC]
      refine zT (i := 19) (v := (.bool true)) rfl ?_ hHeld ?_
      ·intro u hSu
       go_simp
       first | done | (simp; omega) | omega
      try simp only [Act.put, zA, zB, zC]
      refine zT (i := 20) (v := ?_) rfl ?_ hHeld ?_
      rotate_left 1
      ·intro u hSu
       go_simp
       first | done | with_reducible rfl
      try simp only [Act.put, zA, zB, zC]
      refine wpAnyH_done (by kernel_rfl) ?_ _
      obtain ⟨wz, hwz⟩ : ∃ wz, wz = wc2 := ⟨_, rfl⟩
      have NZ := Lib.hid (NA.out.keep hHeld.out)
      rw [← hwz] at NZ ⊢
      clear hHeld hwz NA NN
      have HS2 : Hid ((N.take (k + 1)).filter (okS R L D v x) = B ++ [n]) := Lib.hid (by rw [HS.out, HP.out, decide_eq_true hdf, decide_eq_true hcd]; rfl)
      have hown := NZ.out.own
      have hsz := NZ.out.gr.size
      have d0 := HC.out wz NZ.out.gr
      clear HC
      go_wp2_with (at_builtin; refine hold_on ?_)
      refine Lib.hid ?_
      refine wpList_append_lies _ rfl _ _ 22 rfl w2.heap.size 3 i0 (.int .i64 0) 1 8 Tryz.underlying22 hi hz0 hz1 hz2 rfl (by decide) _ _ _ rfl (hown.alloc _) ⟨wz.heap.size, 0, none⟩ 1 1 [.int .i64 n] rfl rfl ?c1 ?c2 (by decide) ?c3 ?c4 ?c5 _ rfl ?_
      try (case c1 => exact cell_one _ _ _)
      case c2 => (intro u hu; simp at hu; rcases hu with rfl; rfl)
      case c3 => first | omega | (unfold maxLen; omega)
      case c4 => omega
      case c5 => first | omega | (simp; omega)
      intro gq capq w8 hown8 hg8 hat8 hlt8
      obtain ⟨vq, hvq⟩ : ∃ vq, Value.slice (some ⟨gq, 0, none⟩) (B.length + 1) capq = vq := ⟨_, rfl⟩
      rw [hvq] at hown8 ⊢
      obtain ⟨n1, -⟩ := NZ.out.more (x := n) (grown_refl _ _) hown8 hg8
      have N1 : Hid (NK w2 vq ((N.take (k + 1)).filter (okS R L D v x)) w8) := Lib.hid (by rw [HS2.out]; exact n1)
      clear hvq hat8 hlt8 hg8 hown n1 hown8
      go_wp2_with fail
      exact ⟨⟨k + 1, _, rfl, by omega, congrArg _ (by omega), N1⟩, by simp only [RowKit.intOf]; omega⟩
     ·skip
      refine wp_region_held_drew (S := fun w' => Hid (wa.grownBy w' none)) (by kernel_rfl) (Lib.hid (grown_drew (grown_refl _ _))) (fun hHeld => ?_)
      refine zT (i := 0) (v := ?_) rfl ?_ hHeld ?_
      rotate_left 1
      ·intro u hSu
       obtain ⟨q0, q1⟩ := row_cells (kept_row HB2.out.1 (grown_trans NA.out.gr hSu.out) (by simp))
       have q2 := HC.out u (grown_trans NA.out.gr hSu.out)
       go_simp
       first | done | with_reducible rfl
      try simp only [Act.put, zA, zB, zC]
      refine zT (i := 1) (v := ?_) rfl ?_ hHeld ?_
      rotate_left 1
      ·intro u hSu
       go_simp
       first | done | with_reducible rfl
      try simp only [Act.put, zA, zB, zC]
      refine zT (i := 2) (v := ?_) rfl ?_ hHeld ?_
      rotate_left 1
      ·intro u hSu
       go_simp
       first | done | with_reducible rfl
      try simp only [Act.put, zA, zB, zC]
      refine zT (i := 3) (v := ?_) rfl ?_ hHeld ?_
      rotate_left 1
      ·intro u hSu
       go_simp
       first | done | with_reducible rfl
      try simp only [Act.put, zA, zB, zC]
      refine zT (i := 4) (v := ?_) rfl ?_ hHeld ?_
      rotate_left 1
      ·intro u hSu
       go_simp
       first | done | with_reducible rfl
      try simp only [Act.put, zA, zB, zC]
      refine zT (i := 5) (v := ?_) rfl ?_ hHeld ?_
      rotate_left 1
      ·intro u hSu
       obtain ⟨q0, q1⟩ := row_cells (kept_row HB2.out.1 (grown_trans NA.out.gr hSu.out) (by simp))
       have q2 := HC.out u (grown_trans NA.out.gr hSu.out)
       go_simp
       first | done | with_reducible rfl
      try simp only [Act.put, zA, zB, zC]
      refine wpAnyH_ready (rs := [6]) (by kernel_rfl) (by simp) ?_
      refine AllReadyH.cons (o := ⟨_, _, _, _, _, _⟩) rfl (fun Kz hK => ?_) AllReadyH.nil
      go_simp
      go_at_call 130
      refine (rat_any ⟨R, L, pR, cR, pL, cL⟩ D n A pd cd _ _ _ (HB2.out.2.2.keep (grown_trans NA.out.gr hHeld.out)) HA.out (HD2.out.keep (grown_trans NA.out.gr hHeld.out))).mono ?_
      rintro e wc1 ⟨rfl, hgc⟩
      simp only
      rw [HPR.out.2.2]
      refine hK.out _ _ (Lib.hid (grown_trans hHeld.out hgc)) (fun hH2 => ?_)
      clear hK Kz hHeld
      have hHeld := hH2
      clear hH2
      try simp only [Act.put, zA, zB, zC]
      refine zT (i := 7) (v := (.bool true)) rfl ?_ hHeld ?_
      ·intro u hSu
       go_simp
       first | done | (simp; omega) | omega
      try simp only [Act.put, zA, zB, zC]
      refine zT (i := 8) (v := ?_) rfl ?_ hHeld ?_
      rotate_left 1
      ·intro u hSu
       go_simp
       first | done | with_reducible rfl
      try simp only [Act.put, zA, zB, zC]
      refine zT (i := 9) (v := ?_) rfl ?_ hHeld ?_
      rotate_left 1
      ·intro u hSu
       go_simp
       first | done | with_reducible rfl
      try simp only [Act.put, zA, zB, zC]
      refine zT (i := 10) (v := ?_) rfl ?_ hHeld ?_
      rotate_left 1
      ·intro u hSu
       obtain ⟨q0, q1⟩ := row_cells (kept_row HB2.out.1 (grown_trans NA.out.gr hSu.out) (by simp))
       have q2 := HC.out u (grown_trans NA.out.gr hSu.out)
       go_simp
       first | done | with_reducible rfl
      try simp only [Act.put, zA, zB, zC]
      refine zT (i := 11) (v := ?_) rfl ?_ hHeld ?_
      rotate_left 1
      ·intro u hSu
       go_simp
       first | done | with_reducible rfl
      try simp only [Act.put, zA, zB, zC]
      refine zT (i := 12) (v := ?_) rfl ?_ hHeld ?_
      rotate_left 1
      ·intro u hSu
       go_simp
       first | done | with_reducible rfl
      try simp only [Act.put, zA, zB, zC]
      refine zT (i := 13) (v := ?_) rfl ?_ hHeld ?_
      rotate_left 1
      ·intro u hSu
       go_simp
       first | done | with_reducible rfl
      try simp only [Act.put, zA, zB, zC]
      refine zT (i := 14) (v := ?_) rfl ?_ hHeld ?_
      rotate_left 1
      ·intro u hSu
       go_simp
       first | done | with_reducible rfl
      try simp only [Act.put, zA, zB, zC]
      refine zT (i := 15) (v := ?_) rfl ?_ hHeld ?_
      rotate_left 1
      ·intro u hSu
       obtain ⟨q0, q1⟩ := row_cells (kept_row HB2.out.1 (grown_trans NA.out.gr hSu.out) (by simp))
       have q2 := HC.out u (grown_trans NA.out.gr hSu.out)
       go_simp
       first | done | with_reducible rfl
      try simp only [Act.put, zA, zB, zC]
      refine zT (i := 18) (v := ?_) rfl ?_ hHeld ?_
      rotate_left 1
      ·intro u hSu
       go_simp
       first | done | with_reducible rfl
      try simp only [Act.put, zA, zB, zC]
      refine wpAnyH_ready (rs := [16]) (by kernel_rfl) (by simp) ?_
      refine AllReadyH.cons (o := ⟨_, _, _, _, _, _⟩) rfl (fun Kz hK => ?_) AllReadyH.nil
      go_simp
      go_at_call 130
      refine (rat_any ⟨R, L, pR, cR, pL, cL⟩ D n A pd cd _ _ _ (HB2.out.2.2.keep (grown_trans NA.out.gr hHeld.out)) HA.out (HD2.out.keep (grown_trans NA.out.gr hHeld.out))).mono ?_
      rintro e wc2 ⟨rfl, hgc⟩
      simp only
      rw [HPR.out.2.2]
      refine hK.out _ _ (Lib.hid (grown_trans hHeld.out hgc)) (fun hH2 => ?_)
      clear hK Kz hHeld
      have hHeld := hH2
      clear hH2
      try simp only [Act.put, zA, zB, zC]
      refine zT (i := 17) (v := (.int .i64 (c + d))) rfl ?_ hHeld ?_
      ·intro u hSu
       go_simp
       first | done | exact Go.IntWalk.i64_in _ (by omega) | omega
      try simp only [Act.put, zA, zB, zC]
      refine zT (i := 19) (v := (.bool false)) rfl ?_ hHeld ?_
      ·intro u hSu
       go_simp
       first | done | (simp; omega) | omega
      try simp only [Act.put, zA, zB, zC]
      refine zT (i := 20) (v := ?_) rfl ?_ hHeld ?_
      rotate_left 1
      ·intro u hSu
       go_simp
       first | done | with_reducible rfl
      try simp only [Act.put, zA, zB, zC]
      refine wpAnyH_done (by kernel_rfl) ?_ _
      obtain ⟨wz, hwz⟩ : ∃ wz, wz = wc2 := ⟨_, rfl⟩
      have NZ := Lib.hid (NA.out.keep hHeld.out)
      rw [← hwz] at NZ ⊢
      clear hHeld hwz NA NN
      have HS2 : Hid ((N.take (k + 1)).filter (okS R L D v x) = B) := Lib.hid (by rw [HS.out, HP.out, decide_eq_true hdf, decide_eq_false hcd]; simp)
      clear HC
      go_wp2_with fail
      exact ⟨⟨k + 1, _, rfl, by omega, congrArg _ (by omega), by rw [HS2.out]; exact NZ⟩, by simp only [RowKit.intOf]; omega⟩
    ·have hdf2 : ¬ d < 1073741824 := hdf
     refine wp_region_held_drew (S := fun w' => Hid (wa.grownBy w' none)) (by kernel_rfl) (Lib.hid (grown_drew (grown_refl _ _))) (fun hHeld => ?_)
     refine zT (i := 0) (v := ?_) rfl ?_ hHeld ?_
     rotate_left 1
     ·intro u hSu
      obtain ⟨q0, q1⟩ := row_cells (kept_row HB2.out.1 (grown_trans NA.out.gr hSu.out) (by simp))
      have q2 := HC.out u (grown_trans NA.out.gr hSu.out)
      go_simp
      first | done | with_reducible rfl
     try simp only [Act.put, zA, zB, zC]
     refine zT (i := 1) (v := ?_) rfl ?_ hHeld ?_
     rotate_left 1
     ·intro u hSu
      go_simp
      first | done | with_reducible rfl
     try simp only [Act.put, zA, zB, zC]
     refine zT (i := 2) (v := ?_) rfl ?_ hHeld ?_
     rotate_left 1
     ·intro u hSu
      go_simp
      first | done | with_reducible rfl
     try simp only [Act.put, zA, zB, zC]
     refine zT (i := 3) (v := ?_) rfl ?_ hHeld ?_
     rotate_left 1
     ·intro u hSu
      go_simp
      first | done | with_reducible rfl
     try simp only [Act.put, zA, zB, zC]
     refine zT (i := 4) (v := ?_) rfl ?_ hHeld ?_
     rotate_left 1
     ·intro u hSu
      go_simp
      first | done | with_reducible rfl
     try simp only [Act.put, zA, zB, zC]
     refine zT (i := 5) (v := ?_) rfl ?_ hHeld ?_
     rotate_left 1
     ·intro u hSu
      obtain ⟨q0, q1⟩ := row_cells (kept_row HB2.out.1 (grown_trans NA.out.gr hSu.out) (by simp))
      have q2 := HC.out u (grown_trans NA.out.gr hSu.out)
      go_simp
      first | done | with_reducible rfl
     try simp only [Act.put, zA, zB, zC]
     refine wpAnyH_ready (rs := [6]) (by kernel_rfl) (by simp) ?_
     refine AllReadyH.cons (o := ⟨_, _, _, _, _, _⟩) rfl (fun Kz hK => ?_) AllReadyH.nil
     go_simp
     go_at_call 130
     refine (rat_any ⟨R, L, pR, cR, pL, cL⟩ D n A pd cd _ _ _ (HB2.out.2.2.keep (grown_trans NA.out.gr hHeld.out)) HA.out (HD2.out.keep (grown_trans NA.out.gr hHeld.out))).mono ?_
     rintro e wc1 ⟨rfl, hgc⟩
     simp only
     rw [HPR.out.2.2]
     refine hK.out _ _ (Lib.hid (grown_trans hHeld.out hgc)) (fun hH2 => ?_)
     clear hK Kz hHeld
     have hHeld := hH2
     clear hH2
     try simp only [Act.put, zA, zB, zC]
     refine zT (i := 7) (v := (.bool false)) rfl ?_ hHeld ?_
     ·intro u hSu
      go_simp
      first | done | (simp; omega) | omega
     try simp only [Act.put, zA, zB, zC]
     refine zT (i := 8) (v := ?_) rfl ?_ hHeld ?_
     rotate_left 1
     ·intro u hSu
      go_simp
      first | done | with_reducible rfl
     try simp only [Act.put, zA, zB, zC]
     refine zS (i := 9) rfl hHeld ?_
     try simp only [Act.put, zA, zB, zC]
     refine zS (i := 10) rfl hHeld ?_
     try simp only [Act.put, zA, zB, zC]
     refine zS (i := 11) rfl hHeld ?_
     try simp only [Act.put, zA, zB, zC]
     refine zS (i := 12) rfl hHeld ?_
     try simp only [Act.put, zA, zB, zC]
     refine zS (i := 13) rfl hHeld ?_
     try simp only [Act.put, zA, zB, zC]
     refine zS (i := 14) rfl hHeld ?_
     try simp only [Act.put, zA, zB, zC]
     refine zS (i := 15) rfl hHeld ?_
     try simp only [Act.put, zA, zB, zC]
     refine zS (i := 16) rfl hHeld ?_
     try simp only [Act.put, zA, zB, zC]
     refine zS (i := 17) rfl hHeld ?_
     try simp only [Act.put, zA, zB, zC]
     refine zS (i := 18) rfl hHeld ?_
     try simp only [Act.put, zA, zB, zC]
     refine zS (i := 19) rfl hHeld ?_
     try simp only [Act.put, zA, zB, zC]
     refine zT (i := 20) (v := ?_) rfl ?_ hHeld ?_
     rotate_left 1
     ·intro u hSu
      go_simp
      first | done | with_reducible rfl
     try simp only [Act.put, zA, zB, zC]
     refine wpAnyH_done (by kernel_rfl) ?_ _
     obtain ⟨wz, hwz⟩ : ∃ wz, wz = wc1 := ⟨_, rfl⟩
     have NZ := Lib.hid (NA.out.keep hHeld.out)
     rw [← hwz] at NZ ⊢
     clear hHeld hwz NA NN
     have HS2 : Hid ((N.take (k + 1)).filter (okS R L D v x) = B) := Lib.hid (by rw [HS.out, HP.out, decide_eq_false hdf]; simp)
     clear HC
     go_wp2_with fail
     exact ⟨⟨k + 1, _, rfl, by omega, congrArg _ (by omega), by rw [HS2.out]; exact NZ⟩, by simp only [RowKit.intOf]; omega⟩
   ·obtain rfl : k = N.length := by omega
    have hN := NN.out
    rw [List.take_length, ← HX2.out] at hN
    have H9 := Lib.hid (hN.base HB2.out.2.1).ret
    clear hN NN
    go_wp2_with fail
    go_ret
    obtain ⟨p, c, rfl, h3⟩ := H9.out
    exact ⟨p, c, rfl, h3⟩
end Go.Proofs.YtpogblengagpaaaGreatDoor

/- Parts of the proof, packed: MaAll, ToCpy, ToDel, ShMath, ShDij, ShNear, ShMap, ToWiW, ToSort, ToSrt2, ShNst, ShDel, ShStp, ToDfs, ToDfsK, ToDfsW, ToComp, ToComp2, ShCfM, ShCf, ShDst, ShCst, ShNxt, ToApM, ShCto, ShPass, ShUse, ShRt, ShLay, ShSrt, ShCnt, ShPts, ShSrn, ShPtw, ShExm, ToCompW, ToConn, ToBri, ToCuts, ToAwake, ShAwk, ToTopK. -/
import Derived.Test.YtpogblengagpaaaGreatDoorPa8
import Derived.Deep.AppendLies
import Derived.Test.YtpogblengagpaaaGreatDoorPa3
import Derived.ArgAppend
import Derived.Laws.IdiomCopy
import Derived.Laws.BitsLemmas
import Derived.Test.YtpogblengagpaaaGreatDoorPa7
import Derived.Test.YtpogblengagpaaaGreatDoorPa2
import Derived.Maps.OwnSet
import Derived.Maps.OwnOps
import Derived.Test.YtpogblengagpaaaGreatDoorPa4
import Derived.WalkMore
import Derived.Deep.LoopGhost
import Derived.Test.YtpogblengagpaaaGreatDoorPa6
import Derived.BigQuiet
import Derived.Test.YtpogblengagpaaaGreatDoorPa1
import Derived.Deep.Onto
import Derived.Laws.OwnMore
/- masks: All, Mask, Local. -/
namespace Go.Proofs.YtpogblengagpaaaGreatDoor
set_option maxRecDepth 100000
open Go.RowKit Go.Maps Bs
structure Md where
 x : Int
 b : Nat
def mdC (m : Md) : List Value := [.int .i64 m.x, .int .u64 (m.b : Int)]
theorem md_one (m : Md) : ∀ u ∈ mdC m, u.oneCell' = true := by
 intro u hu
 simp [mdC] at hu
 rcases hu with rfl | rfl <;> rfl
def mdL (f : Int → Option Nat) (ts : List Int) : List Md := ts.map fun x => ⟨x, (f x).getD 0⟩
def mdK (f : Int → Option Nat) (ts : List Int) (k : Nat) : List Md := mdL f (ts.take k)
theorem mdK_next {f : Int → Option Nat} {ts : List Int} {k : Nat} {x : Int} (h : ts[k]? = some x) : mdK f ts (k + 1) = mdK f ts k ++ [⟨x, (f x).getD 0⟩] := by
 unfold mdK mdL
 rw [List.take_add_one, h, List.map_append]; rfl
theorem mdK_end (f : Int → Option Nat) (ts : List Int) : mdK f ts ts.length = mdL f ts := by unfold mdK; rw [List.take_length]
theorem mdK_len (f : Int → Option Nat) (ts : List Int) (k : Nat) : (mdK f ts k).length ≤ ts.length := by unfold mdK mdL; rw [List.length_map, List.length_take]; omega
theorem mdL_len (f : Int → Option Nat) (ts : List Int) : (mdL f ts).length = ts.length := by unfold mdL; rw [List.length_map]
theorem asc_len99 : ∀ (ts : List Int) (lo : Int), ts.Pairwise (· < ·) → (∀ x ∈ ts, lo < x ∧ x ≤ 99) → lo ≤ 99 → (ts.length : Int) + lo ≤ 99
 | [], lo, _, _, h => by simpa using h
 | a :: t, lo, hp, hr, h => by
  obtain ⟨h1, h2⟩ := List.pairwise_cons.1 hp
  have ha := hr a (List.mem_cons_self ..)
  have := asc_len99 t a h2 (fun x hx => ⟨h1 x hx, (hr x (List.mem_cons_of_mem _ hx)).2⟩) ha.2
  simp only [List.length_cons]
  omega
theorem ascM_len {f : Int → Option Nat} {ts : List Int} (h : AscM f ts) (ho : ColOk f) : ts.length ≤ 99 := by
 have := asc_len99 ts 0 h.asc (fun x hx => by
  obtain ⟨d, hd⟩ := Option.isSome_iff_exists.1 ((h.mem x).1 hx)
  have := (ho.u x d hd).2
  omega) (by omega)
 omega
theorem info_md : (Tryz.prog.info? 94).map (fun i => (i.zero, i.size, i.bytes)) = some (some (.agg #[.int .i64 0, .int .u64 0]), 2, 16) := by kernel_rfl
theorem md_row (w : World) (x : Int) (b : Nat) (t : TypeId) : ∀ j u, [Value.int .i64 x, .int .u64 (b : Int)][j]? = some u → (w.alloc (.cells #[.int .i64 x, .int .u64 (b : Int)] t)).cell? ((⟨w.heap.size, 0, none⟩ : Addr).add j) = some u := by
 intro j u hu
 rw [add_plain]
 have hb := heap_alloc_new w (.cells #[.int .i64 x, .int .u64 (b : Int)] t)
 rcases j with _ | _ | j
 ·cases hu; exact cell_of_row _ _ _ _ _ _ hb
 ·cases hu; exact cell_of_row _ _ _ _ _ _ hb
 ·simp at hu
structure AL (W : World) (Mb N : Nat) (f : Int → Option Nat) (ts : List Int) (ps : Option Addr) (cs C : Nat) (v : Value) (M : List Md) (w : World) : Prop where
 mp : OMu w Mb N f
 rt : Rd w (fun b => b < C) (.slice ps ts.length cs) (ts.map tv)
 own : w.ownsRow C 94 2 v M.length (M.flatMap mdC)
 gr : W.grownBy w none
 lo : Mb < C ∧ C ≤ w.heap.size ∧ W.heap.size ≤ C
theorem AL.keep {W w w1 : World} {Mb N : Nat} {f : Int → Option Nat} {ts : List Int} {ps : Option Addr} {cs C : Nat} {v : Value} {M : List Md} (h : AL W Mb N f ts ps cs C v M w) (g : w.grownBy w1 none) : AL W Mb N f ts ps cs C v M w1 :=
 ⟨h.mp.kept g (by simp), h.rt.keep g, h.own.kept g (by cases v.ownBlock <;> simp), grown_trans h.gr g, h.lo.1, Nat.le_trans h.lo.2.1 g.size, h.lo.2.2⟩
theorem AL.put {W w w1 : World} {Mb N : Nat} {f : Int → Option Nat} {ts : List Int} {ps : Option Addr} {cs C : Nat} {v v' : Value} {M M2 : List Md} (h : AL W Mb N f ts ps cs C v M w) (hown : w1.ownsRow C 94 2 v' M2.length (M2.flatMap mdC)) (g : w.grownBy w1 v.ownBlock) : AL W Mb N f ts ps cs C v' M2 w1 := by
 have hlo := h.lo
 have hne : ∀ b, b < C → some b ≠ v.ownBlock := fun b hb e => by have := (h.own.lt b e.symm).1; omega
 exact ⟨h.mp.kept g (hne _ hlo.1), h.rt.grown g hne, hown, grown_any h.gr g (fun b hb => hne b (by omega)), h.lo.1, Nat.le_trans h.lo.2.1 g.size, h.lo.2.2⟩
def AllPost (r s n : Int) (L : List Rw) (pl set : Int) (w : World) (e : Ending) (w' : World) : Prop :=
 ∃ (ts : List Int) (p : Option Addr) (c : Nat), e = .returned (.slice p (mdL (coF r s n L pl set) ts).length c) ∧ AscM (coF r s n L pl set) ts ∧ w'.ownsRow w.heap.size 94 2 (.slice p (mdL (coF r s n L pl set) ts).length c) (mdL (coF r s n L pl set) ts).length ((mdL (coF r s n L pl set) ts).flatMap mdC) ∧ w.grownBy w' none
set_option maxHeartbeats 6400000 in
theorem mall_any (r s n : Int) (p : Option Addr) (c : Nat) (L : List Rw) (pl set : Int) (w : World) (hR : RdW w (· < w.heap.size) p c L) (hm : L.length ≤ 9223372036854775807) :
  Calls Tryz.prog 38 #[.agg #[.int .i64 r, .int .i64 s, .int .i64 n, .slice p L.length c], .int .i64 pl, .int .i64 set] w fun e w' => AllPost r s n L pl set w e w' := by
 obtain ⟨ie, hie, he0, he1, he2⟩ := info_parts info_md
 obtain ⟨k1, k2⟩ := tone_box w #[.int .i64 r, .int .i64 s, .int .i64 n, .slice p L.length c] 25
 have H0 := Lib.hid (And.intro k1 (And.intro k2 (And.intro ((hR.keep k2).mono (q' := (· < (w.alloc (.cells #[.int .i64 r, .int .i64 s, .int .i64 n, .slice p L.length c] 25)).heap.size)) (fun b (hb : b < w.heap.size) => by show b < _; simp; omega)) (show w.heap.size < (w.alloc (.cells #[.int .i64 r, .int .i64 s, .int .i64 n, .slice p L.length c] 25)).heap.size by simp))))
 clear k1 k2 hR
 go_enter Tryz.func38, Tryz.ntmps38
 go_upto_region 1 with fail
 generalize w.alloc _ = w1 at *
 obtain ⟨d0, d1, d2, d3⟩ := row4T H0.out.1
 go_wp2_with fail
 refine (mcollect_any r s n p c L pl set w1 H0.out.2.2.1 hm).mono ?_
 rintro e w2 ⟨rfl, ⟨N, hN, hmp⟩, hg⟩
 have H2 := Lib.hid (And.intro hmp (grown_trans H0.out.2.1 hg))
 have hzz : w.heap.size < w1.heap.size := H0.out.2.2.2
 clear hmp hg H0 d0 d1 d2 d3
 obtain ⟨f, hf⟩ : ∃ f, coF r s n L pl set = f := ⟨_, rfl⟩
 have HF := Lib.hid hf
 have HOK : Hid (ColOk f) := Lib.hid (by rw [← hf]; exact coF_ok r s n L pl set)
 rw [hf] at H2
 clear hf
 generalize w1.heap.size + 1 = Mb at *
 go_wp2_with fail
 refine (mkeys_any (some Mb) w2).mono ?_
 rintro e w4 ⟨rfl, hw4⟩
 have hb4 := heap_alloc_new w2 (.cells #[.map (some Mb)] 114)
 have hg4 := World.grownBy_alloc w2 (.cells #[.map (some Mb)] 114) none
 rw [← hw4] at hb4 hg4
 have hz4 : w2.heap.size < w4.heap.size := by rw [hw4]; simp
 have HW4 := Lib.hid (And.intro hb4 (And.intro hg4 hz4))
 clear hw4 hb4 hg4 hz4
 go_wp2_with fail
 refine (mkz_any f Mb N (by omega) w2.heap.size w4 (by rw [cell_of_row _ _ _ _ _ _ HW4.out.1]; rfl) HW4.out.2.2 (H2.out.1.kept HW4.out.2.1 (by simp))).mono ?_
 rintro e w5 ⟨vs, ts, rfl, hS, hrow, hg5⟩
 obtain ⟨ps, cs, rfl, hcs1, hcs2⟩ := own_shape hrow
 have hlen := ascM_len hS HOK.out
 have HTS := Lib.hid hS
 have g25 := grown_trans HW4.out.2.1 hg5
 have A0 : Hid (AL w Mb N f ts ps cs w5.heap.size (.slice none 0 0) (mdK f ts 0) w5) := Lib.hid ⟨H2.out.1.kept g25 (by simp), (rd_of_own hrow).old, World.ownsRow_nil _ _ _ _, grown_trans H2.out.2 g25, Nat.lt_of_lt_of_le H2.out.1.lt g25.size, Nat.le_refl _, Nat.le_trans H2.out.2.size g25.size⟩
 clear hS hrow hg5 HW4 H2 g25
 generalize w5.heap.size = C at *
 go_wp2_with fail
 go_loopw [8, 19] (fun vo a wr => ∃ (k : Nat) (po : Option Addr) (co : Nat), k ≤ ts.length ∧ a = .int .i64 (k : Int) ∧ vo = .slice po (mdK f ts k).length co ∧ Hid (AL w Mb N f ts ps cs C (.slice po (mdK f ts k).length co) (mdK f ts k) wr)) (fun _ a _ => ts.length - (RowKit.intOf a).toNat)
 case atStart => exact ⟨0, none, 0, Nat.zero_le _, rfl, rfl, A0⟩
 case round =>
 clear A0
 obtain ⟨k, po, co, hk, rfl, rfl, A1⟩ := hrel
 obtain ⟨w6, hw6⟩ : ∃ w6, w6 = wr := ⟨_, rfl⟩
 rw [← hw6] at A1 ⊢
 clear hw6
 by_cases hlt : k < ts.length
 case neg =>
  obtain rfl : k = ts.length := by omega
  have hnl : ¬ (ts.length : Int) < (ts.length : Int) := by omega
  rw [mdK_end] at A1 ⊢
  go_wp2_with fail
  go_ret
  exact ⟨ts, po, co, by rw [HF.out]; rfl, by rw [HF.out]; exact HTS.out, by rw [HF.out]; exact A1.out.own.mono A1.out.lo.2.2, A1.out.gr⟩
 case pos =>
 have hlt' : (k : Int) < (ts.length : Int) := by omega
 obtain ⟨x, hx⟩ : ∃ x, ts[k]? = some x := ⟨_, List.getElem?_eq_getElem hlt⟩
 obtain ⟨-, b, off, rfl, hq, hc⟩ := tvT_at A1.out.rt hx
 have d0 := hc k x hx
 obtain ⟨d, hd⟩ := Option.isSome_iff_exists.1 ((HTS.out.mem x).1 (List.mem_of_getElem? hx))
 have hdb := HOK.out.u x d hd
 have hx1 := hdb.2
 have q1 := (A1.out.mp.look (x := x) (by unfold I64; omega)).1
 rw [hd] at q1
 simp only [Option.getD_some] at q1
 have HS : Hid (mdK f ts (k + 1) = mdK f ts k ++ [⟨x, d⟩]) := Lib.hid (by have := mdK_next (f := f) hx; rw [hd] at this; exact this)
 have hMl := mdK_len f ts k
 obtain ⟨M, hM⟩ : ∃ M, mdK f ts k = M := ⟨_, rfl⟩
 obtain ⟨M2, hM2⟩ : ∃ M2, mdK f ts (k + 1) = M2 := ⟨_, rfl⟩
 rw [hM] at A1 HS hMl ⊢
 rw [hM2] at HS
 have HM2 := Lib.hid hM2
 have HO2 := Lib.hid A1.out.own
 have hsz : C ≤ w6.heap.size := A1.out.lo.2.1
 clear hc hx hd hM hM2 hdb hx1
 go_wp2_with (at_builtin; refine hold_on ?_)
 refine Lib.hid ?_
 refine wpList_append_lies _ rfl _ _ 90 rfl C 94 ie (.agg #[.int .i64 0, .int .u64 0]) 2 16 Tryz.underlying90 hie he0 he1 he2 rfl (by decide) (.slice po M.length co) M.length (M.flatMap mdC) rfl (HO2.out.alloc _) ⟨w6.heap.size, 0, none⟩ 1 1 [.int .i64 x, .int .u64 (d : Int)] rfl rfl (md_row w6 x d _) (md_one ⟨x, d⟩) (by decide) (by unfold maxLen; omega) (by omega) (by simp; omega) _ rfl ?_
 intro g cap w8 hown hgrow hat hlt8
 have A2 := Lib.hid ((A1.out.keep (World.grownBy_alloc _ _ none)).put (M2 := M ++ [(⟨x, d⟩ : Md)]) (by rw [List.length_append, List.flatMap_append]; simpa [mdC] using hown) hgrow)
 rw [← HS.out] at A2
 have HL : Hid (M.length + 1 = M2.length) := Lib.hid (by rw [HS.out, List.length_append]; rfl)
 rw [HL.out] at A2 ⊢
 clear hown hgrow hat hlt8 HO2 A1 hsz HL HS q1 d0 hMl
 go_wp2_with fail
 exact ⟨⟨k + 1, some ⟨g, 0, none⟩, cap, by omega, congrArg _ (by omega), by rw [HM2.out], by rw [HM2.out]; exact A2⟩, by simp only [RowKit.intOf]; omega⟩
end Go.Proofs.YtpogblengagpaaaGreatDoor

/- empty -/
namespace Go.Proofs.YtpogblengagpaaaGreatDoor
set_option maxRecDepth 100000
end Go.Proofs.YtpogblengagpaaaGreatDoor

/- empty -/
namespace Go.Proofs.YtpogblengagpaaaGreatDoor
set_option maxRecDepth 100000
end Go.Proofs.YtpogblengagpaaaGreatDoor

/- Least costs: walks, what a closed table of costs says, what rounds of relaxing give. -/
namespace Go.Proofs.YtpogblengagpaaaGreatDoor
set_option maxRecDepth 100000
def edg (L : List Lk) (u v c : Int) : Prop := ∃ l ∈ L, (l.a = u ∧ l.b = v ∧ l.ca = c) ∨ (l.b = u ∧ l.a = v ∧ l.cb = c)
def Wk (L : List Lk) (s v n : Int) : Prop := ∀ P : Int → Int → Prop, P s 0 → (∀ u m v c, P u m → edg L u v c → P v (m + c)) → P v n
theorem Wk.nil (L : List Lk) (s : Int) : Wk L s s 0 := fun _ h _ => h
theorem Wk.step {L : List Lk} {s u m v c : Int} (h : Wk L s u m) (e : edg L u v c) : Wk L s v (m + c) := fun P h0 hs => hs u m v c (h P h0 hs) e
theorem Wk.ind {L : List Lk} {s : Int} {Q : Int → Int → Prop} (h0 : Q s 0) (hs : ∀ u m v c, Wk L s u m → Q u m → edg L u v c → Q v (m + c)) {v n : Int} (h : Wk L s v n) : Q v n :=
 (h (fun v n => Wk L s v n ∧ Q v n) ⟨Wk.nil L s, h0⟩ (fun u m v c hu e => ⟨hu.1.step e, hs u m v c hu.1 hu.2 e⟩)).2
theorem Wk.last {L : List Lk} {s v n : Int} (h : Wk L s v n) : (v = s ∧ n = 0) ∨ ∃ u m c, Wk L s u m ∧ edg L u v c ∧ n = m + c :=
 Wk.ind (Q := fun v n => (v = s ∧ n = 0) ∨ ∃ u m c, Wk L s u m ∧ edg L u v c ∧ n = m + c) (.inl ⟨rfl, rfl⟩) (fun u m _ c hu _ e => .inr ⟨u, m, c, hu, e, rfl⟩) h
def Pos (L : List Lk) : Prop := ∀ l ∈ L, 1 ≤ l.ca ∧ 1 ≤ l.cb
theorem Pos.edg {L : List Lk} (hp : Pos L) {u v c : Int} (e : edg L u v c) : 1 ≤ c := by
 obtain ⟨l, hl, h | h⟩ := e
 ·have := (hp l hl).1; omega
 ·have := (hp l hl).2; omega
theorem Wk.ge {L : List Lk} (hp : Pos L) {s v n : Int} (h : Wk L s v n) : 0 ≤ n :=
 Wk.ind (Q := fun _ n => 0 ≤ n) (Int.le_refl _) (fun u m v c _ h e => by have := hp.edg e; omega) h
def IsD (L : List Lk) (s v d : Int) : Prop := Wk L s v d ∧ ∀ n, Wk L s v n → d ≤ n
theorem IsD.uniq {L : List Lk} {s v d e : Int} (h : IsD L s v d) (k : IsD L s v e) : d = e := by
 have := h.2 e k.1
 have := k.2 d h.1
 omega
theorem IsD.pred {L : List Lk} {s v d : Int} (h : IsD L s v d) : (v = s ∧ d = 0) ∨ ∃ u e c, IsD L s u e ∧ edg L u v c ∧ d = e + c := by
 rcases h.1.last with h1 | ⟨u, m, c, hu, e, rfl⟩
 ·exact .inl h1
 ·refine .inr ⟨u, m, c, ⟨hu, fun n hn => ?_⟩, e, rfl⟩
  have := h.2 _ (hn.step e)
  omega
def farN : Int := 1073741824
def updF (d : Int → Int) (v x : Int) : Int → Int := fun u => if u = v then x else d u
def rlx1 (d : Int → Int) (u v c : Int) : Int → Int := if d u < farN then updF d v (min (d v) (c + d u)) else d
def rlx (d : Int → Int) (l : Lk) : Int → Int := rlx1 (rlx1 d l.b l.a l.cb) l.a l.b l.ca
def pass (L : List Lk) (d : Int → Int) : Int → Int := L.foldl rlx d
def passes (L : List Lk) : Nat → (Int → Int) → Int → Int
 | 0, d => d
 | k + 1, d => pass L (passes L k d)
def startF (s : Int) : Int → Int := fun u => if u = s then 0 else farN
def Snd (L : List Lk) (s : Int) (d : Int → Int) : Prop := ∀ v, d v = farN ∨ (d v < farN ∧ Wk L s v (d v))
theorem snd_rlx1 {L : List Lk} {s u v c : Int} {d : Int → Int} (h : Snd L s d) (e : edg L u v c) : Snd L s (rlx1 d u v c) := by
 unfold rlx1
 by_cases hu : d u < farN
 ·rw [if_pos hu]
  intro x
  unfold updF
  by_cases hx : x = v
  ·subst hx
   rw [if_pos rfl]
   have hwu : Wk L s u (d u) := by
    rcases h u with h1 | h1
    ·omega
    ·exact h1.2
   have hst := hwu.step e
   rcases h x with h1 | h1
   ·rcases Int.lt_or_le (c + d u) farN with h2 | h2
    ·refine .inr ⟨by omega, ?_⟩
     rw [show min (d x) (c + d u) = d u + c by omega]
     exact hst
    ·exact .inl (by omega)
   ·refine .inr ⟨by omega, ?_⟩
    rcases Int.lt_or_le (c + d u) (d x) with h2 | h2
    ·rw [show min (d x) (c + d u) = d u + c by omega]
     exact hst
    ·rw [show min (d x) (c + d u) = d x by omega]
     exact h1.2
  ·rw [if_neg hx]
   exact h x
 ·rw [if_neg hu]
  exact h
theorem le_rlx1 (d : Int → Int) (u v c x : Int) : rlx1 d u v c x ≤ d x := by
 unfold rlx1
 by_cases hu : d u < farN
 ·rw [if_pos hu]
  unfold updF
  by_cases hx : x = v
  ·subst hx
   rw [if_pos rfl]
   omega
  ·rw [if_neg hx]
   omega
 ·rw [if_neg hu]
  omega
theorem le_rlx (d : Int → Int) (l : Lk) (x : Int) : rlx d l x ≤ d x := Int.le_trans (le_rlx1 _ _ _ _ _) (le_rlx1 _ _ _ _ _)
theorem snd_rlx {L : List Lk} {s : Int} {d : Int → Int} (h : Snd L s d) {l : Lk} (hl : l ∈ L) : Snd L s (rlx d l) :=
 snd_rlx1 (snd_rlx1 h ⟨l, hl, .inr ⟨rfl, rfl, rfl⟩⟩) ⟨l, hl, .inl ⟨rfl, rfl, rfl⟩⟩
theorem fold_rlx {L : List Lk} {s : Int} : ∀ (M : List Lk) (d : Int → Int), (∀ l ∈ M, l ∈ L) → Snd L s d → Snd L s (M.foldl rlx d) ∧ ∀ x, M.foldl rlx d x ≤ d x
 | [], d, _, h => ⟨h, fun _ => Int.le_refl _⟩
 | l :: t, d, hm, h => by
  obtain ⟨i1, i2⟩ := fold_rlx t (rlx d l) (fun m hm2 => hm m (by simp [hm2])) (snd_rlx h (hm l (by simp)))
  exact ⟨i1, fun x => Int.le_trans (i2 x) (le_rlx d l x)⟩
theorem snd_pass {L : List Lk} {s : Int} {d : Int → Int} (h : Snd L s d) : Snd L s (pass L d) ∧ ∀ x, pass L d x ≤ d x := fold_rlx L d (fun _ h => h) h
theorem snd_start (L : List Lk) (s : Int) : Snd L s (startF s) := by
 intro v
 unfold startF
 by_cases h : v = s
 ·subst h
  rw [if_pos rfl]
  exact .inr ⟨by decide, Wk.nil L v⟩
 ·rw [if_neg h]
  exact .inl rfl
theorem snd_passes (L : List Lk) (s : Int) : ∀ k, Snd L s (passes L k (startF s))
 | 0 => snd_start L s
 | k + 1 => (snd_pass (snd_passes L s k)).1
theorem Snd.low {L : List Lk} {s v e : Int} {d : Int → Int} (h : Snd L s d) (hD : IsD L s v e) (he : e < farN) : e ≤ d v := by
 rcases h v with h1 | h1
 ·omega
 ·exact hD.2 _ h1.2
theorem Snd.none {L : List Lk} {s v : Int} {d : Int → Int} (h : Snd L s d) (hn : ∀ n, ¬ Wk L s v n) : d v = farN := by
 rcases h v with h1 | h1
 ·exact h1
 ·exact absurd h1.2 (hn _)
open Classical in
noncomputable def rnk (L : List Lk) (s : Int) (V : List Int) (e : Int) : Nat := (V.filter (fun u => decide (∃ x, IsD L s u x ∧ x < e))).length
open Classical in
theorem rnk_lt {L : List Lk} {s : Int} {V : List Int} {u e d : Int} (hu : u ∈ V) (hD : IsD L s u e) (h : e < d) : rnk L s V e < rnk L s V d := by
 unfold rnk
 have hsub : ∀ (W : List Int), u ∈ W → (W.filter (fun u => decide (∃ x, IsD L s u x ∧ x < e))).length < (W.filter (fun u => decide (∃ x, IsD L s u x ∧ x < d))).length := by
  have hle : ∀ (W : List Int), (W.filter (fun u => decide (∃ x, IsD L s u x ∧ x < e))).length ≤ (W.filter (fun u => decide (∃ x, IsD L s u x ∧ x < d))).length := by
   intro W
   induction W with
   | nil => exact Nat.le_refl _
   | cons a t ih =>
    rw [List.filter_cons, List.filter_cons]
    by_cases h1 : ∃ x, IsD L s a x ∧ x < e
    ·obtain ⟨x, hx, hxe⟩ := h1
     rw [if_pos (decide_eq_true ⟨x, hx, hxe⟩), if_pos (decide_eq_true ⟨x, hx, by omega⟩), List.length_cons, List.length_cons]
     omega
    ·rw [if_neg (by simpa using h1)]
     by_cases h2 : ∃ x, IsD L s a x ∧ x < d
     ·rw [if_pos (decide_eq_true h2), List.length_cons]; omega
     ·rw [if_neg (by simpa using h2)]; exact ih
  intro W
  induction W with
  | nil => intro h; cases h
  | cons a t ih =>
   intro hm
   rw [List.filter_cons, List.filter_cons]
   by_cases ha : a = u
   ·subst ha
    have h1 : ¬ ∃ x, IsD L s a x ∧ x < e := fun ⟨x, hx, hxe⟩ => by have := hx.uniq hD; omega
    rw [if_neg (by simpa using h1), if_pos (decide_eq_true ⟨e, hD, h⟩), List.length_cons]
    have := hle t
    omega
   ·have hm2 : u ∈ t := by
     rcases List.mem_cons.1 hm with h1 | h1
     ·exact absurd h1.symm ha
     ·exact h1
    have i1 := ih hm2
    by_cases h1 : ∃ x, IsD L s a x ∧ x < e
    ·obtain ⟨x, hx, hxe⟩ := h1
     rw [if_pos (decide_eq_true ⟨x, hx, hxe⟩), if_pos (decide_eq_true ⟨x, hx, by omega⟩), List.length_cons, List.length_cons]
     omega
    ·rw [if_neg (by simpa using h1)]
     by_cases h2 : ∃ x, IsD L s a x ∧ x < d
     ·rw [if_pos (decide_eq_true h2), List.length_cons]; omega
     ·rw [if_neg (by simpa using h2)]; exact i1
 exact hsub V hu
def Ends (L : List Lk) (V : List Int) : Prop := ∀ l ∈ L, l.a ∈ V ∧ l.b ∈ V
theorem Ends.edg {L : List Lk} {V : List Int} (h : Ends L V) {u v c : Int} (e : edg L u v c) : u ∈ V ∧ v ∈ V := by
 obtain ⟨l, hl, ⟨rfl, rfl, -⟩ | ⟨rfl, rfl, -⟩⟩ := e
 ·exact h l hl
 ·exact ⟨(h l hl).2, (h l hl).1⟩
theorem D_le {L : List Lk} (hp : Pos L) {V : List Int} (hV : Ends L V) {C : Int} (hC : ∀ l ∈ L, l.ca ≤ C ∧ l.cb ≤ C) (h0 : 0 ≤ C) {s : Int} : ∀ (k : Nat) (v e : Int), IsD L s v e → rnk L s V e ≤ k → e ≤ C * k := by
 intro k
 induction k with
 | zero =>
  intro v e hD hr
  rcases hD.pred with ⟨-, rfl⟩ | ⟨u, x, c, hu, he, rfl⟩
  ·simp
  ·have := rnk_lt (hV.edg he).1 hu (show x < x + c by have := hp.edg he; omega)
   omega
 | succ k ih =>
  intro v e hD hr
  rcases hD.pred with ⟨-, rfl⟩ | ⟨u, x, c, hu, he, rfl⟩
  ·exact Int.mul_nonneg h0 (by omega)
  ·have h1 := rnk_lt (hV.edg he).1 hu (show x < x + c by have := hp.edg he; omega)
   have h2 := ih u x hu (by omega)
   have h3 : c ≤ C := by
    obtain ⟨l, hl, ⟨-, -, rfl⟩ | ⟨-, -, rfl⟩⟩ := he
    ·exact (hC l hl).1
    ·exact (hC l hl).2
   rw [show C * ((k + 1 : Nat) : Int) = C * (k : Int) + C by rw [Int.natCast_succ, Int.mul_add, Int.mul_one]]
   omega
end Go.Proofs.YtpogblengagpaaaGreatDoor

/- The program's way to the least costs: the nearest open router first. -/
namespace Go.Proofs.YtpogblengagpaaaGreatDoor
set_option maxRecDepth 100000
def nbD (L : List Lk) (r : Int) : List (Int × Int) := L.flatMap fun l => (if l.b = r then [(l.a, l.cb)] else []) ++ (if l.a = r then [(l.b, l.ca)] else [])
theorem nbD_mem {L : List Lk} {r v c : Int} : (v, c) ∈ nbD L r ↔ edg L r v c := by
 unfold nbD edg
 rw [List.mem_flatMap]
 constructor
 ·rintro ⟨l, hl, h⟩
  refine ⟨l, hl, ?_⟩
  rcases List.mem_append.1 h with h1 | h1
  ·by_cases e : l.b = r
   ·rw [if_pos e] at h1
    have := List.mem_singleton.1 h1
    injection this with e1 e2
    exact .inr ⟨e, e1.symm, e2.symm⟩
   ·rw [if_neg e] at h1; cases h1
  ·by_cases e : l.a = r
   ·rw [if_pos e] at h1
    have := List.mem_singleton.1 h1
    injection this with e1 e2
    exact .inl ⟨e, e1.symm, e2.symm⟩
   ·rw [if_neg e] at h1; cases h1
 ·rintro ⟨l, hl, ⟨e1, e2, e3⟩ | ⟨e1, e2, e3⟩⟩
  ·refine ⟨l, hl, List.mem_append.2 (.inr ?_)⟩
   rw [if_pos e1, e2, e3]
   exact List.mem_singleton.2 rfl
  ·refine ⟨l, hl, List.mem_append.2 (.inl ?_)⟩
   rw [if_pos e1, e2, e3]
   exact List.mem_singleton.2 rfl
end Go.Proofs.YtpogblengagpaaaGreatDoor

/- empty -/
namespace Go.Proofs.YtpogblengagpaaaGreatDoor
set_option maxRecDepth 100000
end Go.Proofs.YtpogblengagpaaaGreatDoor

/- empty -/
namespace Go.Proofs.YtpogblengagpaaaGreatDoor
set_option maxRecDepth 100000
end Go.Proofs.YtpogblengagpaaaGreatDoor

/- empty -/
namespace Go.Proofs.YtpogblengagpaaaGreatDoor
set_option maxRecDepth 100000
end Go.Proofs.YtpogblengagpaaaGreatDoor

/- empty -/
namespace Go.Proofs.YtpogblengagpaaaGreatDoor
set_option maxRecDepth 100000
end Go.Proofs.YtpogblengagpaaaGreatDoor

/- empty -/
namespace Go.Proofs.YtpogblengagpaaaGreatDoor
set_option maxRecDepth 100000
end Go.Proofs.YtpogblengagpaaaGreatDoor

/- empty -/
namespace Go.Proofs.YtpogblengagpaaaGreatDoor
set_option maxRecDepth 100000
end Go.Proofs.YtpogblengagpaaaGreatDoor

/- empty -/
namespace Go.Proofs.YtpogblengagpaaaGreatDoor
set_option maxRecDepth 100000
end Go.Proofs.YtpogblengagpaaaGreatDoor

/- The neighbours with which least walks go on; flipped links. -/
namespace Go.Proofs.YtpogblengagpaaaGreatDoor
set_option maxRecDepth 100000
def flipL (L : List Lk) : List Lk := L.map fun l => ⟨l.a, l.b, l.cb, l.ca, l.cp⟩
theorem edg_flip {L : List Lk} {u v c : Int} : edg (flipL L) u v c ↔ edg L v u c := by
 unfold edg flipL
 constructor
 ·rintro ⟨m, hm, h⟩
  obtain ⟨l, hl, rfl⟩ := List.mem_map.1 hm
  rcases h with ⟨e1, e2, e3⟩ | ⟨e1, e2, e3⟩
  ·exact ⟨l, hl, .inr ⟨e2, e1, e3⟩⟩
  ·exact ⟨l, hl, .inl ⟨e2, e1, e3⟩⟩
 ·rintro ⟨l, hl, h⟩
  refine ⟨_, List.mem_map.2 ⟨l, hl, rfl⟩, ?_⟩
  rcases h with ⟨e1, e2, e3⟩ | ⟨e1, e2, e3⟩
  ·exact .inr ⟨e2, e1, e3⟩
  ·exact .inl ⟨e2, e1, e3⟩
theorem Pos.flip {L : List Lk} (h : Pos L) : Pos (flipL L) := fun m hm => by
 obtain ⟨l, hl, rfl⟩ := List.mem_map.1 hm
 exact ⟨(h l hl).2, (h l hl).1⟩
theorem Ends.flip {L : List Lk} {V : List Int} (h : Ends L V) : Ends (flipL L) V := fun m hm => by
 obtain ⟨l, hl, rfl⟩ := List.mem_map.1 hm
 exact h l hl
def nextV (L : List Lk) (f : Int → Option Int) (r : Int) : List Int :=
 ((nbD L r).filter fun n => match f n.1 with
  | some x => decide (n.2 + x = (f r).getD 0)
  | none => false).map (·.1)
theorem nbD_fst (L : List Lk) (r : Int) : (nbD L r).map (·.1) = nbL L r := by
 unfold nbD nbL
 rw [List.map_flatMap]
 refine congrArg (fun g => List.flatMap g L) (funext fun l => ?_)
 unfold nb1
 rw [List.map_append]
 by_cases h1 : l.b = r <;> by_cases h2 : l.a = r <;> simp [h1, h2]
theorem next_lt {L : List Lk} (hp : Pos L) {f : Int → Option Int} {r d u : Int} (hr : f r = some d) (hu : u ∈ nextV L f r) : ∃ x c, f u = some x ∧ edg L r u c ∧ c + x = d ∧ x < d := by
 unfold nextV at hu
 obtain ⟨⟨v, c⟩, hm, rfl⟩ := List.mem_map.1 hu
 obtain ⟨h1, h2⟩ := List.mem_filter.1 hm
 simp only at h2 ⊢
 cases hv : f v with
 | none => rw [hv] at h2; cases h2
 | some x =>
  rw [hv, hr] at h2
  have h3 := of_decide_eq_true h2
  have he := nbD_mem.1 h1
  have hc := hp.edg he
  simp only [Option.getD_some] at h3
  exact ⟨x, c, rfl, he, h3, by omega⟩
theorem next_none {L : List Lk} (hp : Pos L) {f : Int → Option Int} (hf0 : ∀ v x, f v = some x → 0 ≤ x) {r : Int} (hr : f r = none) : nextV L f r = [] := by
 unfold nextV
 rw [List.filter_eq_nil_iff.2]
 ·rfl
 ·rintro ⟨v, c⟩ hm h
  simp only at h
  cases hv : f v with
  | none => rw [hv] at h; cases h
  | some x =>
   rw [hv, hr] at h
   have h3 := of_decide_eq_true h
   have hc := hp.edg (nbD_mem.1 hm)
   have := hf0 v x hv
   simp only [Option.getD_none] at h3
   omega
end Go.Proofs.YtpogblengagpaaaGreatDoor

/- empty -/
namespace Go.Proofs.YtpogblengagpaaaGreatDoor
set_option maxRecDepth 100000
end Go.Proofs.YtpogblengagpaaaGreatDoor

/- empty -/
namespace Go.Proofs.YtpogblengagpaaaGreatDoor
set_option maxRecDepth 100000
end Go.Proofs.YtpogblengagpaaaGreatDoor

/- empty -/
namespace Go.Proofs.YtpogblengagpaaaGreatDoor
set_option maxRecDepth 100000
end Go.Proofs.YtpogblengagpaaaGreatDoor

/- topology: Components: the mathematics; what memory holds while it runs. -/
namespace Go.Proofs.YtpogblengagpaaaGreatDoor
set_option maxRecDepth 100000
open Go.RowKit Bs
theorem Rd.lt {w : World} {q : Nat → Prop} {v : Value} {vs : List Value} (h : Rd w q v vs) : Rd w (fun b => q b ∧ b < w.heap.size) v vs := by
 obtain ⟨p, c, hv, hc⟩ := h
 refine ⟨p, c, hv, fun hne => ?_⟩
 obtain ⟨b, off, hp, hb, hx⟩ := hc hne
 refine ⟨b, off, hp, ⟨hb, ?_⟩, hx⟩
 cases vs with
 | nil => exact absurd rfl hne
 | cons x vs =>
  have hcell := hx 0 x rfl
  rcases Nat.lt_or_ge b w.heap.size with h1 | h1
  ·exact h1
  ·unfold World.cell? at hcell
   rw [Array.getElem?_eq_none h1] at hcell
   cases hcell
end Go.Proofs.YtpogblengagpaaaGreatDoor

/- topology: Components: a component is appended; the beginning; a valid topology. -/
namespace Go.Proofs.YtpogblengagpaaaGreatDoor
set_option maxRecDepth 100000
open Go.RowKit Bs
theorem unk_not {R : List Rt} {L : List Lk} (h : L.any (unk R) = false) : ∀ l ∈ L, hasR R l.a = true ∧ hasR R l.b = true := by
 intro l hl
 have := List.any_eq_false.1 h l hl
 unfold unk at this
 simpa using this
end Go.Proofs.YtpogblengagpaaaGreatDoor

/- shortest.costsFrom: what its loops keep. -/
namespace Go.Proofs.YtpogblengagpaaaGreatDoor
set_option maxRecDepth 100000
open Go.RowKit Go.Maps Bs
def ids (R : List Rt) : List Int := R.map (·.id)
theorem ids_has {R : List Rt} {x : Int} : x ∈ ids R ↔ hasR R x = true := by
 unfold ids hasR
 rw [List.any_eq_true, List.mem_map]
 constructor
 ·rintro ⟨r, hr, e⟩; exact ⟨r, hr, decide_eq_true e⟩
 ·rintro ⟨r, hr, e⟩; exact ⟨r, hr, of_decide_eq_true e⟩
structure GOk (R : List Rt) (L : List Lk) : Prop where
 pos : Pos L
 ends : Ends L (ids R)
 le : ∀ l ∈ L, l.ca ≤ 1000 ∧ l.cb ≤ 1000
 len : (ids R).length ≤ 24 ∧ L.length ≤ 60
 rng : ∀ x ∈ ids R, 1 ≤ x ∧ x ≤ 99
theorem okT_g {R : List Rt} {L : List Lk} (h : okT R L = true) : GOk R L := by
 have ho := okT_all h
 have hn : ∀ l ∈ L, (1 ≤ l.ca ∧ l.ca ≤ 1000) ∧ (1 ≤ l.cb ∧ l.cb ≤ 1000) := fun l hl => by
  have := List.any_eq_false.1 ho.nm l hl
  unfold wrNum at this
  simp only [Bool.not_eq_true, Bool.not_eq_false', decide_eq_true_eq] at this
  exact ⟨this.1, this.2.1⟩
 have hu := unk_not ho.un
 refine ⟨fun l hl => ⟨(hn l hl).1.1, (hn l hl).2.1⟩, fun l hl => ⟨ids_has.2 (hu l hl).1, ids_has.2 (hu l hl).2⟩, fun l hl => ⟨(hn l hl).1.2, (hn l hl).2.2⟩, ⟨by unfold ids; rw [List.length_map]; exact ho.l1, ho.l2⟩, fun x hx => hasR_range ho.id (ids_has.1 hx)⟩
theorem GOk.edg {R : List Rt} {L : List Lk} (h : GOk R L) {u v c : Int} (e : edg L u v c) : (1 ≤ c ∧ c ≤ 1000) ∧ (1 ≤ u ∧ u ≤ 99) ∧ 1 ≤ v ∧ v ≤ 99 := by
 refine ⟨⟨h.pos.edg e, ?_⟩, h.rng u (h.ends.edg e).1, h.rng v (h.ends.edg e).2⟩
 obtain ⟨l, hl, ⟨-, -, rfl⟩ | ⟨-, -, rfl⟩⟩ := e
 ·exact (h.le l hl).1
 ·exact (h.le l hl).2
end Go.Proofs.YtpogblengagpaaaGreatDoor

/- empty -/
namespace Go.Proofs.YtpogblengagpaaaGreatDoor
set_option maxRecDepth 100000
end Go.Proofs.YtpogblengagpaaaGreatDoor

/- The least costs as a function; both directions. -/
namespace Go.Proofs.YtpogblengagpaaaGreatDoor
set_option maxRecDepth 100000
open Go.RowKit Go.Maps Bs
theorem Wk.front {L : List Lk} {v u s c m : Int} (e : edg L v u c) (h : Wk L u s m) : Wk L v s (c + m) :=
 Wk.ind (Q := fun x n => Wk L v x (c + n)) (by have := (Wk.nil L v).step e; rw [Int.zero_add] at this; rw [Int.add_zero]; exact this) (fun a n b d _ hq he => by rw [← Int.add_assoc]; exact hq.step he) h
theorem Wk.flip {L : List Lk} {s v n : Int} (h : Wk L s v n) : Wk (flipL L) v s n :=
 Wk.ind (Q := fun x n => Wk (flipL L) x s n) (Wk.nil _ _) (fun a n b d _ hq he => by rw [Int.add_comm]; exact Wk.front (edg_flip.2 he) hq) h
theorem flipL_flipL (L : List Lk) : flipL (flipL L) = L := by
 unfold flipL
 rw [List.map_map]
 conv => rhs; rw [← List.map_id L]
 rfl
theorem IsD.flip {L : List Lk} {s v d : Int} : IsD (flipL L) s v d ↔ IsD L v s d := by
 constructor
 ·rintro ⟨h1, h2⟩
  have h3 := h1.flip
  rw [flipL_flipL] at h3
  exact ⟨h3, fun n hn => h2 n hn.flip⟩
 ·rintro ⟨h1, h2⟩
  refine ⟨h1.flip, fun n hn => h2 n ?_⟩
  have h3 := hn.flip
  rwa [flipL_flipL] at h3
theorem Wk.ids {L : List Lk} {V : List Int} (hV : Ends L V) {s v n : Int} (h : Wk L s v n) : v = s ∨ (s ∈ V ∧ v ∈ V) := by
 rcases h.last with ⟨e, -⟩ | ⟨u, m, c, hu, e, -⟩
 ·exact .inl e
 ·refine .inr ⟨?_, (hV.edg e).2⟩
  have key : u = s ∨ s ∈ V := Wk.ind (Q := fun x _ => x = s ∨ s ∈ V) (.inl rfl) (fun a n b d _ hq he => by
   rcases hq with rfl | hq
   ·exact .inr (hV.edg he).1
   ·exact .inr hq) hu
  rcases key with rfl | h1
  ·exact (hV.edg e).1
  ·exact h1
theorem hasV_iff {R : List Rt} {L : List Lk} {x : Int} : hasV R L x = true ↔ okT R L = true ∧ x ∈ ids R := by
 unfold hasV
 rw [Bool.and_eq_true, ids_has]
open Classical in
noncomputable def dst (R : List Rt) (L : List Lk) (a b : Int) : Option Int := if h : hasV R L a = true ∧ ∃ d, IsD L a b d then some h.2.choose else none
theorem dst_some {R : List Rt} {L : List Lk} {a b d : Int} : dst R L a b = some d ↔ hasV R L a = true ∧ IsD L a b d := by
 unfold dst
 constructor
 ·intro h
  split at h
  ·rename_i hc
   rw [← Option.some.inj h]
   exact ⟨hc.1, hc.2.choose_spec⟩
  ·cases h
 ·rintro ⟨h1, h2⟩
  rw [dif_pos ⟨h1, d, h2⟩]
  have := (⟨h1, d, h2⟩ : hasV R L a = true ∧ ∃ d, IsD L a b d)
  exact congrArg some (this.2.choose_spec.uniq h2)
theorem dst_both {R : List Rt} {L : List Lk} {a b d : Int} (h : dst R L a b = some d) : okT R L = true ∧ a ∈ ids R ∧ b ∈ ids R := by
 obtain ⟨h1, h2⟩ := dst_some.1 h
 obtain ⟨ho, ha⟩ := hasV_iff.1 h1
 refine ⟨ho, ha, ?_⟩
 rcases h2.1.ids (okT_g ho).ends with rfl | h3
 ·exact ha
 ·exact h3.2
theorem dst_bd {R : List Rt} {L : List Lk} {a b d : Int} (h : dst R L a b = some d) : (0 ≤ d ∧ d ≤ 24000) ∧ (1 ≤ a ∧ a ≤ 99) ∧ (1 ≤ b ∧ b ≤ 99) := by
 obtain ⟨h1, h2⟩ := dst_some.1 h
 obtain ⟨h3, h4, h5⟩ := dst_both h
 have hg := okT_g h3
 refine ⟨⟨h2.1.ge hg.pos, ?_⟩, hg.rng a h4, hg.rng b h5⟩
 have h6 := D_le hg.pos hg.ends hg.le (by decide) (ids R).length b d h2 (by unfold rnk; exact List.length_filter_le _ _)
 have := hg.len.1
 omega
end Go.Proofs.YtpogblengagpaaaGreatDoor

/- empty -/
namespace Go.Proofs.YtpogblengagpaaaGreatDoor
set_option maxRecDepth 100000
end Go.Proofs.YtpogblengagpaaaGreatDoor

/- shortest.nextTo. -/
namespace Go.Proofs.YtpogblengagpaaaGreatDoor
set_option maxRecDepth 100000
open Go.RowKit Go.Maps Bs
def nxP (f : Int → Option Int) (r : Int) (n : Int × Int) : Bool := match f n.1 with
  | some x => decide (n.2 + x = (f r).getD 0)
  | none => false
def nxM (f : Int → Option Int) (r : Int) (M : List (Int × Int)) : List Int := (M.filter (nxP f r)).map (·.1)
theorem nxM_next (L : List Lk) (f : Int → Option Int) (r : Int) : nextV L f r = nxM f r (nbD L r) := rfl
theorem NK.base {w w1 wr : World} {v : Value} {l : List Int} (h : NK w1 v l wr) (g : w.grownBy w1 none) : NK w v l wr := ⟨h.own.mono g.size, grown_trans g h.gr⟩
end Go.Proofs.YtpogblengagpaaaGreatDoor

/- empty -/
namespace Go.Proofs.YtpogblengagpaaaGreatDoor
set_option maxRecDepth 100000
end Go.Proofs.YtpogblengagpaaaGreatDoor

/- empty -/
namespace Go.Proofs.YtpogblengagpaaaGreatDoor
set_option maxRecDepth 100000
end Go.Proofs.YtpogblengagpaaaGreatDoor

/- shortest.passes and Avoids. -/
namespace Go.Proofs.YtpogblengagpaaaGreatDoor
set_option maxRecDepth 100000
open Go.RowKit Go.Maps Bs
theorem getD_bd {R : List Rt} {L : List Lk} {a b : Int} : 0 ≤ (dst R L a b).getD 0 ∧ (dst R L a b).getD 0 ≤ 24000 := by
 cases h : dst R L a b with
 | none => exact ⟨Int.le_refl _, by decide⟩
 | some d => exact (dst_bd h).1
end Go.Proofs.YtpogblengagpaaaGreatDoor

/- shortest.Next and Uses. -/
namespace Go.Proofs.YtpogblengagpaaaGreatDoor
set_option maxRecDepth 100000
open Go.RowKit Go.Maps Bs
noncomputable def nxt (R : List Rt) (L : List Lk) (r z : Int) : List Int := nextV L (fun x => dst R L x z) r
end Go.Proofs.YtpogblengagpaaaGreatDoor

/- shortest.Route. -/
namespace Go.Proofs.YtpogblengagpaaaGreatDoor
set_option maxRecDepth 100000
open Go.RowKit Go.Maps Bs
theorem hasV_end {R : List Rt} {L : List Lk} {r z d : Int} (h : dst R L r z = some d) : hasV R L z = true := by
 obtain ⟨h1, -, h3⟩ := dst_both h
 exact hasV_iff.2 ⟨h1, h3⟩
theorem nxt_step {R : List Rt} {L : List Lk} {r z u : Int} (h : u ∈ nxt R L r z) : ∃ d x c, dst R L r z = some d ∧ dst R L u z = some x ∧ c + x = d ∧ 1 ≤ c ∧ edg L r u c := by
 have h0 := h
 unfold nxt at h
 have hz : hasV R L z = true := by
  unfold nextV at h
  obtain ⟨⟨v, c⟩, hm, rfl⟩ := List.mem_map.1 h
  obtain ⟨-, h2⟩ := List.mem_filter.1 hm
  simp only at h2
  cases hv : dst R L v z with
  | none => rw [hv] at h2; cases h2
  | some x => exact hasV_end hv
 have hp := (okT_g (hasV_iff.1 hz).1).pos
 cases hr : dst R L r z with
 | none =>
  have := next_none (f := fun x => dst R L x z) hp (fun v x hx => (dst_bd hx).1.1) hr
  rw [this] at h
  cases h
 | some d =>
  obtain ⟨x, c, h1, h2, h3, -⟩ := next_lt (f := fun x => dst R L x z) hp hr h
  exact ⟨d, x, c, rfl, h1, h3, hp.edg h2, h2⟩
noncomputable def far (R : List Rt) (L : List Lk) (z r : Int) : Nat := ((dst R L r z).getD 0).toNat
theorem far_step {R : List Rt} {L : List Lk} {r z u : Int} (h : u ∈ nxt R L r z) : far R L z u < far R L z r := by
 obtain ⟨d, x, c, h1, h2, h3, h4, -⟩ := nxt_step h
 unfold far
 rw [h1, h2]
 simp only [Option.getD_some]
 have := (dst_bd h2).1
 omega
theorem far_le (R : List Rt) (L : List Lk) (z r : Int) : far R L z r ≤ 24000 := by
 unfold far
 have := getD_bd (R := R) (L := L) (a := r) (b := z)
 omega
end Go.Proofs.YtpogblengagpaaaGreatDoor

/- empty -/
namespace Go.Proofs.YtpogblengagpaaaGreatDoor
set_option maxRecDepth 100000
end Go.Proofs.YtpogblengagpaaaGreatDoor

/- empty -/
namespace Go.Proofs.YtpogblengagpaaaGreatDoor
set_option maxRecDepth 100000
end Go.Proofs.YtpogblengagpaaaGreatDoor

/- Counting least walks: one table for both sides. -/
namespace Go.Proofs.YtpogblengagpaaaGreatDoor
set_option maxRecDepth 100000
def cntS (next : Int → List Int) (z : Int) (g : Int → Int) (r : Int) : Int := if r = z then 1 else (next r).foldl (fun a u => min (a + g u) 1000000) 0
theorem cntS_congr {next : Int → List Int} {z : Int} {g h : Int → Int} {r : Int} (e : ∀ u ∈ next r, g u = h u) : cntS next z g r = cntS next z h r := by
 unfold cntS
 by_cases hr : r = z
 ·rw [if_pos hr, if_pos hr]
 ·rw [if_neg hr, if_neg hr]
  have key : ∀ (l : List Int) (a : Int), (∀ u ∈ l, g u = h u) → l.foldl (fun a u => min (a + g u) 1000000) a = l.foldl (fun a u => min (a + h u) 1000000) a := by
   intro l
   induction l with
   | nil => intro a _; rfl
   | cons u t ih =>
    intro a hl
    rw [List.foldl_cons, List.foldl_cons, hl u (by simp)]
    exact ih _ (fun v hv => hl v (by simp [hv]))
  exact key _ 0 e
def itC (next : Int → List Int) (z : Int) : Nat → Int → Int
 | 0 => fun _ => 0
 | k + 1 => cntS next z (itC next z k)
theorem itC_stable {next : Int → List Int} {z : Int} {m : Int → Nat} (hm : ∀ r, ∀ u ∈ next r, m u < m r) : ∀ (k : Nat) (r : Int), m r ≤ k → itC next z (k + 1) r = itC next z (k + 2) r := by
 intro k
 induction k with
 | zero =>
  intro r hr
  exact cntS_congr (fun u hu => by have := hm r u hu; omega)
 | succ k ih =>
  intro r hr
  exact cntS_congr (fun u hu => ih u (by have := hm r u hu; omega))
theorem itC_fix {next : Int → List Int} {z : Int} {m : Int → Nat} (hm : ∀ r, ∀ u ∈ next r, m u < m r) {N : Nat} (hN : ∀ r, m r < N) (r : Int) : itC next z N r = cntS next z (itC next z N) r := by
 obtain ⟨k, rfl⟩ : ∃ k, N = k + 1 := ⟨N - 1, by have := hN r; omega⟩
 exact itC_stable hm k r (by have := hN r; omega)
end Go.Proofs.YtpogblengagpaaaGreatDoor

/- shortest.pathsTo and Paths. -/
namespace Go.Proofs.YtpogblengagpaaaGreatDoor
set_option maxRecDepth 100000
open Go.RowKit Go.Maps Bs
noncomputable def cnt (R : List Rt) (L : List Lk) (z r : Int) : Int := itC (fun r => nxt R L r z) z 24001 r
theorem cnt_rule (R : List Rt) (L : List Lk) (z r : Int) : cnt R L z r = cntS (fun r => nxt R L r z) z (cnt R L z) r :=
 itC_fix (m := far R L z) (fun r u hu => far_step hu) (fun r => by have := far_le R L z r; omega) r
theorem fold_bd {c : Int → Int} (hc : ∀ u, 0 ≤ c u ∧ c u ≤ 1000000) : ∀ (l : List Int) (a : Int), 0 ≤ a ∧ a ≤ 1000000 → 0 ≤ l.foldl (fun a u => min (a + c u) 1000000) a ∧ l.foldl (fun a u => min (a + c u) 1000000) a ≤ 1000000
 | [], a, h => h
 | u :: t, a, h => fold_bd hc t _ (by have := hc u; show 0 ≤ min (a + c u) 1000000 ∧ min (a + c u) 1000000 ≤ 1000000; omega)
theorem cntS_bd {next : Int → List Int} {z : Int} {c : Int → Int} (hc : ∀ u, 0 ≤ c u ∧ c u ≤ 1000000) (r : Int) : 0 ≤ cntS next z c r ∧ cntS next z c r ≤ 1000000 := by
 unfold cntS
 by_cases h : r = z
 ·rw [if_pos h]; omega
 ·rw [if_neg h]; exact fold_bd hc _ 0 (by omega)
theorem itC_bd (next : Int → List Int) (z : Int) : ∀ (k : Nat) (r : Int), 0 ≤ itC next z k r ∧ itC next z k r ≤ 1000000
 | 0, r => ⟨Int.le_refl _, by show (0 : Int) ≤ 1000000; omega⟩
 | k + 1, r => cntS_bd (itC_bd next z k) r
theorem cnt_bd (R : List Rt) (L : List Lk) (z r : Int) : 0 ≤ cnt R L z r ∧ cnt R L z r ≤ 1000000 := itC_bd _ _ _ _
end Go.Proofs.YtpogblengagpaaaGreatDoor

/- empty -/
namespace Go.Proofs.YtpogblengagpaaaGreatDoor
set_option maxRecDepth 100000
end Go.Proofs.YtpogblengagpaaaGreatDoor

/- shortest.pathsTo and Paths: the walks. -/
namespace Go.Proofs.YtpogblengagpaaaGreatDoor
set_option maxRecDepth 100000
open Go.RowKit Go.Maps Bs
theorem nodup_le : ∀ (l V : List Int), l.Nodup → (∀ x ∈ l, x ∈ V) → l.length ≤ V.length
 | [], _, _, _ => Nat.zero_le _
 | a :: t, V, hn, hs => by
  have h1 := List.nodup_cons.1 hn
  have ha := hs a (by simp)
  have h2 := nodup_le t (V.erase a) h1.2 (fun x hx => (List.mem_erase_of_ne (fun e => h1.1 (by rw [← e]; exact hx))).2 (hs x (by simp [hx])))
  rw [List.length_erase_of_mem ha] at h2
  have := List.length_pos_of_mem ha
  rw [List.length_cons]
  omega
end Go.Proofs.YtpogblengagpaaaGreatDoor

/- empty -/
namespace Go.Proofs.YtpogblengagpaaaGreatDoor
set_option maxRecDepth 100000
end Go.Proofs.YtpogblengagpaaaGreatDoor

/- empty -/
namespace Go.Proofs.YtpogblengagpaaaGreatDoor
set_option maxRecDepth 100000
end Go.Proofs.YtpogblengagpaaaGreatDoor

/- topology: Connected. -/
namespace Go.Proofs.YtpogblengagpaaaGreatDoor
set_option maxRecDepth 100000
open Go.RowKit Bs
def both (a b : Int) (C : List Int) : Bool := hasI C a && hasI C b
end Go.Proofs.YtpogblengagpaaaGreatDoor

/- empty -/
namespace Go.Proofs.YtpogblengagpaaaGreatDoor
set_option maxRecDepth 100000
end Go.Proofs.YtpogblengagpaaaGreatDoor

/- empty -/
namespace Go.Proofs.YtpogblengagpaaaGreatDoor
set_option maxRecDepth 100000
end Go.Proofs.YtpogblengagpaaaGreatDoor

/- empty -/
namespace Go.Proofs.YtpogblengagpaaaGreatDoor
set_option maxRecDepth 100000
end Go.Proofs.YtpogblengagpaaaGreatDoor

/- empty -/
namespace Go.Proofs.YtpogblengagpaaaGreatDoor
set_option maxRecDepth 100000
end Go.Proofs.YtpogblengagpaaaGreatDoor

/- While the tape makes a topology. -/
namespace Go.Proofs.YtpogblengagpaaaGreatDoor
set_option maxRecDepth 100000
open Go.RowKit Bs
structure TKt (a : Nat) (W : World) (uR uL vR vL : Value) (R : List Rt) (L : List Lk) (w : World) : Prop where
 gb : w.heap[W.heap.size + 1]? = some (.cells #[uR, uL] 68 (0, 0))
 rb : w.heap[W.heap.size]? = some (.cells #[.slice none 0 0, .slice none 0 0] 68 (0, 0))
 oR : w.ownsRow (W.heap.size + 2) 105 2 vR R.length (R.flatMap rtC)
 oL : w.ownsRow (W.heap.size + 2) 135 5 vL L.length (L.flatMap lkC)
 ap : ∀ g, vR.ownBlock = some g → vL.ownBlock ≠ some g
 st : St a W w
 sz : W.heap.size + 2 ≤ w.heap.size
theorem own_other {w w' : World} {base size n b : Nat} {e : TypeId} {v : Value} {xs : List Value} (h : w.ownsRow base e size v n xs) (g : w.grownBy w' (some b)) (hb : b < base) : w'.ownsRow base e size v n xs :=
 h.kept g (by
  cases hv : v.ownBlock with
  | none => exact .inl rfl
  | some k => exact .inr (fun e => by have e2 := Option.some.inj e; have := (h.lt k hv).1; omega))
theorem St.storeT {a b : Nat} {W w w1 : World} (h : St a W w) (g : w.grownBy w1 (some b)) (hb : W.heap.size ≤ b) (ha : a < W.heap.size) : St a W w1 := by
 refine ⟨⟨g.os.trans h.1.os, g.tape.trans h.1.tape, g.output.trans h.1.output, Nat.le_trans h.1.size g.size, fun i hi hia => (g.block i (Nat.lt_of_lt_of_le hi h.1.size) (fun e => by have := Option.some.inj e; omega)).trans (h.1.block i hi hia)⟩, ?_⟩
 obtain ⟨v, n, i, T⟩ := h.2
 have hlt : a < w.heap.size := Nat.lt_of_lt_of_le ha h.1.size
 have hk : w1.heap[a]? = w.heap[a]? := g.block a hlt (fun e => by have := Option.some.inj e; omega)
 refine ⟨v, n, i, (World.cell?_of_block (a := ⟨a, 0, none⟩) hk).trans T.l, (World.cell?_of_block (a := ⟨a, 1, none⟩) hk).trans T.p, (World.frozen?_of_block (a := ⟨a, 1, none⟩) hk).trans T.fr, ?_, T.le, T.len⟩
 obtain ⟨p, c, hv, hc⟩ := T.ints
 refine ⟨p, c, hv, fun hn => ?_⟩
 obtain ⟨b1, off, hp, hb1, hx⟩ := hc hn
 refine ⟨b1, off, hp, hb1, fun i hi => ?_⟩
 obtain ⟨x, hx1, hcell⟩ := hx i hi
 exact ⟨x, hx1, g.cell hcell (fun e => by have : b1 = b := Option.some.inj e; omega)⟩
section
variable {a : Nat} {W w w1 : World} {uR uL vR vL v' : Value} {R : List Rt} {L : List Lk}
theorem TKt.keep (h : TKt a W uR uL vR vL R L w) (g : w.grownBy w1 none) : TKt a W uR uL vR vL R L w1 :=
 ⟨kept_row h.gb g (by simp), kept_row h.rb g (by simp), h.oR.kept g (by cases hv : vR.ownBlock <;> simp), h.oL.kept g (by cases hv : vL.ownBlock <;> simp), h.ap, h.st.trans ⟨grown_none g _, h.st.2.keep g⟩, Nat.le_trans h.sz g.size⟩
theorem TKt.tape (h : TKt a W uR uL vR vL R L w) (ha : a < W.heap.size) (k : St a w w1) : TKt a W uR uL vR vL R L w1 :=
 ⟨kept_row h.gb k.1 (fun e => by have := Option.some.inj e; omega), kept_row h.rb k.1 (fun e => by have := Option.some.inj e; omega), own_other h.oR k.1 (by omega), own_other h.oL k.1 (by omega), h.ap, h.st.trans k, Nat.le_trans h.sz k.1.size⟩
theorem TKt.start (hT : Tp w a) : TKt a w (.slice none 0 0) (.slice none 0 0) (.slice none 0 0) (.slice none 0 0) [] [] ((w.alloc (.cells #[.slice none 0 0, .slice none 0 0] 68)).alloc (.cells #[.slice none 0 0, .slice none 0 0] 68)) := by
 obtain ⟨k1, k2, k3, _⟩ := two_boxes w #[.slice none 0 0, .slice none 0 0] #[.slice none 0 0, .slice none 0 0] 68 68
 exact ⟨k2, k1, World.ownsRow_nil _ _ _ _, World.ownsRow_nil _ _ _ _, fun g hg => (by cases hg), ⟨grown_none k3 _, hT.keep k3⟩, by simp⟩
theorem St.rowT {a base size n : Nat} {W w w1 : World} {e : TypeId} {v : Value} {xs : List Value} (h : St a W w) (ho : w.ownsRow base e size v n xs) (hb : W.heap.size ≤ base) (ha : a < W.heap.size) (k : w.grownBy w1 v.ownBlock) : St a W w1 := by
 cases hv : v.ownBlock with
 | none => rw [hv] at k; exact ⟨grown_trans h.1 (grown_none k _), h.2.keep k⟩
 | some g => rw [hv] at k; exact h.storeT k (Nat.le_trans hb (ho.lt g hv).1) ha
theorem TKt.addR {g n cap : Nat} {y : Rt} (h : TKt a W uR uL vR vL R L w) (ha : a < W.heap.size) (hown : w1.ownsRow (W.heap.size + 2) 105 2 (.slice (some ⟨g, 0, none⟩) n cap) (R.length + 1) (R.flatMap rtC ++ [.int .i64 y.id, .bool y.cap])) (hg : w.grownBy w1 vR.ownBlock) (hat : vR.ownBlock = some g ∨ g = w.heap.size) :
  TKt a W uR uL (.slice (some ⟨g, 0, none⟩) n cap) vL (R ++ [y]) L w1 := by
 have hne : ∀ k, k < W.heap.size + 2 → some k ≠ vR.ownBlock := fun k hk e => by
  have := (h.oR.lt k e.symm).1
  omega
 refine ⟨kept_row h.gb hg (hne _ (by omega)), kept_row h.rb hg (hne _ (by omega)), ?_, h.oL.kept hg ?_, ?_, h.st.rowT h.oR (by omega) ha hg, Nat.le_trans h.sz hg.size⟩
 ·rw [List.length_append, List.flatMap_append]; exact hown
 ·cases hv : vL.ownBlock with
  | none => exact .inl rfl
  | some k => exact .inr (fun e => h.ap k e.symm hv)
 ·intro g2 hg2 e
  obtain rfl : g = g2 := by simpa [Value.ownBlock] using hg2
  rcases hat with hat | hat
  ·exact h.ap g hat e
  ·have := (h.oL.lt g e).2
   omega
theorem TKt.addL {g n cap : Nat} {y : Lk} (h : TKt a W uR uL vR vL R L w) (ha : a < W.heap.size) (hown : w1.ownsRow (W.heap.size + 2) 135 5 (.slice (some ⟨g, 0, none⟩) n cap) (L.length + 1) (L.flatMap lkC ++ [.int .i64 y.a, .int .i64 y.b, .int .i64 y.ca, .int .i64 y.cb, .int .i64 y.cp])) (hg : w.grownBy w1 vL.ownBlock) (hat : vL.ownBlock = some g ∨ g = w.heap.size) :
  TKt a W uR uL vR (.slice (some ⟨g, 0, none⟩) n cap) R (L ++ [y]) w1 := by
 have hne : ∀ k, k < W.heap.size + 2 → some k ≠ vL.ownBlock := fun k hk e => by
  have := (h.oL.lt k e.symm).1
  omega
 refine ⟨kept_row h.gb hg (hne _ (by omega)), kept_row h.rb hg (hne _ (by omega)), h.oR.kept hg ?_, ?_, ?_, h.st.rowT h.oL (by omega) ha hg, Nat.le_trans h.sz hg.size⟩
 ·cases hv : vR.ownBlock with
  | none => exact .inl rfl
  | some k => exact .inr (fun e => h.ap k hv e.symm)
 ·rw [List.length_append, List.flatMap_append]; exact hown
 ·intro g2 hg2 e
  obtain rfl : g = g2 := by simpa [Value.ownBlock] using e
  rcases hat with hat | hat
  ·exact h.ap g hg2 hat
  ·have := (h.oR.lt g hg2).2
   omega
theorem TKt.put0 (h : TKt a W uR uL vR vL R L w) (ha : a < W.heap.size) : TKt a W vR uL vR vL R L (w.setCell ⟨W.heap.size + 1, 0, none⟩ vR) := by
 have k : w.grownBy (w.setCell ⟨W.heap.size + 1, 0, none⟩ vR) (some (W.heap.size + 1)) := grown_setCell w ⟨W.heap.size + 1, 0, none⟩ vR
 exact ⟨heap_setCell_same w _ 0 _ _ vR h.gb, kept_row h.rb k (fun e => by have : W.heap.size = W.heap.size + 1 := Option.some.inj e; omega), own_other h.oR k (by omega), own_other h.oL k (by omega), h.ap, h.st.storeT k (by omega) ha, Nat.le_trans h.sz k.size⟩
theorem TKt.put1 (h : TKt a W uR uL vR vL R L w) (ha : a < W.heap.size) : TKt a W uR vL vR vL R L (w.setCell ⟨W.heap.size + 1, 1, none⟩ vL) := by
 have k : w.grownBy (w.setCell ⟨W.heap.size + 1, 1, none⟩ vL) (some (W.heap.size + 1)) := grown_setCell w ⟨W.heap.size + 1, 1, none⟩ vL
 exact ⟨heap_setCell_same w _ 1 _ _ vL h.gb, kept_row h.rb k (fun e => by have : W.heap.size = W.heap.size + 1 := Option.some.inj e; omega), own_other h.oR k (by omega), own_other h.oL k (by omega), h.ap, h.st.storeT k (by omega) ha, Nat.le_trans h.sz k.size⟩
theorem TKt.newL {O : List Lk} (h : TKt a W uR uL vR vL R L w) (hown : w1.ownsRow w.heap.size 135 5 v' O.length (O.flatMap lkC)) (g : w.grownBy w1 none) : TKt a W uR uL vR v' R O w1 := by
 have h1 := h.keep g
 refine ⟨h1.gb, h1.rb, h1.oR, hown.mono h.sz, fun k hk e => ?_, h1.st, h1.sz⟩
 have := (hown.lt k e).1
 have := (h.oR.lt k hk).2
 omega
theorem flat_set : ∀ (L : List Lk) (k j : Nat) (x : Int), k < L.length → j < 5 → ∃ L' : List Lk, L'.length = L.length ∧ L'.flatMap lkC = (L.flatMap lkC).set (k * 5 + j) (.int .i64 x)
 | [], k, _, _, hk, _ => absurd hk (Nat.not_lt_zero k)
 | m :: t, 0, j, x, _, hj => by
  rcases (show j = 0 ∨ j = 1 ∨ j = 2 ∨ j = 3 ∨ j = 4 by omega) with rfl | rfl | rfl | rfl | rfl
  ·exact ⟨⟨x, m.b, m.ca, m.cb, m.cp⟩ :: t, rfl, rfl⟩
  ·exact ⟨⟨m.a, x, m.ca, m.cb, m.cp⟩ :: t, rfl, rfl⟩
  ·exact ⟨⟨m.a, m.b, x, m.cb, m.cp⟩ :: t, rfl, rfl⟩
  ·exact ⟨⟨m.a, m.b, m.ca, x, m.cp⟩ :: t, rfl, rfl⟩
  ·exact ⟨⟨m.a, m.b, m.ca, m.cb, x⟩ :: t, rfl, rfl⟩
 | m :: t, k + 1, j, x, hk, hj => by
  obtain ⟨L', h1, h2⟩ := flat_set t k j x (by simpa using hk) hj
  refine ⟨m :: L', by simp [h1], ?_⟩
  rw [List.flatMap_cons, h2, List.flatMap_cons]
  have e : (k + 1) * 5 + j = (lkC m).length + (k * 5 + j) := by
   show (k + 1) * 5 + j = 5 + (k * 5 + j)
   omega
  rw [e, List.set_append_right _ _ (Nat.le_add_right _ _), Nat.add_sub_cancel_left]
theorem TKt.setL {g n cap k j : Nat} {x : Int} (h : TKt a W uR uL vR (.slice (some ⟨g, 0, none⟩) n cap) R L w) (ha : a < W.heap.size) (hk : k < L.length) (hj : j < 5) :
  ∃ L', L'.length = L.length ∧ TKt a W uR uL vR (.slice (some ⟨g, 0, none⟩) n cap) R L' (w.setCell ⟨g, k * 5 + j, none⟩ (.int .i64 x)) := by
 obtain ⟨L', hl, hf⟩ := flat_set L k j x hk hj
 obtain ⟨-, -, -⟩ : True ∧ True ∧ True := ⟨trivial, trivial, trivial⟩
 have hg0 := (h.oL.lt g rfl).1
 have hn : n = L.length := by
  obtain ⟨p, c, e, _⟩ := own_shape h.oL
  injection e
 subst hn
 obtain ⟨s1, s2⟩ := h.oL.stored (k * 5 + j) (.int .i64 x)
 refine ⟨L', hl, kept_row h.gb s2 (fun e => by have : W.heap.size + 1 = g := Option.some.inj e; omega), kept_row h.rb s2 (fun e => by have : W.heap.size = g := Option.some.inj e; omega), h.oR.kept s2 ?_, ?_, h.ap, h.st.storeT s2 (by omega) ha, Nat.le_trans h.sz s2.size⟩
 ·cases hv : vR.ownBlock with
  | none => exact .inl rfl
  | some k => exact .inr (fun e => h.ap k hv (by rw [e]; rfl))
 ·rw [hl, hf]; exact s1
end
def TopoPost (a : Nat) (most : Nat) (n : Int) (w : World) (e : Ending) (w' : World) : Prop :=
 ∃ (R : List Rt) (L : List Lk) (vR vL : Value), e = .returned (.agg #[vR, vL]) ∧ w'.ownsRow w.heap.size 105 2 vR R.length (R.flatMap rtC) ∧ w'.ownsRow w.heap.size 135 5 vL L.length (L.flatMap lkC) ∧ (∀ g, vR.ownBlock = some g → vL.ownBlock ≠ some g) ∧ TopOf most n R L ∧ St a w w'
end Go.Proofs.YtpogblengagpaaaGreatDoor

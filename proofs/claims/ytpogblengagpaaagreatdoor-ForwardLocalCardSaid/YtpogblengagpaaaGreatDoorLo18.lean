/- Parts of the proof, packed: TaRAl, MaNxt, TaCpM, TaCpy, IoOrder, IdTpM, TaVal. -/
import Derived.Test.YtpogblengagpaaaGreatDoorLo17
import Derived.Test.YtpogblengagpaaaGreatDoorLo4
import Derived.Test.YtpogblengagpaaaGreatDoorLo15
import Derived.Test.YtpogblengagpaaaGreatDoorLo6
import Derived.Test.YtpogblengagpaaaGreatDoorLo8
import Derived.Test.YtpogblengagpaaaGreatDoorLo11
import Derived.Test.YtpogblengagpaaaGreatDoorLo3
import Derived.Test.YtpogblengagpaaaGreatDoorLo10
/- tables, the reference's functions: All. -/
namespace Go.Proofs.YtpogblengagpaaaGreatDoor
set_option maxRecDepth 100000
open Go.RowKit Bs
set_option maxHeartbeats 12800000 in
theorem rall11_any (T : Tg) (s n : Int) (E : List Ed) (pE : Option Addr) (cE : Nat) (q q2 : Nat → Prop) (w : World) (hT : TgOk w q T) (hE : RdF w q2 (.slice pE E.length cE) E.length (E.flatMap edC)) (hm : E.length ≤ 9223372036854775807) :
  Calls Tryz.prog 34 #[.agg #[.slice T.pR T.R.length T.cR, .slice T.pL T.L.length T.cL], .agg #[.int .i64 s, .int .i64 n, .slice pE E.length cE]] w fun e w' => RAllPost T.R T.L s n E w e w' := by
 obtain ⟨R, L0, pR, cR, pL, cL⟩ := T
 simp only
 obtain ⟨ii, hii, hi0, hi1, hi2⟩ := info_parts info_tabT
 have H0 := Lib.hid (alT_start s n hT hE)
 clear hT hE
 go_enter Tryz.func34, Tryz.ntmps34
 go_upto_region 1 with fail
 generalize (w.alloc _).alloc _ = wa at *
 have hnil : ∀ w', ¬ (okT R L0 = true ∧ vPl s n E = true) → w.grownBy w' none → RAllPost R L0 s n E w (.returned (.tuple #[.slice none 0 0, .int .i64 1])) w' := fun w' hno g => ⟨[], none, 0, 1, rfl, Or.inr ⟨rfl, hno, rfl⟩, World.ownsRow_nil _ _ _ _, fun x hx => (by cases hx), g⟩
 have HNIL := Lib.hid hnil
 clear hnil
 obtain ⟨t0, t1⟩ := row_cells H0.out.bT
 obtain ⟨q0, q1, q2⟩ := row3B H0.out.bP
 go_wp2_with fail
 refine (rcheck_any ⟨R, L0, pR, cR, pL, cL⟩ _ wa H0.out.t).mono ?_
 rintro e w1 ⟨rfl, hg⟩
 have H1 := Lib.hid (H0.out.keep hg)
 clear hg H0 t0 t1 q0 q1 q2
 simp only
 by_cases hck : chk R L0 = 0
 case neg =>
  have hck' : (chk R L0 != 0) = true := by simpa using hck
  have HF := Lib.hid hck
  clear hck
  go_wp2_with fail
  go_ret2
  exact HNIL.out _ (fun h => HF.out (by have := h.1; unfold okT at this; simpa using this)) H1.out.gr
 have HOK : Hid (okT R L0 = true) := Lib.hid (by unfold okT; simpa using hck)
 rw [hck]
 clear hck
 obtain ⟨t0, t1⟩ := row_cells H1.out.bT
 obtain ⟨q0, q1, q2⟩ := row3B H1.out.bP
 go_wp2_with fail
 refine (irvplan_any s n E pE cE _ w1 H1.out.e hm).mono ?_
 rintro e w2 ⟨rfl, hg⟩
 have H2 := Lib.hid (H1.out.keep hg)
 clear hg H1 t0 t1 q0 q1 q2
 simp only
 cases hvp : vPl s n E
 case false =>
  have HF := Lib.hid hvp
  clear hvp
  go_wp2_with fail
  go_ret2
  exact HNIL.out _ (fun h => by rw [HF.out] at h; cases h.2) H2.out.gr
 have HVP := Lib.hid hvp
 clear hvp HNIL hm
 have hRl := (okT_len HOK.out).1
 have hEl : E.length ≤ 1000 := by
  have h := HVP.out
  unfold vPl at h
  simp only [Bool.and_eq_true, decide_eq_true_eq] at h
  omega
 go_wp2_with fail
 go_loopw [6, 7] (fun v a wr => ∃ (k : Nat) (Ts : List TbS) (p : Option Addr) (c : Nat), k ≤ R.length ∧ v = .slice p Ts.length c ∧ a = .int .i64 (k : Int) ∧ Hid (AllM R L0 s n E (R.take k) Ts) ∧ Hid (AlT w ⟨R, L0, pR, cR, pL, cL⟩ s n E pE cE (.slice p Ts.length c) Ts wr)) (fun _ a _ => R.length - (RowKit.intOf a).toNat)
 case atStart => exact ⟨0, [], none, 0, Nat.zero_le _, rfl, rfl, Lib.hid (by rw [List.take_zero]; exact AllM.nil), H2⟩
 case round =>
 clear H2
 obtain ⟨k, Ts, p, c, hk, rfl, rfl, HB, K⟩ := hrel
 obtain ⟨w5, hw5⟩ : ∃ w5, w5 = wr := ⟨_, rfl⟩
 rw [← hw5] at K ⊢
 clear hw5
 obtain ⟨t0, t1⟩ := row_cells K.out.bT
 by_cases hlt : k < R.length
 case neg =>
  obtain rfl : k = R.length := by omega
  have hnl : ¬ (R.length : Int) < (R.length : Int) := by omega
  rw [List.take_length] at HB
  have HK := Lib.hid K.out
  clear K
  go_wp2_with fail
  go_ret2
  exact ⟨Ts, p, c, 0, rfl, Or.inl ⟨rfl, HOK.out, HVP.out, HB.out⟩, HK.out.own.mono (by omega), fun x hx => by
   have h := HK.out.tabs x hx
   exact ⟨h.rd.mono (fun b hb => ⟨by have := hb.1; omega, hb.2⟩), h.hn, h.hc, h.hy⟩, HK.out.gr⟩
 have hlt' : (k : Int) < (R.length : Int) := by omega
 have hk0 : (0 : Int) ≤ (k : Int) := by omega
 obtain ⟨y, hy⟩ : ∃ y, R[k]? = some y := ⟨_, List.getElem?_eq_getElem hlt⟩
 obtain ⟨-, b, off, rfl, -, hc⟩ := rdr_cells (R := R) K.out.t.r (by omega)
 obtain ⟨a0, a1⟩ := hc k y hy
 have HY := Lib.hid hy
 clear hc hy
 cases hcap : y.cap
 case false =>
  rw [hcap] at a1
  have HB2 := Lib.hid (HB.out.skip HY.out hcap)
  clear hcap HB a0
  go_wp2_with fail
  exact ⟨⟨k + 1, Ts, p, c, by omega, rfl, congrArg _ (by omega), HB2, K⟩, by simp only [RowKit.intOf]; omega⟩
 rw [hcap] at a1
 have HC := Lib.hid hcap
 clear hcap
 have hLE : Hid (Ts.length ≤ 1000) := Lib.hid (by have := HB.out.len; rw [List.length_take] at this; omega)
 have hLl := hLE.out
 go_upto_region 8 with fail
 refine region_until (S := fun w' => Hid (w5.grownBy w' none)) (fun j => j == 11 || j == 12) (by kernel_rfl) (Lib.hid (grown_drew (grown_refl _ none))) (fun hHeld => ?_)
 refine zU (i := 0) (v := ?_) rfl ?_ hHeld ?_
 rotate_left 1
 ·intro u hSu
  go_simp
  first | done | with_reducible rfl
 try simp only [Act.put, zA, zB, zC]
 refine zU (i := 1) (v := ?_) rfl ?_ hHeld ?_
 rotate_left 1
 ·intro u hSu
  obtain ⟨t0u, t1u⟩ := row_cells (kept_row K.out.bT hSu.out (by simp))
  obtain ⟨q0u, q1u, q2u⟩ := row3B (kept_row K.out.bP hSu.out (by simp))
  have a0u := hSu.out.cell a0 (by simp)
  go_simp
  first | done | with_reducible rfl
 try simp only [Act.put, zA, zB, zC]
 refine zU (i := 2) (v := ?_) rfl ?_ hHeld ?_
 rotate_left 1
 ·intro u hSu
  obtain ⟨t0u, t1u⟩ := row_cells (kept_row K.out.bT hSu.out (by simp))
  obtain ⟨q0u, q1u, q2u⟩ := row3B (kept_row K.out.bP hSu.out (by simp))
  have a0u := hSu.out.cell a0 (by simp)
  go_simp
  first | done | with_reducible rfl
 try simp only [Act.put, zA, zB, zC]
 refine zU (i := 3) (v := ?_) rfl ?_ hHeld ?_
 rotate_left 1
 ·intro u hSu
  go_simp
  first | done | with_reducible rfl
 try simp only [Act.put, zA, zB, zC]
 refine zU (i := 4) (v := ?_) rfl ?_ hHeld ?_
 rotate_left 1
 ·intro u hSu
  obtain ⟨t0u, t1u⟩ := row_cells (kept_row K.out.bT hSu.out (by simp))
  obtain ⟨q0u, q1u, q2u⟩ := row3B (kept_row K.out.bP hSu.out (by simp))
  have a0u := hSu.out.cell a0 (by simp)
  go_simp
  first | done | with_reducible rfl
 try simp only [Act.put, zA, zB, zC]
 refine zU (i := 5) (v := ?_) rfl ?_ hHeld ?_
 rotate_left 1
 ·intro u hSu
  go_simp
  first | done | with_reducible rfl
 try simp only [Act.put, zA, zB, zC]
 refine zU (i := 6) (v := ?_) rfl ?_ hHeld ?_
 rotate_left 1
 ·intro u hSu
  go_simp
  first | done | with_reducible rfl
 try simp only [Act.put, zA, zB, zC]
 refine zU (i := 7) (v := ?_) rfl ?_ hHeld ?_
 rotate_left 1
 ·intro u hSu
  go_simp
  first | done | with_reducible rfl
 try simp only [Act.put, zA, zB, zC]
 refine zU (i := 8) (v := ?_) rfl ?_ hHeld ?_
 rotate_left 1
 ·intro u hSu
  obtain ⟨t0u, t1u⟩ := row_cells (kept_row K.out.bT hSu.out (by simp))
  obtain ⟨q0u, q1u, q2u⟩ := row3B (kept_row K.out.bP hSu.out (by simp))
  have a0u := hSu.out.cell a0 (by simp)
  go_simp
  first | done | with_reducible rfl
 try simp only [Act.put, zA, zB, zC]
 refine anyU_ready (rs := [9]) (by kernel_rfl) (by simp) ?_
 refine EachU.cons (o := ⟨_, _, _, _, _, _⟩) rfl (fun Kz hK => ?_) EachU.nil
 go_simp
 go_at_call 63
 refine (rbuild_any ⟨R, L0, some ⟨b, off, none⟩, cR, pL, cL⟩ s n y.id E pE cE _ _ _ (K.out.keep hHeld.out).t (K.out.keep hHeld.out).e hEl).mono ?_
 rintro e' w7 ⟨L, p2, c2, rfl, hown, hrows, hM, hg⟩
 have HBL := Lib.hid (And.intro (hown.mono (base := _) hHeld.out.size) (And.intro (fun x hx => (⟨(hrows x hx).1.mono (fun b hb => ⟨Nat.le_trans hHeld.out.size hb.1, hb.2⟩), (hrows x hx).2⟩ : RdX w5.heap.size w7 _ _ _ _)) hM))
 have HN := Lib.hid (grown_trans hHeld.out hg)
 clear hown hrows hM hg
 simp only
 refine hK.out _ _ (fun _ => HN) (fun hH2 => ?_)
 clear hK Kz hHeld
 have hHeld := hH2 rfl
 clear hH2
 try simp only [Act.put, zA, zB, zC]
 refine anyU_ready (rs := [10]) (by kernel_rfl) (by simp) ?_
 refine EachU.cons (o := ⟨_, _, _, _, _, _⟩) rfl (fun Kz hK => ?_) EachU.nil
 have K7 := Lib.hid (K.out.keep hHeld.out)
 go_simp
 refine hK.out _ _ (fun _ => hid_more hHeld (World.grownBy_alloc _ _ _)) (fun hH2 => ?_)
 clear hK Kz hHeld
 have hHeld := hH2 rfl
 clear hH2
 try simp only [Act.put, zA, zB, zC]
 refine anyU_ready (rs := [11]) (by kernel_rfl) (by simp) ?_
 refine EachU.cons (o := ⟨_, _, _, _, _, _⟩) rfl (fun Kz hK => ?_) EachU.nil
 refine step_append_lies _ (by rfl) _ _ 85 (by rfl) (w.heap.size + 2) 25 ii (.agg #[.int .i64 0, .int .i64 0, .int .i64 0, .slice none 0 0]) 4 48 Tryz.underlying85 hii hi0 hi1 hi2 rfl (by decide) (.slice p Ts.length c) Ts.length (Ts.flatMap tbC) (by rfl) (K7.out.own.alloc _) ⟨w7.heap.size, 0, none⟩ 1 1 (tbC ⟨y.id, s, n, L, p2, c2⟩) (by rfl) (by rfl) (tb_row w7 ⟨y.id, s, n, L, p2, c2⟩ _) (tb_one ⟨y.id, s, n, L, p2, c2⟩) (by decide) (by unfold maxLen; omega) (by omega) (by have := K7.out.lo; simp; omega) _ rfl ?_
 intro g cap w8 hown8 hgrow hat hlt8
 have ga := World.grownBy_alloc w7 (.cells #[.int .i64 y.id, .int .i64 s, .int .i64 n, .slice p2 L.length c2] 25) none
 have hv : (Value.slice (some ⟨g, 0, none⟩) (Ts.length + 1) cap).ownBlock = (Value.slice p Ts.length c).ownBlock ∨ ∀ b, some b = (Value.slice (some ⟨g, 0, none⟩) (Ts.length + 1) cap).ownBlock → (w7.alloc (.cells #[.int .i64 y.id, .int .i64 s, .int .i64 n, .slice p2 L.length c2] 25)).heap.size ≤ b := by
  rcases hat with h | h
  ·exact Or.inl h.symm
  ·refine Or.inr fun b e => ?_
   have e2 : some b = some g := e
   have := Option.some.inj e2
   rw [this, h]
   exact Nat.le_refl _
 have K8 := (K7.out.keep ga).push (x := ⟨y.id, s, n, L, p2, c2⟩) (v' := .slice (some ⟨g, 0, none⟩) (Ts.length + 1) cap) ((tbx_of_bld y.id s n HBL.out.1 HBL.out.2.1 (fun b e => (K.out.own.lt b e).2) K.out.lo).keep ga) (by rw [List.length_append, List.flatMap_append]; simpa [tbC] using hown8) hgrow hv
 have HB2 := Lib.hid (HB.out.push HY.out HC.out HBL.out.2.2 p2 c2)
 have HLL : Hid ((Ts ++ [(⟨y.id, s, n, L, p2, c2⟩ : TbS)]).length = Ts.length + 1) := Lib.hid (by rw [List.length_append]; rfl)
 have K8 := Lib.hid K8
 clear hown8 hgrow hat hlt8 ga hv K7 HBL
 refine hK.out _ _ (fun h => by cases h) (fun _ => ?_)
 clear hK Kz
 try simp only [Act.put, zA, zB, zC]
 refine anyU_ready (rs := [12]) (by kernel_rfl) (by simp) ?_
 refine EachU.cons (o := ⟨_, _, _, _, _, _⟩) rfl (fun Kz hK => ?_) EachU.nil
 go_simp
 refine hK.out _ _ (fun h => by cases h) (fun _ => ?_)
 clear hK Kz
 try simp only [Act.put, zA, zB, zC]
 refine anyU_done (by kernel_rfl) ?_ _
 clear hHeld t0 t1 a0 a1
 go_wp2_with fail
 exact ⟨⟨k + 1, Ts ++ [⟨y.id, s, n, L, p2, c2⟩], some ⟨g, 0, none⟩, cap, by omega, by rw [HLL.out], congrArg _ (by omega), HB2, by rw [HLL.out]; exact K8⟩, by simp only [RowKit.intOf]; omega⟩
end Go.Proofs.YtpogblengagpaaaGreatDoor

/- tables: Row; masks: Next. -/
namespace Go.Proofs.YtpogblengagpaaaGreatDoor
set_option maxRecDepth 100000
open Go.RowKit Go.Maps Bs
def ivF (x : Int) : List Value := [tv x]
theorem ivF_one (x : Int) : ∀ u ∈ ivF x, u.oneCell' = true := by
 intro u hu
 simp [ivF, tv] at hu
 subst hu; rfl
theorem flat_ivF : ∀ X : List Int, X.flatMap ivF = X.map tv
 | [] => rfl
 | a :: t => by rw [List.flatMap_cons, flat_ivF t]; rfl
theorem rdf_ints {w : World} {q : Nat → Prop} {v : Value} {X : List Int} (h : Rd w q v (X.map tv)) : RdF w q v X.length (X.flatMap ivF) := by
 obtain ⟨p, c, h1, h2⟩ := h
 rw [List.length_map] at h1
 exact ⟨p, c, h1, fun hne => by
  rw [flat_ivF] at hne ⊢
  exact h2 hne⟩
end Go.Proofs.YtpogblengagpaaaGreatDoor

/- tables: rows that are their owner's. -/
namespace Go.Proofs.YtpogblengagpaaaGreatDoor
set_option maxRecDepth 100000
open Go.RowKit Bs
def Rw.v (x : Rw) : Value := .slice x.p x.nx.length x.c
structure OwnT (lo : Nat) (w : World) (v : Value) (M : List Rw) : Prop where
 own : w.ownsRow lo 80 2 v M.length (M.flatMap rwC)
 nx : ∀ x ∈ M, w.ownsRow lo 3 1 x.v x.nx.length (x.nx.map tv)
 ap : ∀ x ∈ M, ∀ g, x.v.ownBlock = some g → v.ownBlock ≠ some g
 pw : M.Pairwise fun x y => ∀ g, x.v.ownBlock = some g → y.v.ownBlock ≠ some g
theorem own_keptN {w w1 : World} {base size n : Nat} {e : TypeId} {v : Value} {xs : List Value} (h : w.ownsRow base e size v n xs) (g : w.grownBy w1 none) : w1.ownsRow base e size v n xs := h.kept g (by cases v.ownBlock <;> simp)
theorem own_keptV {w w1 : World} {base size n : Nat} {e : TypeId} {v : Value} {u : Value} {xs : List Value} (h : w.ownsRow base e size v n xs) (g : w.grownBy w1 u.ownBlock) (hne : ∀ b, v.ownBlock = some b → u.ownBlock ≠ some b) : w1.ownsRow base e size v n xs := by
 refine h.kept g ?_
 cases hv : v.ownBlock with
 | none => exact .inl rfl
 | some b => exact .inr (fun e => hne b hv e.symm)
theorem own_otherL {w w' : World} {base size n b : Nat} {e : TypeId} {v : Value} {xs : List Value} (h : w.ownsRow base e size v n xs) (g : w.grownBy w' (some b)) (hb : b < base) : w'.ownsRow base e size v n xs := by
 refine h.kept g ?_
 cases hv : v.ownBlock with
 | none => exact .inl rfl
 | some k => exact .inr (fun e => by have := (h.lt k hv).1; have := Option.some.inj e; omega)
theorem OwnT.nil (lo : Nat) (w : World) : OwnT lo w (.slice none 0 0) [] := ⟨World.ownsRow_nil _ _ _ _, fun x hx => (by cases hx), fun x hx => (by cases hx), List.Pairwise.nil⟩
theorem OwnT.keep {lo : Nat} {w w1 : World} {v : Value} {M : List Rw} (h : OwnT lo w v M) (g : w.grownBy w1 none) : OwnT lo w1 v M := ⟨own_keptN h.own g, fun x hx => own_keptN (h.nx x hx) g, h.ap, h.pw⟩
theorem OwnT.mono {lo lo2 : Nat} {w : World} {v : Value} {M : List Rw} (h : OwnT lo w v M) (hl : lo2 ≤ lo) : OwnT lo2 w v M := ⟨h.own.mono hl, fun x hx => (h.nx x hx).mono hl, h.ap, h.pw⟩
theorem OwnT.over {lo r : Nat} {w w1 : World} {v : Value} {M : List Rw} (h : OwnT lo w v M) (g : w.grownBy w1 (some r)) (hr : r < lo) : OwnT lo w1 v M :=
 ⟨own_otherL h.own g hr, fun x hx => own_otherL (h.nx x hx) g hr, h.ap, h.pw⟩
theorem OwnT.push {lo : Nat} {w0 w w1 : World} {v v' : Value} {M : List Rw} {x : Rw} (h : OwnT lo w0 v M) (hlo : lo ≤ w0.heap.size) (g0 : w0.grownBy w none) (hx : w.ownsRow w0.heap.size 3 1 x.v x.nx.length (x.nx.map tv)) (hown : w1.ownsRow lo 80 2 v' (M ++ [x]).length ((M ++ [x]).flatMap rwC)) (g : w.grownBy w1 v.ownBlock) (hv : v'.ownBlock = v.ownBlock ∨ ∀ b, some b = v'.ownBlock → w.heap.size ≤ b) : OwnT lo w1 v' (M ++ [x]) := by
 have hvl : ∀ b, v.ownBlock = some b → b < w0.heap.size := fun b e => (h.own.lt b e).2
 have hyl : ∀ y ∈ M, ∀ b, y.v.ownBlock = some b → b < w0.heap.size := fun y hy b e => ((h.nx y hy).lt b e).2
 have hxl : ∀ b, x.v.ownBlock = some b → w0.heap.size ≤ b ∧ b < w.heap.size := fun b e => hx.lt b e
 have hv' : ∀ b, v'.ownBlock = some b → (v.ownBlock = some b ∨ w.heap.size ≤ b) := fun b e => by
  rcases hv with hv | hv
  ·exact Or.inl (hv ▸ e)
  ·exact Or.inr (hv b e.symm)
 refine ⟨hown, fun y hy => ?_, fun y hy b hb e => ?_, ?_⟩
 ·rcases List.mem_append.1 hy with hy | hy
  ·exact own_keptV (own_keptN (h.nx y hy) g0) g (h.ap y hy)
  ·rw [List.mem_singleton.1 hy]
   exact (own_keptV hx g (fun b hb e => by have := hxl b hb; have := hvl b e; omega)).mono hlo
 ·have h0 := g0.size
  rcases List.mem_append.1 hy with hy | hy
  ·rcases hv' b e with e | e
   ·exact h.ap y hy b hb e
   ·have := hyl y hy b hb; omega
  ·rw [List.mem_singleton.1 hy] at hb
   have := hxl b hb
   rcases hv' b e with e | e
   ·have := hvl b e; omega
   ·omega
 ·refine List.pairwise_append.2 ⟨h.pw, List.pairwise_singleton _ _, fun y hy z hz b hb e => ?_⟩
  rw [List.mem_singleton.1 hz] at e
  have := hyl y hy b hb
  have := hxl b e
  omega
theorem RdW.old {w : World} {q : Nat → Prop} {p : Option Addr} {c : Nat} {L : List Rw} (h : RdW w q p c L) : RdW w (· < w.heap.size) p c L := ⟨h.rd.old, fun x hx => ⟨(h.ok x hx).rd.old, (h.ok x hx).hc⟩⟩
structure CP (W : World) (r s n : Int) (L : List Rw) (p : Option Addr) (c : Nat) (v : Value) (M : List Rw) (w : World) : Prop where
 bT : w.heap[W.heap.size]? = some (.cells #[.int .i64 r, .int .i64 s, .int .i64 n, .slice p L.length c] 25 (0, 0))
 bR : w.heap[W.heap.size + 1]? = some (.cells #[.int .i64 0, .int .i64 0, .int .i64 0, .slice none 0 0] 25 (0, 0))
 rd : RdW w (· < W.heap.size) p c L
 own : OwnT (W.heap.size + 2) w v M
 gr : W.grownBy w none
 lo : W.heap.size + 2 ≤ w.heap.size
theorem CP.keep {W : World} {r s n : Int} {L : List Rw} {p : Option Addr} {c : Nat} {v : Value} {M : List Rw} {w w1 : World} (h : CP W r s n L p c v M w) (g : w.grownBy w1 none) : CP W r s n L p c v M w1 :=
 ⟨kept_row h.bT g (by simp), kept_row h.bR g (by simp), h.rd.keep g, h.own.keep g, grown_trans h.gr g, Nat.le_trans h.lo g.size⟩
theorem CP.push {W : World} {r s n : Int} {L : List Rw} {p : Option Addr} {c : Nat} {v v' : Value} {M : List Rw} {x : Rw} {w0 w w1 : World} (h : CP W r s n L p c v M w0) (g0 : w0.grownBy w none) (hx : w.ownsRow w0.heap.size 3 1 x.v x.nx.length (x.nx.map tv)) (hown : w1.ownsRow (W.heap.size + 2) 80 2 v' (M ++ [x]).length ((M ++ [x]).flatMap rwC)) (g : w.grownBy w1 v.ownBlock) (hv : v'.ownBlock = v.ownBlock ∨ ∀ b, some b = v'.ownBlock → w.heap.size ≤ b) : CP W r s n L p c v' (M ++ [x]) w1 := by
 have hk := h.keep g0
 have hne : ∀ b, b < W.heap.size + 2 → some b ≠ v.ownBlock := fun b hb e => by have := (h.own.own.lt b e.symm).1; omega
 exact ⟨kept_row hk.bT g (hne _ (by omega)), kept_row hk.bR g (hne _ (by omega)), hk.rd.grown g (fun b hb => hne b (by omega)), h.own.push h.lo g0 hx hown g hv, grown_any hk.gr g (fun b hb => hne b (by omega)), Nat.le_trans hk.lo g.size⟩
theorem cp_start {w : World} {q : Nat → Prop} (r s n : Int) {L : List Rw} {p : Option Addr} {c : Nat} (hR : RdW w q p c L) :
  CP w r s n L p c (.slice none 0 0) [] ((w.alloc (.cells #[.int .i64 r, .int .i64 s, .int .i64 n, .slice p L.length c] 25)).alloc (.cells #[.int .i64 0, .int .i64 0, .int .i64 0, .slice none 0 0] 25)) := by
 obtain ⟨a1, g1, z1⟩ := alloc_row (w := w) #[.int .i64 r, .int .i64 s, .int .i64 n, .slice p L.length c] 25 rfl
 generalize w.alloc _ = w1 at *
 obtain ⟨a2, g2, z2⟩ := alloc_row (w := w1) #[.int .i64 0, .int .i64 0, .int .i64 0, .slice none 0 0] 25 z1
 generalize w1.alloc _ = w2 at *
 have gg := grown_trans g1 g2
 exact ⟨kept_row a1 g2 (by simp), a2, hR.old.keep gg, OwnT.nil _ _, gg, by omega⟩
def rw0 (x : Rw) : Int × List Int := (x.id, x.nx)
end Go.Proofs.YtpogblengagpaaaGreatDoor

/- tables: bitcastmake.copied. -/
namespace Go.Proofs.YtpogblengagpaaaGreatDoor
set_option maxRecDepth 100000
open Go.RowKit Bs
set_option maxHeartbeats 12800000 in
theorem copiedT_any (r s n : Int) (L : List Rw) (p : Option Addr) (c : Nat) (q : Nat → Prop) (w : World) (hR : RdW w q p c L) (hy0 : ∀ y ∈ L, y.p = none → y.c = 0) (hl : L.length ≤ 1000) (hl2 : ∀ y ∈ L, y.nx.length ≤ 1000) :
  Calls Tryz.prog 35 #[.agg #[.int .i64 r, .int .i64 s, .int .i64 n, .slice p L.length c]] w fun e w' => ∃ (M : List Rw) (p2 : Option Addr) (c2 : Nat), e = .returned (.agg #[.int .i64 r, .int .i64 s, .int .i64 n, .slice p2 M.length c2]) ∧ OwnT w.heap.size w' (.slice p2 M.length c2) M ∧ M.map rw0 = L.map rw0 ∧ w.grownBy w' none := by
 obtain ⟨ii, hii, hi0, hi1, hi2⟩ := info_parts info_rowT
 obtain ⟨ie, hie, he0, he1, he2⟩ := info_parts info_int
 have H0 := Lib.hid (cp_start r s n hR)
 have HY0 := Lib.hid (And.intro hy0 hl2)
 clear hR hy0 hl2
 go_enter Tryz.func35, Tryz.ntmps35
 go_upto_region 1 with fail
 generalize (w.alloc _).alloc _ = wa at *
 go_wp2_with fail
 go_loopw [3, 4] (fun v a wr => ∃ (k : Nat) (M : List Rw) (p2 : Option Addr) (c2 : Nat), k ≤ L.length ∧ v = .slice p2 M.length c2 ∧ a = .int .i64 (k : Int) ∧ Hid (M.map rw0 = (L.take k).map rw0) ∧ Hid (CP w r s n L p c (.slice p2 M.length c2) M wr)) (fun _ a _ => L.length - (RowKit.intOf a).toNat)
 case atStart => exact ⟨0, [], none, 0, Nat.zero_le _, rfl, rfl, Lib.hid (by rw [List.take_zero]), H0⟩
 case round =>
 clear H0
 obtain ⟨k, M, p2, c2, hk, rfl, rfl, HB, K⟩ := hrel
 obtain ⟨w5, hw5⟩ : ∃ w5, w5 = wr := ⟨_, rfl⟩
 rw [← hw5] at K ⊢
 clear hw5
 obtain ⟨t0, t1, t2, t3⟩ := row4T K.out.bT
 by_cases hlt : k < L.length
 case neg =>
  obtain rfl : k = L.length := by omega
  have hnl : ¬ (L.length : Int) < (L.length : Int) := by omega
  rw [List.take_length] at HB
  have f3 := frozen_of_row _ _ 3 _ _ K.out.bT
  have hset := heap_setCell_same w5 w.heap.size 3 _ _ (.slice p2 M.length c2) K.out.bT
  have gset : w5.grownBy (w5.setCell ⟨w.heap.size, 3, none⟩ (.slice p2 M.length c2)) (some w.heap.size) := grown_setCell w5 ⟨w.heap.size, 3, none⟩ _
  have HK := Lib.hid (And.intro hset (And.intro (kept_row K.out.bR gset (fun e => by have := Option.some.inj e; omega)) (And.intro (K.out.own.over gset (by omega)) (grown_new K.out.gr gset (Nat.le_refl _)))))
  clear K hset gset
  go_upto_region 7 with fail
  clear t0 t1 t2 t3 f3
  generalize (w5.setCell _ _) = w6 at *
  obtain ⟨t0, t1, t2, t3⟩ := row4T HK.out.1
  obtain ⟨z0, z1, z2, z3⟩ := row4T HK.out.2.1
  have f0 := frozen_of_row _ _ 0 _ _ HK.out.2.1
  have f1 := frozen_of_row _ _ 1 _ _ HK.out.2.1
  have f2 := frozen_of_row _ _ 2 _ _ HK.out.2.1
  have f3 := frozen_of_row _ _ 3 _ _ HK.out.2.1
  have HT := Lib.hid (store4B (.int .i64 r) (.int .i64 s) (.int .i64 n) (.slice p2 M.length c2) HK.out.2.1)
  go_wp2_with fail
  refine bodyPost_ret (res_tabB rfl _ _ (w.heap.size + 1) _ _ _ _ rfl HT.out.1) rfl ?_
  exact ⟨M, p2, c2, rfl, (HK.out.2.2.1.over HT.out.2 (by omega)).mono (by omega), HB.out, grown_new HK.out.2.2.2 HT.out.2 (by omega)⟩
 have hlt' : (k : Int) < (L.length : Int) := by omega
 have hk0 : (0 : Int) ≤ (k : Int) := by omega
 obtain ⟨y, hy⟩ : ∃ y, L[k]? = some y := ⟨_, List.getElem?_eq_getElem hlt⟩
 obtain ⟨-, b, off, rfl, -, hc⟩ := rw_cells K.out.rd.rd (by omega)
 obtain ⟨a0, a1⟩ := hc k y hy
 have HY := Lib.hid hy
 clear hc hy
 have hLE : Hid (M.length ≤ 1000) := Lib.hid (by have := congrArg List.length HB.out; rw [List.length_map, List.length_map, List.length_take] at this; omega)
 have hLl := hLE.out
 have hLn := HY0.out.2 y (List.mem_of_getElem? HY.out)
 go_upto_region 5 with fail
 refine region_until (S := fun w' => Hid (w5.grownBy w' none)) (fun j => j == 17 || j == 18) (by kernel_rfl) (Lib.hid (grown_drew (grown_refl _ none))) (fun hHeld => ?_)
 refine zU (i := 0) (v := ?_) rfl ?_ hHeld ?_
 rotate_left 1
 ·intro u hSu
  go_simp
  first | done | with_reducible rfl
 try simp only [Act.put, zA, zB, zC]
 refine zU (i := 1) (v := ?_) rfl ?_ hHeld ?_
 rotate_left 1
 ·intro u hSu
  go_simp
  first | done | with_reducible rfl
 try simp only [Act.put, zA, zB, zC]
 refine zU (i := 2) (v := ?_) rfl ?_ hHeld ?_
 rotate_left 1
 ·intro u hSu
  obtain ⟨t0u, t1u, t2u, t3u⟩ := row4T (kept_row K.out.bT hSu.out (by simp))
  have a0u := hSu.out.cell a0 (by simp)
  have a1u := hSu.out.cell a1 (by simp)
  go_simp
  first | done | with_reducible rfl
 try simp only [Act.put, zA, zB, zC]
 refine zU (i := 3) (v := ?_) rfl ?_ hHeld ?_
 rotate_left 1
 ·intro u hSu
  go_simp
  first | done | with_reducible rfl
 try simp only [Act.put, zA, zB, zC]
 refine zU (i := 4) (v := ?_) rfl ?_ hHeld ?_
 rotate_left 1
 ·intro u hSu
  go_simp
  first | done | with_reducible rfl
 try simp only [Act.put, zA, zB, zC]
 refine zU (i := 5) (v := ?_) rfl ?_ hHeld ?_
 rotate_left 1
 ·intro u hSu
  go_simp
  first | done | with_reducible rfl
 try simp only [Act.put, zA, zB, zC]
 refine zU (i := 6) (v := ?_) rfl ?_ hHeld ?_
 rotate_left 1
 ·intro u hSu
  obtain ⟨t0u, t1u, t2u, t3u⟩ := row4T (kept_row K.out.bT hSu.out (by simp))
  have a0u := hSu.out.cell a0 (by simp)
  have a1u := hSu.out.cell a1 (by simp)
  go_simp
  first | done | with_reducible rfl
 try simp only [Act.put, zA, zB, zC]
 refine zU (i := 8) (v := ?_) rfl ?_ hHeld ?_
 rotate_left 1
 ·intro u hSu
  go_simp
  first | done | with_reducible rfl
 try simp only [Act.put, zA, zB, zC]
 refine zU (i := 9) (v := ?_) rfl ?_ hHeld ?_
 rotate_left 1
 ·intro u hSu
  obtain ⟨t0u, t1u, t2u, t3u⟩ := row4T (kept_row K.out.bT hSu.out (by simp))
  have a0u := hSu.out.cell a0 (by simp)
  have a1u := hSu.out.cell a1 (by simp)
  go_simp
  first | done | with_reducible rfl
 try simp only [Act.put, zA, zB, zC]
 refine zU (i := 10) (v := ?_) rfl ?_ hHeld ?_
 rotate_left 1
 ·intro u hSu
  go_simp
  first | done | with_reducible rfl
 try simp only [Act.put, zA, zB, zC]
 refine zU (i := 11) (v := ?_) rfl ?_ hHeld ?_
 rotate_left 1
 ·intro u hSu
  go_simp
  first | done | with_reducible rfl
 try simp only [Act.put, zA, zB, zC]
 refine zU (i := 12) (v := ?_) rfl ?_ hHeld ?_
 rotate_left 1
 ·intro u hSu
  go_simp
  first | done | with_reducible rfl
 try simp only [Act.put, zA, zB, zC]
 refine zU (i := 13) (v := ?_) rfl ?_ hHeld ?_
 rotate_left 1
 ·intro u hSu
  obtain ⟨t0u, t1u, t2u, t3u⟩ := row4T (kept_row K.out.bT hSu.out (by simp))
  have a0u := hSu.out.cell a0 (by simp)
  have a1u := hSu.out.cell a1 (by simp)
  go_simp
  first | done | with_reducible rfl
 try simp only [Act.put, zA, zB, zC]
 refine anyU_ready (rs := [7]) (by kernel_rfl) (by simp) ?_
 refine EachU.cons (o := ⟨_, _, _, _, _, _⟩) rfl (fun Kz hK => ?_) EachU.nil
 go_simp
 refine hK.out _ _ (fun _ => hid_more hHeld (World.grownBy_alloc _ _ _)) (fun hH2 => ?_)
 clear hK Kz hHeld
 have hHeld := hH2 rfl
 clear hH2
 try simp only [Act.put, zA, zB, zC]
 refine anyU_ready (rs := [14]) (by kernel_rfl) (by simp) ?_
 refine EachU.cons (o := ⟨_, _, _, _, _, _⟩) rfl (fun Kz hK => ?_) EachU.nil
 have k0 := World.grownBy_alloc w5.drew (.cells #[] 3) none
 have hlit : (w5.drew.alloc (.cells #[] 3)).ownsRow w5.heap.size 3 1 (.slice (some ⟨w5.heap.size, 0, none⟩) 0 0) ([] : List Int).length (([] : List Int).flatMap ivF) := World.ownsRow_lit w5.drew #[] 0 (Nat.le_refl _) (by decide) rfl
 refine step_append_f ivF 1 8 (by decide) (fun _ => rfl) ivF_one 3 22 ie _ Tryz.underlying22 hie he0 he1 he2 rfl (by decide) (by rfl) _ _ (by rfl) w5.heap.size (.slice (some ⟨w5.heap.size, 0, none⟩) 0 0) [] (by rfl) hlit y.p y.nx.length y.c y.nx (by rfl) rfl (HY0.out.1 y (List.mem_of_getElem? HY.out)) _ (rdf_ints ((K.out.keep hHeld.out).rd.ok y (List.mem_of_getElem? HY.out)).rd) ((K.out.rd.ok y (List.mem_of_getElem? HY.out)).hc.1) (by simp; omega) (by simp) ?_
 intro p3 c3 w8 hown8 hg8 hat8
 simp only [List.length_nil, Nat.zero_add, List.nil_append] at hown8 hat8 ⊢
 rw [flat_ivF] at hown8
 have HN14 := Lib.hid (old_grow (grown_trans (grown_drew (grown_refl w5 none)) k0) hlit (Nat.le_refl _) hg8)
 have H14 := Lib.hid (And.intro hown8 HN14.out)
 clear hown8 hg8 hat8 k0 hlit
 refine hK.out _ _ (fun _ => HN14) (fun hH2 => ?_)
 clear hK Kz hHeld
 have hHeld := hH2 rfl
 clear hH2
 try simp only [Act.put, zA, zB, zC]
 refine zU (i := 15) (v := ?_) rfl ?_ hHeld ?_
 rotate_left 1
 ·intro u hSu
  obtain ⟨t0u, t1u, t2u, t3u⟩ := row4T (kept_row K.out.bT hSu.out (by simp))
  have a0u := hSu.out.cell a0 (by simp)
  have a1u := hSu.out.cell a1 (by simp)
  go_simp
  first | done | with_reducible rfl
 try simp only [Act.put, zA, zB, zC]
 refine anyU_ready (rs := [16]) (by kernel_rfl) (by simp) ?_
 refine EachU.cons (o := ⟨_, _, _, _, _, _⟩) rfl (fun Kz hK => ?_) EachU.nil
 have K8 := Lib.hid (K.out.keep hHeld.out)
 go_simp
 refine hK.out _ _ (fun _ => hid_more hHeld (World.grownBy_alloc _ _ _)) (fun hH2 => ?_)
 clear hK Kz hHeld
 have hHeld := hH2 rfl
 clear hH2
 try simp only [Act.put, zA, zB, zC]
 refine anyU_ready (rs := [17]) (by kernel_rfl) (by simp) ?_
 refine EachU.cons (o := ⟨_, _, _, _, _, _⟩) rfl (fun Kz hK => ?_) EachU.nil
 refine step_append_lies _ (by rfl) _ _ 23 (by rfl) (w.heap.size + 2) 80 ii (.agg #[.int .i64 0, .slice none 0 0]) 2 32 Tryz.underlying23 hii hi0 hi1 hi2 rfl (by decide) (.slice p2 M.length c2) M.length (M.flatMap rwC) (by rfl) (K8.out.own.own.alloc _) ⟨w8.heap.size, 0, none⟩ 1 1 (rwC ⟨y.id, y.nx, p3, c3⟩) (by rfl) (by rfl) (rwB_row w8 ⟨y.id, y.nx, p3, c3⟩ _) (rw_one ⟨y.id, y.nx, p3, c3⟩) (by decide) (by unfold maxLen; omega) (by omega) (by have := K8.out.lo; simp; omega) _ rfl ?_
 intro g cap w9 hown9 hgrow hat hlt9
 have ga := World.grownBy_alloc w8 (.cells #[.int .i64 y.id, .slice p3 y.nx.length c3] 80) none
 have hv : (Value.slice (some ⟨g, 0, none⟩) (M.length + 1) cap).ownBlock = (Value.slice p2 M.length c2).ownBlock ∨ ∀ b, some b = (Value.slice (some ⟨g, 0, none⟩) (M.length + 1) cap).ownBlock → (w8.alloc (.cells #[.int .i64 y.id, .slice p3 y.nx.length c3] 80)).heap.size ≤ b := by
  rcases hat with h | h
  ·exact Or.inl h.symm
  ·refine Or.inr fun b e => ?_
   have e2 : some b = some g := e
   have := Option.some.inj e2
   rw [this, h]
   exact Nat.le_refl _
 have K9 := K.out.push (x := ⟨y.id, y.nx, p3, c3⟩) (v' := .slice (some ⟨g, 0, none⟩) (M.length + 1) cap) (grown_trans H14.out.2 ga) (own_keptN H14.out.1 ga) (by rw [List.length_append, List.flatMap_append]; simpa [rwC] using hown9) hgrow hv
 have HB2 : Hid ((M ++ [(⟨y.id, y.nx, p3, c3⟩ : Rw)]).map rw0 = (L.take (k + 1)).map rw0) := Lib.hid (by rw [List.take_add_one, HY.out, List.map_append, List.map_append, HB.out]; rfl)
 have HLL : Hid ((M ++ [(⟨y.id, y.nx, p3, c3⟩ : Rw)]).length = M.length + 1) := Lib.hid (by rw [List.length_append]; rfl)
 have K9 := Lib.hid K9
 clear hown9 hgrow hat hlt9 ga hv K8 H14
 refine hK.out _ _ (fun h => by cases h) (fun _ => ?_)
 clear hK Kz
 try simp only [Act.put, zA, zB, zC]
 refine anyU_ready (rs := [18]) (by kernel_rfl) (by simp) ?_
 refine EachU.cons (o := ⟨_, _, _, _, _, _⟩) rfl (fun Kz hK => ?_) EachU.nil
 go_simp
 refine hK.out _ _ (fun h => by cases h) (fun _ => ?_)
 clear hK Kz
 try simp only [Act.put, zA, zB, zC]
 refine anyU_done (by kernel_rfl) ?_ _
 clear hHeld t0 t1 t2 t3 a0 a1 K
 go_wp2_with fail
 exact ⟨⟨k + 1, M ++ [⟨y.id, y.nx, p3, c3⟩], some ⟨g, 0, none⟩, cap, by omega, by rw [HLL.out], congrArg _ (by omega), HB2, by rw [HLL.out]; exact K9⟩, by simp only [RowKit.intOf]; omega⟩
end Go.Proofs.YtpogblengagpaaaGreatDoor

/- The tape's orders. -/
namespace Go.Proofs.YtpogblengagpaaaGreatDoor
set_option maxRecDepth 100000
open Go.RowKit Bs
def Ord (l : List Nat) (i : Nat) : Prop := l.length = i ∧ l.Nodup ∧ ∀ x ∈ l, x < i
theorem ord_next {l : List Nat} {i k : Nat} (h : Ord l i) : Ord (l.take k ++ [i] ++ l.drop k) (i + 1) := by
 obtain ⟨h1, h2, h3⟩ := h
 refine ⟨?_, ?_, ?_⟩
 ·simp; omega
 ·have e : (l.take k ++ [i] ++ l.drop k).Perm (i :: l) := by
   rw [List.append_assoc]
   have e2 : (l.take k ++ ([i] ++ l.drop k)).Perm (([i] ++ l.drop k) ++ l.take k) := List.perm_append_comm
   refine e2.trans ?_
   rw [List.append_assoc]
   show (i :: (l.drop k ++ l.take k)).Perm (i :: l)
   refine List.Perm.cons i ?_
   refine List.perm_append_comm.trans ?_
   rw [List.take_append_drop]
  rw [e.nodup_iff, List.nodup_cons]
  exact ⟨fun hm => by have := h3 i hm; omega, h2⟩
 ·intro x hx
  rw [List.mem_append, List.mem_append] at hx
  rcases hx with (hx | hx) | hx
  ·have := h3 x (List.mem_of_mem_take hx); omega
  ·have : x = i := by simpa using hx
   omega
  ·have := h3 x (List.mem_of_mem_drop hx); omega
def OrdRel (a : Nat) (W : World) (i : Nat) (v : Value) (w' : World) : Prop := ∃ l, Ord l i ∧ w'.ownsRow W.heap.size 3 1 v i (l.map zv) ∧ (i = 0 → v = .slice none 0 0) ∧ St a W w'
def OrdPost (a : Nat) (n : Nat) (W : World) (e : Ending) (w' : World) : Prop := ∃ v, e = .returned v ∧ OrdRel a W n v w'
set_option maxHeartbeats 3200000 in
theorem order_any (a n : Nat) (hn : n ≤ 1000) (w : World) (hT : Tp w a) :
  Calls Tryz.prog 58 #[.pointer (some ⟨a, 0, none⟩), .int .i64 (n : Int)] w fun e w' => OrdPost a n w e w' := by
 have ha := hT.lt
 have hS0 : Hid (OrdRel a w 0 (.slice none 0 0) w) := Lib.hid ⟨[], ⟨rfl, List.nodup_nil, fun x hx => by cases hx⟩, World.ownsRow_nil _ _ _ _, fun _ => rfl, grown_refl _ _, hT⟩
 clear hT
 go_enter Tryz.func58, Tryz.ntmps58
 go_wp2_with fail
 go_loopw [5, 6] (fun v i wr => ∃ j : Nat, j ≤ n ∧ i = .int .i64 (j : Int) ∧ OrdRel a w j v wr) (fun _ i _ => (n - (RowKit.intOf i).toNat))
 case atStart => exact ⟨0, Nat.zero_le _, rfl, hS0.out⟩
 case round =>
  obtain ⟨j, hj, rfl, hR⟩ := hrel
  have HR := Lib.hid hR
  clear hR hS0
  by_cases hlt : j < n
  ·obtain ⟨l, hO, hown, hv0, hSt⟩ := HR.out
   have HO := Lib.hid hO
   have hT := hSt.2
   have HOWN := Lib.hid hown
   have HST := Lib.hid hSt
   clear hO hown hSt HR
   go_wp2_with fail
   refine (next_any a ((j : Int) + 1) (by unfold I64; omega) _ hT).mono ?_
   rintro e w3 ⟨r, rfl, hr, hs⟩
   obtain ⟨k, rfl⟩ := Int.eq_ofNat_of_zero_le hr.1
   have hkj : k ≤ j := by have := hr.2.1 (by omega); omega
   have HS3 := Lib.hid (HST.out.trans hs)
   have HOWN3 := Lib.hid (own_kept ha HOWN.out hs.1)
   clear hr hs hT HST HOWN
   by_cases hj0 : j = 0
   ·subst hj0
    obtain rfl : k = 0 := by omega
    obtain rfl := hv0 rfl
    have hl : l = [] := List.eq_nil_of_length_eq_zero HO.out.1
    clear hv0
    obtain ⟨i0, hi, hz0, hz1, hz2⟩ := info_parts info_int
    have hsz3 := Lib.hid HS3.out.1.size
    go_wp2_with (first
     | (at_builtin; refine wpList_append_own_none rfl _ _ 22 rfl w3.heap.size 3 i0 1 Tryz.underlying22 hi (.slice none 0 0) 0 [] rfl (World.ownsRow_nil _ _ _ _) rfl ?_)
     | (at_builtin; refine wpList_append_ints rfl _ _ rfl w3.heap.size (.slice none 0 0) 0 [] rfl (World.ownsRow_nil _ _ _ _) (some ⟨w3.heap.size, 0, none⟩) 1 1 [0] rfl rfl (by intro h; cases h) (by intro ad h; obtain rfl := Option.some.inj h; exact cell_one _ _ _) (by simp) (by simp) ?_; intro v2 w5 hown2 hg2; have HOWN2 := Lib.hid hown2; have HG2 := Lib.hid (grown_trans (World.grownBy_alloc w3 _ none) hg2); clear hown2 hg2)
     | (at_builtin; refine wpList_append_own_none rfl _ _ 22 rfl w3.heap.size 3 i0 1 Tryz.underlying22 hi v2 1 [zv 0] rfl HOWN2.out rfl ?_))
    go_roundw
    case rel =>
     refine ⟨1, by omega, rfl, [0], ⟨rfl, by simp, by simp⟩, ?_, by omega, ?_⟩
     ·exact HOWN2.out.mono hsz3.out
     ·exact ⟨grown_trans HS3.out.1 (grown_none HG2.out _), HS3.out.2.keep HG2.out⟩
    case measure => simp [RowKit.intOf]; omega
   ·have hj1 : 0 < j := by omega
    obtain ⟨g, cap, rfl, hgb⟩ := own_form HOWN3.out hj1
    obtain ⟨hcap1, hcap2⟩ := own_cap HOWN3.out
    have hcap3 : cap ≤ 9223372036854775807 := by unfold maxLen at hcap2; omega
    have hgl := (HOWN3.out.lt g rfl).2
    have hll := HO.out.1
    have HLL := Lib.hid hll
    have hkc : k ≤ cap := by omega
    have hkl : (l.take k).length = k := by rw [List.length_take]; omega
    have hdl : (l.drop k).length = j - k := by rw [List.length_drop]; omega
    have HKL := Lib.hid hkl
    have HDL := Lib.hid hdl
    have hj9 : j ≤ 1000 := by omega
    have hsz3 := Lib.hid HS3.out.1.size
    have N1 : Hid (∀ ad, some (⟨g, 0, none⟩ : Addr) = some ad → ∀ i u, ((l.take k).map zv)[i]? = some u → w3.cell? (ad.add i) = some u) := by
     refine Lib.hid ?_
     intro ad h i u hu
     obtain rfl := Option.some.inj h
     refine HOWN3.out.cells rfl i u ?_
     rw [List.map_take, List.getElem?_take] at hu
     split at hu
     ·exact hu
     ·cases hu
    clear hll hkl hdl hv0 hcap2
    generalize hT1 : l.take k = t1 at *
    generalize hT2 : l.drop k = t2 at *
    have HT1 := Lib.hid hT1
    have HT2 := Lib.hid hT2
    clear hT1
    by_cases hkj : k < j
    ·have hkcap : k < cap := by omega
     have news : Hid (∀ (W : World) c, W.ownsRow w.heap.size 3 1 (.slice (some ⟨g, 0, none⟩) j c) j (l.map zv) → ∀ i u, (t2.map zv)[i]? = some u → W.cell? ⟨g, k + i, none⟩ = some u) := by
      refine Lib.hid ?_
      intro W c h i u hu
      rw [← hT2, List.map_drop, List.getElem?_drop] at hu
      have := h.cells rfl (k + i) u hu
      rw [add_plain, Nat.zero_add] at this
      exact this
     clear hT2
     go_wp2_with (first
      | (at_builtin; refine wpList_append_ints rfl _ _ rfl w3.heap.size (.slice none 0 0) 0 [] rfl (World.ownsRow_nil _ _ _ _) (some ⟨g, 0, none⟩) k cap t1 rfl HKL.out.symm (by intro h; cases h) N1.out (by rw [HKL.out]; omega) (Nat.le_refl _) ?_; intro v1 w4 hown1 hg1; rw [Nat.zero_add, List.nil_append, HKL.out] at hown1; have HOWN1 := Lib.hid hown1; have HO4 := Lib.hid (own_apart HOWN3.out (World.ownsRow_nil w3 w3.heap.size 3 1) hgl hg1); have HS4 := Lib.hid (HS3.out.own_grow (World.ownsRow_nil w3 w3.heap.size 3 1) hsz3.out ha hg1); have HZ4 := Lib.hid hg1.size; clear hown1 hg1)
      | (at_builtin; refine wpList_append_ints rfl _ _ rfl w3.heap.size v1 k t1 rfl (HOWN1.out.alloc _) (some ⟨w4.heap.size, 0, none⟩) 1 1 [j] rfl rfl (by intro h; cases h) (by intro ad h; obtain rfl := Option.some.inj h; exact cell_one _ _ _) (by simp; omega) (by have := HZ4.out; simp; omega) ?_; intro v2 w5 hown2 hg2; have HOWN2 : Hid (w5.ownsRow w3.heap.size 3 1 v2 (k + 1) ((t1 ++ [j]).map zv)) := Lib.hid hown2; have HO5 := Lib.hid (own_apart (HO4.out.alloc _) (HOWN1.out.alloc _) hgl hg2); have HS5 := Lib.hid ((HS4.out.none_ (World.grownBy_alloc w4 _ none)).own_grow (HOWN1.out.alloc _) hsz3.out ha hg2); have HZ5 : Hid (w3.heap.size ≤ w5.heap.size) := Lib.hid (Nat.le_trans HZ4.out (Nat.le_trans (by simp) hg2.size)); clear hown2 hg2)
      | (at_builtin; refine wpList_append_ints rfl _ _ rfl w3.heap.size v2 (k + 1) (t1 ++ [j]) rfl HOWN2.out _ _ _ t2 rfl (by have := HDL.out; omega) (by intro h; cases h) (by intro ad h; obtain rfl := Option.some.inj h; intro i u hu; rw [add_plain]; exact news.out w5 cap HO5.out i u hu) (by have := HDL.out; omega) HZ5.out ?_; intro v3 w6 hown3 hg3; have HOWN6 := Lib.hid hown3; have HS6 := Lib.hid (HS5.out.own_grow HOWN2.out hsz3.out ha hg3); clear hown3 hg3))
     go_roundw
     case rel =>
      refine ⟨j + 1, by omega, by go_num, l.take k ++ [j] ++ l.drop k, ord_next HO.out, ?_, by omega, HS6.out⟩
      have h6 := HOWN6.out.mono hsz3.out
      rw [← HT1.out, ← HT2.out, show k + 1 + (l.drop k).length = j + 1 by rw [List.length_drop, HLL.out]; omega] at h6
      exact h6
     case measure => simp [RowKit.intOf]; omega
    ·obtain rfl : k = j := by omega
     have ht2 : t2 = [] := by
      rw [← hT2]
      exact List.drop_of_length_le (Nat.le_of_eq HLL.out)
     clear hT2
     have HN2 : Hid (∀ (i : Nat) (u : Value), (t2.map zv)[i]? = some u → False) := Lib.hid (by intro i u hu; rw [ht2] at hu; simp at hu)
     clear ht2
     by_cases hcj : k = cap
     ·subst hcj
      go_wp2_with (first
       | (at_builtin; refine wpList_append_ints rfl _ _ rfl w3.heap.size (.slice none 0 0) 0 [] rfl (World.ownsRow_nil _ _ _ _) (some ⟨g, 0, none⟩) k k t1 rfl HKL.out.symm (by intro h; cases h) N1.out (by rw [HKL.out]; omega) (Nat.le_refl _) ?_; intro v1 w4 hown1 hg1; rw [Nat.zero_add, List.nil_append, HKL.out] at hown1; have HOWN1 := Lib.hid hown1; have HO4 := Lib.hid (own_apart HOWN3.out (World.ownsRow_nil w3 w3.heap.size 3 1) hgl hg1); have HS4 := Lib.hid (HS3.out.own_grow (World.ownsRow_nil w3 w3.heap.size 3 1) hsz3.out ha hg1); have HZ4 := Lib.hid hg1.size; clear hown1 hg1)
       | (at_builtin; refine wpList_append_ints rfl _ _ rfl w3.heap.size v1 k t1 rfl (HOWN1.out.alloc _) (some ⟨w4.heap.size, 0, none⟩) 1 1 [k] rfl rfl (by intro h; cases h) (by intro ad h; obtain rfl := Option.some.inj h; exact cell_one _ _ _) (by simp; omega) (by have := HZ4.out; simp; omega) ?_; intro v2 w5 hown2 hg2; have HOWN2 : Hid (w5.ownsRow w3.heap.size 3 1 v2 (k + 1) ((t1 ++ [k]).map zv)) := Lib.hid hown2; have HO5 := Lib.hid (own_apart (HO4.out.alloc _) (HOWN1.out.alloc _) hgl hg2); have HS5 := Lib.hid ((HS4.out.none_ (World.grownBy_alloc w4 _ none)).own_grow (HOWN1.out.alloc _) hsz3.out ha hg2); have HZ5 : Hid (w3.heap.size ≤ w5.heap.size) := Lib.hid (Nat.le_trans HZ4.out (Nat.le_trans (by simp) hg2.size)); clear hown2 hg2)
       | (at_builtin; refine wpList_append_ints rfl _ _ rfl w3.heap.size v2 (k + 1) (t1 ++ [k]) rfl HOWN2.out _ _ _ t2 rfl (by have := HDL.out; omega) (by intro h; cases h) (by intro ad h i u hu; exact (HN2.out i u hu).elim) (by have := HDL.out; omega) HZ5.out ?_; intro v3 w6 hown3 hg3; have HOWN6 := Lib.hid hown3; have HS6 := Lib.hid (HS5.out.own_grow HOWN2.out hsz3.out ha hg3); clear hown3 hg3))
      go_roundw
      case rel =>
       refine ⟨k + 1, by omega, by go_num, l.take k ++ [k] ++ l.drop k, ord_next HO.out, ?_, by omega, HS6.out⟩
       have h6 := HOWN6.out.mono hsz3.out
       rw [← HT1.out, ← HT2.out, show k + 1 + (l.drop k).length = k + 1 by rw [List.length_drop, HLL.out]; omega] at h6
       exact h6
      case measure => simp [RowKit.intOf]; omega
     ·have hkcap : k < cap := by omega
      go_wp2_with (first
       | (at_builtin; refine wpList_append_ints rfl _ _ rfl w3.heap.size (.slice none 0 0) 0 [] rfl (World.ownsRow_nil _ _ _ _) (some ⟨g, 0, none⟩) k cap t1 rfl HKL.out.symm (by intro h; cases h) N1.out (by rw [HKL.out]; omega) (Nat.le_refl _) ?_; intro v1 w4 hown1 hg1; rw [Nat.zero_add, List.nil_append, HKL.out] at hown1; have HOWN1 := Lib.hid hown1; have HO4 := Lib.hid (own_apart HOWN3.out (World.ownsRow_nil w3 w3.heap.size 3 1) hgl hg1); have HS4 := Lib.hid (HS3.out.own_grow (World.ownsRow_nil w3 w3.heap.size 3 1) hsz3.out ha hg1); have HZ4 := Lib.hid hg1.size; clear hown1 hg1)
       | (at_builtin; refine wpList_append_ints rfl _ _ rfl w3.heap.size v1 k t1 rfl (HOWN1.out.alloc _) (some ⟨w4.heap.size, 0, none⟩) 1 1 [k] rfl rfl (by intro h; cases h) (by intro ad h; obtain rfl := Option.some.inj h; exact cell_one _ _ _) (by simp; omega) (by have := HZ4.out; simp; omega) ?_; intro v2 w5 hown2 hg2; have HOWN2 : Hid (w5.ownsRow w3.heap.size 3 1 v2 (k + 1) ((t1 ++ [k]).map zv)) := Lib.hid hown2; have HO5 := Lib.hid (own_apart (HO4.out.alloc _) (HOWN1.out.alloc _) hgl hg2); have HS5 := Lib.hid ((HS4.out.none_ (World.grownBy_alloc w4 _ none)).own_grow (HOWN1.out.alloc _) hsz3.out ha hg2); have HZ5 : Hid (w3.heap.size ≤ w5.heap.size) := Lib.hid (Nat.le_trans HZ4.out (Nat.le_trans (by simp) hg2.size)); clear hown2 hg2)
       | (at_builtin; refine wpList_append_ints rfl _ _ rfl w3.heap.size v2 (k + 1) (t1 ++ [k]) rfl HOWN2.out _ _ _ t2 rfl (by have := HDL.out; omega) (by intro h; cases h) (by intro ad h i u hu; exact (HN2.out i u hu).elim) (by have := HDL.out; omega) HZ5.out ?_; intro v3 w6 hown3 hg3; have HOWN6 := Lib.hid hown3; have HS6 := Lib.hid (HS5.out.own_grow HOWN2.out hsz3.out ha hg3); clear hown3 hg3))
      go_roundw
      case rel =>
       refine ⟨k + 1, by omega, by go_num, l.take k ++ [k] ++ l.drop k, ord_next HO.out, ?_, by omega, HS6.out⟩
       have h6 := HOWN6.out.mono hsz3.out
       rw [← HT1.out, ← HT2.out, show k + 1 + (l.drop k).length = k + 1 by rw [List.length_drop, HLL.out]; omega] at h6
       exact h6
      case measure => simp [RowKit.intOf]; omega
  ·obtain rfl : j = n := by omega
   go_wp2_with fail
   go_ret
   exact ⟨_, rfl, HR.out⟩
end Go.Proofs.YtpogblengagpaaaGreatDoor

/- The tape's plans: the mathematics. -/
namespace Go.Proofs.YtpogblengagpaaaGreatDoor
set_option maxRecDepth 100000
open Go.RowKit Bs
def ridR (R : List Rt) (k : Nat) : Int := (R[k]?.map Rt.id).getD 0
theorem ridR_at {R : List Rt} {k : Nat} {r : Rt} (h : R[k]? = some r) : ridR R k = r.id := by unfold ridR; rw [h]; rfl
structure PlE (R : List Rt) (O : List Nat) (i : Nat) (id : Int) (E : List Ed) : Prop where
 sub : (E.map Ed.r).Sublist ((O.take i).map (ridR R))
 ids : ∀ e ∈ E, 1 ≤ e.i ∧ e.i ≤ id ∧ e.i ≤ 256
 asc : E.Pairwise (fun x y => x.i < y.i)
theorem PlE.nil (R : List Rt) (O : List Nat) : PlE R O 0 0 [] := ⟨List.nil_sublist _, fun e h => (by cases h), List.Pairwise.nil⟩
theorem take_map_succ {O : List Nat} {i k : Nat} (hk : O[i]? = some k) (f : Nat → Int) : (O.take (i + 1)).map f = (O.take i).map f ++ [f k] := by
 rw [List.take_add_one, hk, List.map_append]; rfl
theorem PlE.skip {R : List Rt} {O : List Nat} {i : Nat} {id : Int} {E : List Ed} (h : PlE R O i id E) : PlE R O (i + 1) id E := by
 refine ⟨h.sub.trans ?_, h.ids, h.asc⟩
 exact List.Sublist.map _ (List.take_sublist_take_left (by omega))
theorem PlE.more {R : List Rt} {O : List Nat} {i : Nat} {id id2 : Int} {E : List Ed} (h : PlE R O i id E) (h2 : id ≤ id2) : PlE R O i id2 E :=
 ⟨h.sub, fun e he => by have := h.ids e he; omega, h.asc⟩
theorem PlE.add {R : List Rt} {O : List Nat} {i k : Nat} {id id2 r : Int} {E : List Ed} (h : PlE R O i id E) (hk : O[i]? = some k) (hr : ridR R k = r) (h0 : 0 ≤ id) (h1 : id < id2) (h2 : id2 ≤ 256) : PlE R O (i + 1) id2 (E ++ [⟨r, id2⟩]) := by
 refine ⟨?_, fun e he => ?_, ?_⟩
 ·rw [List.map_append, take_map_succ hk, hr]
  exact List.Sublist.append h.sub (List.Sublist.refl _)
 ·rcases List.mem_append.1 he with he | he
  ·have := h.ids e he; omega
  ·obtain rfl : e = ⟨r, id2⟩ := by simpa using he
   exact ⟨by show 1 ≤ id2; omega, Int.le_refl _, h2⟩
 ·refine List.pairwise_append.2 ⟨h.asc, List.pairwise_singleton _ _, fun x hx y hy => ?_⟩
  obtain rfl : y = ⟨r, id2⟩ := by simpa using hy
  have := h.ids x hx
  show x.i < id2
  omega
theorem PlE.len {R : List Rt} {O : List Nat} {i : Nat} {id : Int} {E : List Ed} (h : PlE R O i id E) : E.length ≤ i := by
 have := h.sub.length_le
 rw [List.length_map, List.length_map, List.length_take] at this
 omega
theorem rep_noT {L : List Int} (h : ∀ k x, L[k]? = some x → x ∉ L.take k) : repI L = false := by
 unfold repI
 rw [List.any_eq_false]
 intro k hk
 have hk := List.mem_range.1 hk
 rw [List.getD_eq_getElem?_getD, List.getElem?_eq_getElem hk]
 simpa using h k _ (List.getElem?_eq_getElem hk)
theorem repI_nodup {L : List Int} (h : L.Nodup) : repI L = false := by
 refine rep_noT fun k x hx hm => ?_
 obtain ⟨hk, e⟩ := List.getElem?_eq_some_iff.1 hx
 obtain ⟨j, hj, hj2⟩ := List.mem_iff_getElem.1 hm
 rw [List.length_take] at hj
 rw [List.getElem_take] at hj2
 have := (List.nodup_iff_pairwise_ne.1 h)
 have h3 := List.pairwise_iff_getElem.1 this j k (by omega) hk (by omega)
 exact h3 (by rw [hj2, e])
theorem ascR_nodup : ∀ R : List Rt, ascB ltR R = true → R.Pairwise (fun x y => x.id < y.id)
 | [], _ => List.Pairwise.nil
 | [a], _ => List.pairwise_singleton _ _
 | a :: b :: t, h => by
  rw [ascB, Bool.and_eq_true] at h
  have ih := ascR_nodup (b :: t) h.2
  have hab : a.id < b.id := of_decide_eq_true h.1
  refine List.pairwise_cons.2 ⟨fun y hy => ?_, ih⟩
  rcases List.mem_cons.1 hy with rfl | hy
  ·exact hab
  ·have := (List.pairwise_cons.1 ih).1 y hy; omega
theorem chk0 {R : List Rt} {L : List Lk} (h : chk R L = 0) : R.length ≤ 24 ∧ R.any wrId = false ∧ ascB ltR R = true := by
 unfold chk at h
 split at h
 ·cases h
 ·rename_i h1
  split at h
  ·cases h
  ·rename_i h2
   split at h
   ·cases h
   ·rename_i h3
    exact ⟨by omega, by simpa using h2, by simpa using h3⟩
theorem PlE.valid {R : List Rt} {L : List Lk} {O : List Nat} {i : Nat} {id : Int} {E : List Ed} (h : PlE R O i id E) (hc : chk R L = 0) (hO : Ord O R.length) {s n : Int} (hs : inV s 0 7 = true) (hn : vl n = true) :
  vPl s n E = true ∧ E.length ≤ R.length ∧ ∀ e ∈ E, hasR R e.r = true := by
 obtain ⟨c1, c2, c3⟩ := chk0 hc
 have hmem : ∀ e ∈ E, ∃ r ∈ R, r.id = e.r := fun e he => by
  have h1 := h.sub.subset (List.mem_map.2 ⟨e, he, rfl⟩)
  obtain ⟨k, hk, hke⟩ := List.mem_map.1 h1
  have hk2 := hO.2.2 k (List.mem_of_mem_take hk)
  refine ⟨R[k], List.getElem_mem hk2, ?_⟩
  rw [← hke, ridR_at (List.getElem?_eq_getElem hk2)]
 have hnd : (E.map Ed.r).Nodup := by
  refine List.Nodup.sublist (h.sub.trans (List.Sublist.map _ (List.take_sublist i O))) ?_
  rw [List.Nodup, List.pairwise_map]
  refine List.Pairwise.imp_of_mem (fun {x y} hx hy hne => ?_) hO.2.1
  have hx := hO.2.2 x hx
  have hy := hO.2.2 y hy
  rw [ridR_at (List.getElem?_eq_getElem hx), ridR_at (List.getElem?_eq_getElem hy)]
  have hp := List.pairwise_iff_getElem.1 (ascR_nodup R c3)
  rcases Nat.lt_or_gt_of_ne hne with hlt | hlt
  ·have := hp x y hx hy hlt; omega
  ·have := hp y x hy hx hlt; omega
 have hlen : E.length ≤ R.length := by
  have h1 := (h.sub.trans (List.Sublist.map _ (List.take_sublist i O))).length_le
  rw [List.length_map, List.length_map, hO.1] at h1
  exact h1
 refine ⟨?_, hlen, fun e he => ?_⟩
 ·unfold vPl
  rw [hs, hn, repI_nodup hnd, pair_ascE E h.asc, decide_eq_true (show E.length ≤ 24 by omega)]
  have hw : E.any wrE = false := by
   rw [List.any_eq_false]
   intro e he
   obtain ⟨r, hr, hre⟩ := hmem e he
   have h1 := any_mem c2 hr
   have h2 := h.ids e he
   unfold wrId at h1
   rw [hre] at h1
   unfold wrE inV
   rw [decide_eq_true (show 1 ≤ e.i ∧ e.i ≤ 256 by omega)]
   have h3 : decide (1 ≤ e.r ∧ e.r ≤ 99) = true := by
    cases hh : decide (1 ≤ e.r ∧ e.r ≤ 99)
    ·rw [hh] at h1; cases h1
    ·rfl
   rw [h3]; simp
  rw [hw]; rfl
 ·obtain ⟨r, hr, hre⟩ := hmem e he
  exact List.any_eq_true.2 ⟨r, hr, decide_eq_true hre⟩
end Go.Proofs.YtpogblengagpaaaGreatDoor

/- tables: what build makes is valid. -/
namespace Go.Proofs.YtpogblengagpaaaGreatDoor
set_option maxRecDepth 100000
open Go.RowKit Bs
theorem price_pos {R : List Rt} {L : List Lk} (h : okT R L = true) {a b : Int} (hp : (priceV L a b).2 = true) : 1 ≤ (priceV L a b).1 := by
 unfold priceV at hp ⊢
 cases hf : L.findSome? (priceB a b) with
 | none => rw [hf] at hp; cases hp
 | some c =>
  obtain ⟨l, hl, hc⟩ := List.exists_of_findSome?_eq_some hf
  have hn := List.any_eq_false.1 (okT_all h).nm l hl
  unfold wrNum at hn
  simp only [Bool.not_eq_true, Bool.not_eq_false', decide_eq_true_eq] at hn
  unfold priceB at hc
  split at hc
  ·have := Option.some.inj hc; show 1 ≤ c; have := hn.1; omega
  ·split at hc
   ·have := Option.some.inj hc; show 1 ≤ c; have := hn.2.1; omega
   ·cases hc
theorem st_lt {R : List Rt} {L : List Lk} {D : Int → Int} (h : okT R L = true) {a b : Int} (hb : b ∈ stV R L D a) : atV R D b < atV R D a := by
 unfold stV at hb
 split at hb
 ·cases hb
 ·obtain ⟨h1, h2⟩ := List.mem_filter.1 hb
  unfold okS at h2
  rw [Bool.and_eq_true] at h2
  have h3 := of_decide_eq_true h2.2
  unfold nearR at h1
  obtain ⟨r, hr, rfl⟩ := List.mem_map.1 h1
  have := price_pos h (List.mem_filter.1 hr).2
  omega
theorem hop_lt {R : List Rt} {L : List Lk} {D : Int → Int} (h : okT R L = true) {x y : Int} (hy : HopM R L D x y) : atV R D y < atV R D x := by
 obtain ⟨s, hs, hy, -⟩ := hy
 have h1 := hs (fun a => atV R D a ≤ atV R D x) (Int.le_refl _) (fun a b ha hb _ => by have := st_lt h hb; omega)
 have h2 := st_lt h hy
 omega
theorem NxB.ok {R : List Rt} {L0 : List Lk} {ro r : Int} {X : List Int} (h : NxB R L0 ro r X) (hok : okT R L0 = true) (hro : ro ∈ ids R) : X.Pairwise (· < ·) ∧ (∀ y ∈ X, y ∈ ids R) ∧ (1 < X.length → ro ∉ X) := by
 unfold NxB at h
 split at h
 ·subst h
  exact ⟨List.pairwise_singleton _ _, fun y hy => by rw [List.mem_singleton.1 hy]; exact hro, fun h => absurd h (by show ¬ 1 < 1; omega)⟩
 ·split at h
  ·refine ⟨h.1, h.2.1, fun _ hm => ?_⟩
   have h3 := h.2.2
   unfold HopsIs at h3
   split at h3
   ·have := hop_lt hok ((h3 ro).1 hm); omega
   ·subst h3; cases hm
  ·subst h
   exact ⟨List.Pairwise.nil, fun y hy => (by cases hy), fun _ hm => (by cases hm)⟩
theorem bldM_congr {R : List Rt} {L0 : List Lk} {ro : Int} {E : List Ed} {L M : List Rw} (h : BldM R L0 ro E L) (hm : M.map rw0 = L.map rw0) : BldM R L0 ro E M := by
 have hl : M.length = L.length := by have := congrArg List.length hm; simpa using this
 refine ⟨hl.trans h.1, fun i e x he hx => ?_⟩
 have h1 : (M.map rw0)[i]? = some (rw0 x) := by rw [List.getElem?_map, hx]; rfl
 rw [hm, List.getElem?_map] at h1
 cases hy : L[i]? with
 | none => rw [hy] at h1; cases h1
 | some y =>
  rw [hy] at h1
  have h2 : rw0 y = rw0 x := Option.some.inj h1
  have h3 : y.id = x.id := congrArg Prod.fst h2
  have h4 : y.nx = x.nx := congrArg Prod.snd h2
  have := h.2 i e y he hy
  rw [← h3, ← h4]; exact this
theorem asc_ofW {α : Type} {f : α → α → Bool} : ∀ l : List α, l.Pairwise (fun a b => f a b = true) → ascB f l = true
 | [], _ => rfl
 | [a], _ => rfl
 | a :: b :: t, h => by
  have h1 := List.pairwise_cons.1 h
  rw [ascB, Bool.and_eq_true]
  exact ⟨h1.1 b (by simp), asc_ofW (b :: t) h1.2⟩
theorem asc_pairT : ∀ E : List Ed, ascB ltE E = true → E.Pairwise (fun x y => x.i < y.i)
 | [], _ => List.Pairwise.nil
 | [a], _ => List.pairwise_singleton _ _
 | a :: b :: t, h => by
  rw [ascB, Bool.and_eq_true] at h
  have ih := asc_pairT (b :: t) h.2
  have hab : a.i < b.i := of_decide_eq_true h.1
  refine List.pairwise_cons.2 ⟨fun y hy => ?_, ih⟩
  rcases List.mem_cons.1 hy with rfl | hy
  ·exact hab
  ·have := (List.pairwise_cons.1 ih).1 y hy; omega
theorem ids_inT {R : List Rt} {L0 : List Lk} (hok : okT R L0 = true) {y : Int} (hy : y ∈ ids R) : 1 ≤ y ∧ y ≤ 99 := by
 obtain ⟨r, hr, rfl⟩ := List.mem_map.1 hy
 have := List.any_eq_false.1 (okT_all hok).id r hr
 unfold wrId at this
 simpa using this
theorem tab_valid {R : List Rt} {L0 : List Lk} {ro s n : Int} {E : List Ed} {M : List Rw} (hB : BldM R L0 ro E M) (hok : okT R L0 = true) (hp : vPl s n E = true) (hro : ro ∈ ids R) : ckT ro s n M = 0 := by
 have hv := hp
 unfold vPl at hv
 simp only [Bool.and_eq_true, Bool.not_eq_true', decide_eq_true_eq, Bool.or_eq_true] at hv
 obtain ⟨⟨⟨⟨⟨v1, v2⟩, v3⟩, v4⟩, v5⟩, -⟩ := hv
 have hat : ∀ x ∈ M, ∃ e ∈ E, x.id = e.i ∧ NxB R L0 ro e.r x.nx := fun x hx => by
  obtain ⟨i, hi, rfl⟩ := List.getElem_of_mem hx
  have hi2 : i < E.length := by have := hB.1; omega
  exact ⟨E[i], List.getElem_mem hi2, hB.2 i E[i] M[i] (List.getElem?_eq_getElem hi2) (List.getElem?_eq_getElem hi)⟩
 have hE : ∀ e ∈ E, 1 ≤ e.i ∧ e.i ≤ 256 := fun e he => by
  have := List.any_eq_false.1 v4 e he
  unfold wrE inV at this
  simp only [Bool.not_eq_true, Bool.not_eq_false', Bool.and_eq_true, decide_eq_true_eq] at this
  exact this.2
 have hro2 := ids_inT hok hro
 have hnd : ∀ x ∈ M, x.nx.length ≤ 24 := fun x hx => by
  obtain ⟨e, he, -, h2⟩ := hat x hx
  obtain ⟨p1, p2, -⟩ := h2.ok hok hro
  have := nodup_leH x.nx (ids R) (p1.imp (fun h => by omega)) p2
  rw [ids_len] at this
  have := (okT_len hok).1
  omega
 have c1 : hdT ro s n M = false := by
  unfold hdT
  rw [Bool.not_eq_false']
  simp only [Bool.and_eq_true, Bool.or_eq_true, decide_eq_true_eq]
  refine ⟨⟨by unfold inV; simpa using hro2, v1⟩, ?_⟩
  rcases v2 with v2 | v2
  ·exact Or.inl v2
  ·exact Or.inr ⟨v2.1, by rw [hB.1]; exact v2.2⟩
 have c2 : M.any wrW = false := List.any_eq_false.2 fun x hx => by
  obtain ⟨e, he, h1, h2⟩ := hat x hx
  unfold wrW
  simp only [Bool.not_eq_true, Bool.or_eq_false_iff, Bool.not_eq_false']
  refine ⟨by unfold inV; have := hE e he; rw [h1]; simpa using this, List.any_eq_false.2 fun z hz => ?_⟩
  have := ids_inT hok ((h2.ok hok hro).2.1 z hz)
  unfold inV
  simpa using this
 have c4 : M.any lgW = false := List.any_eq_false.2 fun x hx => by
  unfold lgW
  have := hnd x hx
  simp only [decide_eq_true_eq]
  omega
 have c5 : ascB ltW M = true := by
  refine asc_ofW M (List.pairwise_iff_getElem.2 fun i j hi hj hij => ?_)
  have hi2 : i < E.length := by have := hB.1; omega
  have hj2 : j < E.length := by have := hB.1; omega
  have h1 := (hB.2 i E[i] M[i] (List.getElem?_eq_getElem hi2) (List.getElem?_eq_getElem hi)).1
  have h2 := (hB.2 j E[j] M[j] (List.getElem?_eq_getElem hj2) (List.getElem?_eq_getElem hj)).1
  have h3 := List.pairwise_iff_getElem.1 (asc_pairT E v5) i j hi2 hj2 hij
  unfold ltW
  simp only [decide_eq_true_eq]
  omega
 have c6 : M.any dsW = false := List.any_eq_false.2 fun x hx => by
  obtain ⟨e, he, -, h2⟩ := hat x hx
  unfold dsW
  have : ascB ltI x.nx = true := asc_ofW x.nx ((h2.ok hok hro).1.imp (fun h => by unfold ltI; simpa using h))
  rw [this]; decide
 have c7 : M.any (cfW ro) = false := List.any_eq_false.2 fun x hx => by
  obtain ⟨e, he, -, h2⟩ := hat x hx
  unfold cfW
  simp only [Bool.and_eq_true, decide_eq_true_eq, List.any_eq_true, not_and, not_exists]
  exact fun h1 z hz h3 => (h2.ok hok hro).2.2 h1 (h3 ▸ hz)
 have c3 : M.length ≤ 256 := by have := hB.1; omega
 unfold ckT
 rw [c1, c2, c4, c5, c6, c7]
 simp; omega
theorem all_valid {R : List Rt} {L0 : List Lk} {s n : Int} {E : List Ed} {Ts : List TbS} (h : AllM R L0 s n E R Ts) (hok : okT R L0 = true) (hp : vPl s n E = true) {x : TbS} (hx : x ∈ Ts) : x.s = s ∧ x.n = n ∧ x.r ∈ ids R ∧ (∃ y ∈ R, y.cap = true ∧ y.id = x.r) ∧ BldM R L0 x.r E x.L := by
 have h1 : x.r ∈ Ts.map (·.r) := List.mem_map.2 ⟨x, hx, rfl⟩
 rw [h.1] at h1
 obtain ⟨y, hy, he⟩ := List.mem_map.1 h1
 obtain ⟨hy1, hy2⟩ := List.mem_filter.1 hy
 obtain ⟨h2, h3, h4⟩ := h.2 x hx
 exact ⟨h2, h3, List.mem_map.2 ⟨y, hy1, he⟩, ⟨y, hy1, hy2, he⟩, h4⟩
theorem chk_idsT {R R0 : List Rt} {L : List Lk} (h : R.map (·.id) = R0.map (·.id)) : chk R L = chk R0 L := by
 have h1 : R.length = R0.length := by have := congrArg List.length h; simpa using this
 have h2 : ∀ R : List Rt, R.any wrId = (R.map (·.id)).any (fun x => !decide (1 ≤ x ∧ x ≤ 99)) := fun R => by rw [List.any_map]; rfl
 have h3 : ∀ R : List Rt, ascB ltR R = ascB (fun x y : Int => decide (x < y)) (R.map (·.id)) := by
  intro R
  induction R with
  | nil => rfl
  | cons a t ih =>
   cases t with
   | nil => rfl
   | cons b t => rw [List.map_cons, List.map_cons, ascB, ascB, ih]; rfl
 have h4 : ∀ x, hasR R x = hasR R0 x := fun x => by
  have e : ∀ R : List Rt, hasR R x = (R.map (·.id)).any (fun y => decide (y = x)) := fun R => by unfold hasR; rw [List.any_map]; rfl
  rw [e, e, h]
 have h5 : unk R = unk R0 := by funext l; unfold unk; rw [h4, h4]
 unfold chk
 rw [h1, h2, h2, h3, h3, h, h5]
end Go.Proofs.YtpogblengagpaaaGreatDoor

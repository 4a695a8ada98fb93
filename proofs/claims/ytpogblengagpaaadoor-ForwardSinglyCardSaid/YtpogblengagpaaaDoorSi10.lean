/- Parts of the proof, packed: MaAll, FwO, FwP, FwH. -/
import Derived.Test.YtpogblengagpaaaDoorSi9
import Derived.Deep.AppendLies
import Derived.Test.YtpogblengagpaaaDoorSi2
import Derived.Test.YtpogblengagpaaaDoorSi5
import Derived.Test.YtpogblengagpaaaDoorSi6
import Derived.Test.YtpogblengagpaaaDoorSi8
/- masks: All, Mask, Local. -/
namespace Go.Proofs.YtpogblengagpaaaDoor
set_option maxRecDepth 100000
open Go.RowKit Go.Maps Bs
structure Md where
 x : Int
 b : Nat
def mdC (m : Md) : List Value := [.int .i64 m.x, .int .u64 (m.b : Int)]
theorem md_one (m : Md) : ∀ u ∈ mdC m, u.oneCell' = true := by
 intro u hu
 simp [mdC] at hu
 rcases hu with rfl | rfl <;> rfl
def mdL (f : Int → Option Nat) (ts : List Int) : List Md := ts.map fun x => ⟨x, (f x).getD 0⟩
def mdK (f : Int → Option Nat) (ts : List Int) (k : Nat) : List Md := mdL f (ts.take k)
theorem mdK_next {f : Int → Option Nat} {ts : List Int} {k : Nat} {x : Int} (h : ts[k]? = some x) : mdK f ts (k + 1) = mdK f ts k ++ [⟨x, (f x).getD 0⟩] := by
 unfold mdK mdL
 rw [List.take_add_one, h, List.map_append]; rfl
theorem mdK_end (f : Int → Option Nat) (ts : List Int) : mdK f ts ts.length = mdL f ts := by unfold mdK; rw [List.take_length]
theorem mdK_len (f : Int → Option Nat) (ts : List Int) (k : Nat) : (mdK f ts k).length ≤ ts.length := by unfold mdK mdL; rw [List.length_map, List.length_take]; omega
theorem mdL_len (f : Int → Option Nat) (ts : List Int) : (mdL f ts).length = ts.length := by unfold mdL; rw [List.length_map]
theorem asc_len99 : ∀ (ts : List Int) (lo : Int), ts.Pairwise (· < ·) → (∀ x ∈ ts, lo < x ∧ x ≤ 99) → lo ≤ 99 → (ts.length : Int) + lo ≤ 99
 | [], lo, _, _, h => by simpa using h
 | a :: t, lo, hp, hr, h => by
  obtain ⟨h1, h2⟩ := List.pairwise_cons.1 hp
  have ha := hr a (List.mem_cons_self ..)
  have := asc_len99 t a h2 (fun x hx => ⟨h1 x hx, (hr x (List.mem_cons_of_mem _ hx)).2⟩) ha.2
  simp only [List.length_cons]
  omega
theorem ascM_len {f : Int → Option Nat} {ts : List Int} (h : AscM f ts) (ho : ColOk f) : ts.length ≤ 99 := by
 have := asc_len99 ts 0 h.asc (fun x hx => by
  obtain ⟨d, hd⟩ := Option.isSome_iff_exists.1 ((h.mem x).1 hx)
  have := (ho.u x d hd).2
  omega) (by omega)
 omega
theorem info_md : (Tryd.prog.info? 78).map (fun i => (i.zero, i.size, i.bytes)) = some (some (.agg #[.int .i64 0, .int .u64 0]), 2, 16) := by kernel_rfl
theorem md_row (w : World) (x : Int) (b : Nat) (t : TypeId) : ∀ j u, [Value.int .i64 x, .int .u64 (b : Int)][j]? = some u → (w.alloc (.cells #[.int .i64 x, .int .u64 (b : Int)] t)).cell? ((⟨w.heap.size, 0, none⟩ : Addr).add j) = some u := by
 intro j u hu
 rw [add_plain]
 have hb := heap_alloc_new w (.cells #[.int .i64 x, .int .u64 (b : Int)] t)
 rcases j with _ | _ | j
 ·cases hu; exact cell_of_row _ _ _ _ _ _ hb
 ·cases hu; exact cell_of_row _ _ _ _ _ _ hb
 ·simp at hu
structure AL (W : World) (Mb N : Nat) (f : Int → Option Nat) (ts : List Int) (ps : Option Addr) (cs C : Nat) (v : Value) (M : List Md) (w : World) : Prop where
 mp : OMu w Mb N f
 rt : Rd w (fun b => b < C) (.slice ps ts.length cs) (ts.map tv)
 own : w.ownsRow C 78 2 v M.length (M.flatMap mdC)
 gr : W.grownBy w none
 lo : Mb < C ∧ C ≤ w.heap.size ∧ W.heap.size ≤ C
theorem AL.keep {W w w1 : World} {Mb N : Nat} {f : Int → Option Nat} {ts : List Int} {ps : Option Addr} {cs C : Nat} {v : Value} {M : List Md} (h : AL W Mb N f ts ps cs C v M w) (g : w.grownBy w1 none) : AL W Mb N f ts ps cs C v M w1 :=
 ⟨h.mp.kept g (by simp), h.rt.keep g, h.own.kept g (by cases v.ownBlock <;> simp), grown_trans h.gr g, h.lo.1, Nat.le_trans h.lo.2.1 g.size, h.lo.2.2⟩
theorem AL.put {W w w1 : World} {Mb N : Nat} {f : Int → Option Nat} {ts : List Int} {ps : Option Addr} {cs C : Nat} {v v' : Value} {M M2 : List Md} (h : AL W Mb N f ts ps cs C v M w) (hown : w1.ownsRow C 78 2 v' M2.length (M2.flatMap mdC)) (g : w.grownBy w1 v.ownBlock) : AL W Mb N f ts ps cs C v' M2 w1 := by
 have hlo := h.lo
 have hne : ∀ b, b < C → some b ≠ v.ownBlock := fun b hb e => by have := (h.own.lt b e.symm).1; omega
 exact ⟨h.mp.kept g (hne _ hlo.1), h.rt.grown g hne, hown, grown_any h.gr g (fun b hb => hne b (by omega)), h.lo.1, Nat.le_trans h.lo.2.1 g.size, h.lo.2.2⟩
def AllPost (r s n : Int) (L : List Rw) (pl set : Int) (w : World) (e : Ending) (w' : World) : Prop :=
 ∃ (ts : List Int) (p : Option Addr) (c : Nat), e = .returned (.slice p (mdL (coF r s n L pl set) ts).length c) ∧ AscM (coF r s n L pl set) ts ∧ w'.ownsRow w.heap.size 78 2 (.slice p (mdL (coF r s n L pl set) ts).length c) (mdL (coF r s n L pl set) ts).length ((mdL (coF r s n L pl set) ts).flatMap mdC) ∧ w.grownBy w' none
set_option maxHeartbeats 6400000 in
theorem mall_any (r s n : Int) (p : Option Addr) (c : Nat) (L : List Rw) (pl set : Int) (w : World) (hR : RdW w (· < w.heap.size) p c L) (hm : L.length ≤ 9223372036854775807) :
  Calls Tryd.prog 24 #[.agg #[.int .i64 r, .int .i64 s, .int .i64 n, .slice p L.length c], .int .i64 pl, .int .i64 set] w fun e w' => AllPost r s n L pl set w e w' := by
 obtain ⟨ie, hie, he0, he1, he2⟩ := info_parts info_md
 obtain ⟨k1, k2⟩ := tone_box w #[.int .i64 r, .int .i64 s, .int .i64 n, .slice p L.length c] 27
 have H0 := Lib.hid (And.intro k1 (And.intro k2 (And.intro ((hR.keep k2).mono (q' := (· < (w.alloc (.cells #[.int .i64 r, .int .i64 s, .int .i64 n, .slice p L.length c] 27)).heap.size)) (fun b (hb : b < w.heap.size) => by show b < _; simp; omega)) (show w.heap.size < (w.alloc (.cells #[.int .i64 r, .int .i64 s, .int .i64 n, .slice p L.length c] 27)).heap.size by simp))))
 clear k1 k2 hR
 go_enter Tryd.func24, Tryd.ntmps24
 go_upto_region 1 with fail
 generalize w.alloc _ = w1 at *
 obtain ⟨d0, d1, d2, d3⟩ := row4T H0.out.1
 go_wp2_with fail
 refine (mcollect_any r s n p c L pl set w1 H0.out.2.2.1 hm).mono ?_
 rintro e w2 ⟨rfl, ⟨N, hN, hmp⟩, hg⟩
 have H2 := Lib.hid (And.intro hmp (grown_trans H0.out.2.1 hg))
 have hzz : w.heap.size < w1.heap.size := H0.out.2.2.2
 clear hmp hg H0 d0 d1 d2 d3
 obtain ⟨f, hf⟩ : ∃ f, coF r s n L pl set = f := ⟨_, rfl⟩
 have HF := Lib.hid hf
 have HOK : Hid (ColOk f) := Lib.hid (by rw [← hf]; exact coF_ok r s n L pl set)
 rw [hf] at H2
 clear hf
 generalize w1.heap.size + 1 = Mb at *
 go_wp2_with fail
 refine (mkeys_any (some Mb) w2).mono ?_
 rintro e w4 ⟨rfl, hw4⟩
 have hb4 := heap_alloc_new w2 (.cells #[.map (some Mb)] 95)
 have hg4 := World.grownBy_alloc w2 (.cells #[.map (some Mb)] 95) none
 rw [← hw4] at hb4 hg4
 have hz4 : w2.heap.size < w4.heap.size := by rw [hw4]; simp
 have HW4 := Lib.hid (And.intro hb4 (And.intro hg4 hz4))
 clear hw4 hb4 hg4 hz4
 go_wp2_with fail
 refine (mkz_any f Mb N (by omega) w2.heap.size w4 (by rw [cell_of_row _ _ _ _ _ _ HW4.out.1]; rfl) HW4.out.2.2 (H2.out.1.kept HW4.out.2.1 (by simp))).mono ?_
 rintro e w5 ⟨vs, ts, rfl, hS, hrow, hg5⟩
 obtain ⟨ps, cs, rfl, hcs1, hcs2⟩ := own_shape hrow
 have hlen := ascM_len hS HOK.out
 have HTS := Lib.hid hS
 have g25 := grown_trans HW4.out.2.1 hg5
 have A0 : Hid (AL w Mb N f ts ps cs w5.heap.size (.slice none 0 0) (mdK f ts 0) w5) := Lib.hid ⟨H2.out.1.kept g25 (by simp), (rd_of_own hrow).old, World.ownsRow_nil _ _ _ _, grown_trans H2.out.2 g25, Nat.lt_of_lt_of_le H2.out.1.lt g25.size, Nat.le_refl _, Nat.le_trans H2.out.2.size g25.size⟩
 clear hS hrow hg5 HW4 H2 g25
 generalize w5.heap.size = C at *
 go_wp2_with fail
 go_loopw [8, 19] (fun vo a wr => ∃ (k : Nat) (po : Option Addr) (co : Nat), k ≤ ts.length ∧ a = .int .i64 (k : Int) ∧ vo = .slice po (mdK f ts k).length co ∧ Hid (AL w Mb N f ts ps cs C (.slice po (mdK f ts k).length co) (mdK f ts k) wr)) (fun _ a _ => ts.length - (RowKit.intOf a).toNat)
 case atStart => exact ⟨0, none, 0, Nat.zero_le _, rfl, rfl, A0⟩
 case round =>
 clear A0
 obtain ⟨k, po, co, hk, rfl, rfl, A1⟩ := hrel
 obtain ⟨w6, hw6⟩ : ∃ w6, w6 = wr := ⟨_, rfl⟩
 rw [← hw6] at A1 ⊢
 clear hw6
 by_cases hlt : k < ts.length
 case neg =>
  obtain rfl : k = ts.length := by omega
  have hnl : ¬ (ts.length : Int) < (ts.length : Int) := by omega
  rw [mdK_end] at A1 ⊢
  go_wp2_with fail
  go_ret
  exact ⟨ts, po, co, by rw [HF.out]; rfl, by rw [HF.out]; exact HTS.out, by rw [HF.out]; exact A1.out.own.mono A1.out.lo.2.2, A1.out.gr⟩
 case pos =>
 have hlt' : (k : Int) < (ts.length : Int) := by omega
 obtain ⟨x, hx⟩ : ∃ x, ts[k]? = some x := ⟨_, List.getElem?_eq_getElem hlt⟩
 obtain ⟨-, b, off, rfl, hq, hc⟩ := tvT_at A1.out.rt hx
 have d0 := hc k x hx
 obtain ⟨d, hd⟩ := Option.isSome_iff_exists.1 ((HTS.out.mem x).1 (List.mem_of_getElem? hx))
 have hdb := HOK.out.u x d hd
 have hx1 := hdb.2
 have q1 := (A1.out.mp.look (x := x) (by unfold I64; omega)).1
 rw [hd] at q1
 simp only [Option.getD_some] at q1
 have HS : Hid (mdK f ts (k + 1) = mdK f ts k ++ [⟨x, d⟩]) := Lib.hid (by have := mdK_next (f := f) hx; rw [hd] at this; exact this)
 have hMl := mdK_len f ts k
 obtain ⟨M, hM⟩ : ∃ M, mdK f ts k = M := ⟨_, rfl⟩
 obtain ⟨M2, hM2⟩ : ∃ M2, mdK f ts (k + 1) = M2 := ⟨_, rfl⟩
 rw [hM] at A1 HS hMl ⊢
 rw [hM2] at HS
 have HM2 := Lib.hid hM2
 have HO2 := Lib.hid A1.out.own
 have hsz : C ≤ w6.heap.size := A1.out.lo.2.1
 clear hc hx hd hM hM2 hdb hx1
 go_wp2_with (at_builtin; refine hold_on ?_)
 refine Lib.hid ?_
 refine wpList_append_lies _ rfl _ _ 73 rfl C 78 ie (.agg #[.int .i64 0, .int .u64 0]) 2 16 Tryd.underlying73 hie he0 he1 he2 rfl (by decide) (.slice po M.length co) M.length (M.flatMap mdC) rfl (HO2.out.alloc _) ⟨w6.heap.size, 0, none⟩ 1 1 [.int .i64 x, .int .u64 (d : Int)] rfl rfl (md_row w6 x d _) (md_one ⟨x, d⟩) (by decide) (by unfold maxLen; omega) (by omega) (by simp; omega) _ rfl ?_
 intro g cap w8 hown hgrow hat hlt8
 have A2 := Lib.hid ((A1.out.keep (World.grownBy_alloc _ _ none)).put (M2 := M ++ [(⟨x, d⟩ : Md)]) (by rw [List.length_append, List.flatMap_append]; simpa [mdC] using hown) hgrow)
 rw [← HS.out] at A2
 have HL : Hid (M.length + 1 = M2.length) := Lib.hid (by rw [HS.out, List.length_append]; rfl)
 rw [HL.out] at A2 ⊢
 clear hown hgrow hat hlt8 HO2 A1 hsz HL HS q1 d0 hMl
 go_wp2_with fail
 exact ⟨⟨k + 1, some ⟨g, 0, none⟩, cap, by omega, congrArg _ (by omega), by rw [HM2.out], by rw [HM2.out]; exact A2⟩, by simp only [RowKit.intOf]; omega⟩
end Go.Proofs.YtpogblengagpaaaDoor

/- forward: copies in memory; what Packet returns. -/
namespace Go.Proofs.YtpogblengagpaaaDoor
set_option maxRecDepth 100000
open Go.RowKit Go.Maps Bs
def cyP (P : Pk) (b : Nat) : Pk := { P with bits := b, ttl := P.ttl - 1 }
def cyC (P : Pk) (y : Int × Nat) : List Value := [.int .i64 y.1, .slice none 0 0, .int .i64 P.mode, .int .i64 P.sub, .int .i64 P.set, .int .i64 P.len, .int .i64 (P.ttl - 1), .int .i64 P.ent, .int .i64 P.ing, .int .i64 P.pro, .int .u64 (y.2 : Int), .string P.pay]
theorem cy_one (P : Pk) (y : Int × Nat) : ∀ u ∈ cyC P y, u.oneCell' = true := by
 intro u hu
 simp [cyC] at hu
 rcases hu with rfl | rfl | rfl | rfl | rfl | rfl | rfl | rfl | rfl | rfl | rfl | rfl <;> rfl
theorem info_cy : (Tryd.prog.info? 43).map (fun i => (i.zero, i.size, i.bytes)) = some (some (.agg #[.int .i64 0, .slice none 0 0, .int .i64 0, .int .i64 0, .int .i64 0, .int .i64 0, .int .i64 0, .int .i64 0, .int .i64 0, .int .i64 0, .int .u64 0, .string ⟨#[]⟩]), 12, 120) := by kernel_rfl
def fwE (r s n : Int) (L : List Rw) (P : Pk) : Int := if ckT r s n L ≠ 0 ∨ vpk P = false then 1 else if P.mode = 2 then 7 else if P.sub ≠ s ∨ P.len ≠ n then 8 else 0
theorem fwE_ok {r s n : Int} {L : List Rw} {P : Pk} (h : fwE r s n L P = 0) : ckT r s n L = 0 ∧ vpk P = true ∧ P.mode ≠ 2 ∧ P.sub = s ∧ P.len = n := by
 unfold fwE at h
 split at h
 ·omega
 split at h
 ·omega
 split at h
 ·omega
 rename_i h1 h2 h3
 refine ⟨?_, ?_, h2, ?_, ?_⟩
 ·exact Classical.not_not.1 fun e => h1 (Or.inl e)
 ·cases e : vpk P with
  | true => rfl
  | false => exact absurd (Or.inr e) h1
 ·exact Classical.not_not.1 fun e => h3 (Or.inl e)
 ·exact Classical.not_not.1 fun e => h3 (Or.inr e)
def fwM (n : Int) (L : List Rw) (P : Pk) : Int → Nat := fun u => (colL n P.set (planeV P).toNat L u).getD 0
def fwH (n : Int) (L : List Rw) (P : Pk) : Nat → Int := hpF n P.set (planeV P).toNat L
theorem fw_ms {r s n : Int} {L : List Rw} {P : Pk} (h : fwE r s n L P = 0) : Ms (fwM n L P) (fwH n L P) := by
 obtain ⟨h1, h2, -, -, h5⟩ := fwE_ok h
 obtain ⟨h6, -⟩ := vpk_len h2
 exact ms_fw h1 (N := P.len.toNat) (by omega) _ _
abbrev FwW (n : Int) (r : Int) (L : List Rw) (P : Pk) (left loc lost : Nat) (cs : List (Int × Nat)) : Prop := FwI (fwM n L P) (fwH n L P) r (decide (P.ttl = 0)) P.bits left loc lost cs
structure FwR (r s n : Int) (L : List Rw) (P : Pk) (e : Int) (loc lost : Nat) (cs : List (Int × Nat)) : Prop where
 he : e = fwE r s n L P
 ok : e = 0 → FwD (fwM n L P) (fwH n L P) r (decide (P.ttl = 0)) P.bits loc lost cs
 no : e ≠ 0 → loc = 0 ∧ lost = 0 ∧ cs = []
 hu : U64 loc ∧ U64 lost
def FwPost (r s n : Int) (L : List Rw) (P : Pk) (w : World) (e : Ending) (w' : World) : Prop :=
 ∃ (x : Int) (loc lost : Nat) (cs : List (Int × Nat)) (p : Option Addr) (c : Nat), e = .returned (.tuple #[.agg #[.int .u64 (loc : Int), .int .u64 (lost : Int), .slice p cs.length c], .int .i64 x]) ∧ FwR r s n L P x loc lost cs ∧ w'.ownsRow w.heap.size 43 12 (.slice p cs.length c) cs.length (cs.flatMap (cyC P)) ∧ w.grownBy w' none
theorem cpB_len64 {M : Int → Nat} {h : Nat → Int} (hM : Ms M h) {x : Nat} (hx : U64 x) (hz : ∀ j, x.testBit j = true → h j ≠ 0) : (cpB M h x).length ≤ 64 := by
 have h1 : ((cpB M h x).map (·.1)).Nodup := by
  unfold List.Nodup
  rw [List.pairwise_map]
  exact cpB_once hM x hx hz
 have h2 := nodup_leH _ ((List.range 64).map h) h1 (fun y hy => by
  obtain ⟨z, hz1, rfl⟩ := List.mem_map.1 hy
  obtain ⟨-, j, hj, e⟩ := cpB_mem hM x hx hz z hz1
  exact List.mem_map.2 ⟨j, List.mem_range.2 (u64_bit hx hj), e⟩)
 simpa using h2
theorem FwI.len {M : Int → Nat} {h : Nat → Int} {r : Int} {t : Bool} {P left loc lost : Nat} {cs : List (Int × Nat)} (I : FwI M h r t P left loc lost cs) (hM : Ms M h) (hP : U64 P) : cs.length ≤ 64 := by
 have h1 := cpB_len64 hM (fltB_u (czB h r t) hP) (FwD.zs hP)
 have h2 := congrArg List.length I.hcs
 rw [List.length_append] at h2
 omega
theorem FwD.len {M : Int → Nat} {h : Nat → Int} {r : Int} {t : Bool} {P loc lost : Nat} {cs : List (Int × Nat)} (D : FwD M h r t P loc lost cs) (hM : Ms M h) (hP : U64 P) : cs.length ≤ 64 := by
 rw [D.hcs]
 exact cpB_len64 hM (fltB_u (czB h r t) hP) (FwD.zs hP)
end Go.Proofs.YtpogblengagpaaaDoor

/- forward: mistake. -/
namespace Go.Proofs.YtpogblengagpaaaDoor
set_option maxRecDepth 100000
open Go.RowKit Go.Maps Bs
structure FB (W : World) (B : Nat) (r s n : Int) (p : Option Addr) (c : Nat) (L : List Rw) (P : Pk) (w : World) : Prop where
 bx : w.heap[B]? = some (.cells #[.int .i64 r, .int .i64 s, .int .i64 n, .slice p L.length c] 27 (0, 0))
 pb : w.heap[B + 1]? = some (.cells (pcells P) 30 (0, 0))
 rd : RdW w (· < W.heap.size) p c L
 gr : W.grownBy w none
 le : W.heap.size ≤ B
theorem FB.keep {W w w1 : World} {B : Nat} {r s n : Int} {p : Option Addr} {c : Nat} {L : List Rw} {P : Pk} (h : FB W B r s n p c L P w) (g : w.grownBy w1 none) : FB W B r s n p c L P w1 :=
 ⟨kept_row h.bx g (by simp), kept_row h.pb g (by simp), h.rd.keep g, grown_trans h.gr g, h.le⟩
theorem FB.all {W w : World} {B : Nat} {r s n : Int} {p : Option Addr} {c : Nat} {L : List Rw} {P : Pk} (h : FB W B r s n p c L P w) : RdW w (· < w.heap.size) p c L := h.rd.mono fun _ hb => Nat.lt_of_lt_of_le hb h.gr.size
theorem fb_start {w : World} {r s n : Int} {p : Option Addr} {c : Nat} {L : List Rw} {P : Pk} (hR : RdW w (· < w.heap.size) p c L) : FB w w.heap.size r s n p c L P ((w.alloc (.cells #[.int .i64 r, .int .i64 s, .int .i64 n, .slice p L.length c] 27)).alloc (.cells (pcells P) 30)) := by
 obtain ⟨k1, k2, k3, -⟩ := two_boxes w #[.int .i64 r, .int .i64 s, .int .i64 n, .slice p L.length c] (pcells P) 27 30
 exact ⟨k1, k2, hR.keep k3, k3, Nat.le_refl _⟩
theorem fwE_1 {r s n : Int} {L : List Rw} {P : Pk} (h : ckT r s n L ≠ 0) : fwE r s n L P = 1 := by unfold fwE; rw [if_pos (Or.inl h)]
theorem fwE_2 {r s n : Int} {L : List Rw} {P : Pk} (h : vpk P = false) : fwE r s n L P = 1 := by unfold fwE; rw [if_pos (Or.inr h)]
theorem fwE_7 {r s n : Int} {L : List Rw} {P : Pk} (h1 : ckT r s n L = 0) (h2 : vpk P = true) (h3 : P.mode = 2) : fwE r s n L P = 7 := by unfold fwE; rw [if_neg (by simp [h1, h2]), if_pos h3]
theorem fwE_8 {r s n : Int} {L : List Rw} {P : Pk} (h1 : ckT r s n L = 0) (h2 : vpk P = true) (h3 : P.mode ≠ 2) (h4 : P.sub ≠ s ∨ P.len ≠ n) : fwE r s n L P = 8 := by unfold fwE; rw [if_neg (by simp [h1, h2]), if_neg h3, if_pos h4]
theorem fwE_0 {r s n : Int} {L : List Rw} {P : Pk} (h1 : ckT r s n L = 0) (h2 : vpk P = true) (h3 : P.mode ≠ 2) (h4 : P.sub = s) (h5 : P.len = n) : fwE r s n L P = 0 := by unfold fwE; rw [if_neg (by simp [h1, h2]), if_neg h3, if_neg (by simp [h4, h5])]
set_option maxHeartbeats 3200000 in
theorem fwmis_any (r s n : Int) (p : Option Addr) (c : Nat) (L : List Rw) (P : Pk) (hP : P.Wf) (w : World) (hR : RdW w (· < w.heap.size) p c L) (hm : L.length ≤ 9223372036854775807) :
  Calls Tryd.prog 23 #[.agg #[.int .i64 r, .int .i64 s, .int .i64 n, .slice p L.length c], P.val] w fun e w' => e = .returned (.int .i64 (fwE r s n L P)) ∧ w.grownBy w' none := by
 have hval : P.val = .agg #[.int .i64 P.mode, .int .i64 P.sub, .int .i64 P.set, .int .i64 P.len, .int .i64 P.ttl, .int .i64 P.ent, .int .i64 P.ing, .int .i64 P.pro, .int .u64 (P.bits : Int), .string P.pay] := rfl
 rw [hval]
 have H0 := Lib.hid (fb_start (r := r) (s := s) (n := n) (P := P) hR)
 unfold pcells at H0
 clear hR
 go_enter Tryd.func23, Tryd.ntmps23
 go_upto_region 1 with fail
 generalize (w.alloc _).alloc _ = wa at *
 obtain ⟨d0, d1, d2, d3⟩ := row4T H0.out.bx
 go_wp2_with fail
 refine (tcheckT_any r s n p c L (· < wa.heap.size) wa H0.out.all hm).mono ?_
 rintro e w1 ⟨rfl, hg⟩
 have K := Lib.hid (H0.out.keep hg)
 clear hg H0 d0 d1 d2 d3
 by_cases hck : ckT r s n L = 0
 case neg =>
  have hck' : (ckT r s n L != 0) = true := by simpa using hck
  have HZ : Hid (fwE r s n L P = 1) := Lib.hid (fwE_1 hck)
  clear hck hval
  go_wp2_with fail
  go_ret
  exact ⟨by rw [HZ.out]; rfl, K.out.gr⟩
 have HCK := Lib.hid hck
 have hck' : (ckT r s n L != 0) = false := by simpa using hck
 clear hck
 obtain ⟨a0, a1, a2, a3, a4, a5, a6, a7, a8, a9⟩ := p_facts K.out.pb
 go_wp2_with fail
 rw [← hval]
 refine (pvalid_any P hP _).mono ?_
 rintro e w2 ⟨rfl, hg⟩
 have K2 := Lib.hid (K.out.keep hg)
 clear hg K a0 a1 a2 a3 a4 a5 a6 a7 a8 a9 hck' hval
 cases hv : vpk P with
 | false =>
  have HZ : Hid (fwE r s n L P = 1) := Lib.hid (fwE_2 hv)
  clear hv
  go_wp2_with fail
  go_ret
  exact ⟨by rw [HZ.out]; rfl, K2.out.gr⟩
 | true =>
 have HV := Lib.hid hv
 clear hv
 obtain ⟨a0, a1, a2, a3, a4, a5, a6, a7, a8, a9⟩ := p_facts K2.out.pb
 obtain ⟨d0, d1, d2, d3⟩ := row4T K2.out.bx
 by_cases h7 : P.mode = 2
 ·have HZ : Hid (fwE r s n L P = 7) := Lib.hid (fwE_7 HCK.out HV.out h7)
  have h7' : (P.mode == 2) = true := by simpa using h7
  clear h7
  go_wp2_with fail
  go_ret
  exact ⟨by rw [HZ.out]; rfl, K2.out.gr⟩
 have H7 := Lib.hid h7
 have h7' : (P.mode == 2) = false := by simpa using h7
 clear h7
 by_cases h8 : P.sub = s
 case neg =>
  have HZ : Hid (fwE r s n L P = 8) := Lib.hid (fwE_8 HCK.out HV.out H7.out (Or.inl h8))
  have h8' : (P.sub != s) = true := by simpa using h8
  clear h8
  go_wp2_with fail
  go_ret
  exact ⟨by rw [HZ.out]; rfl, K2.out.gr⟩
 have H8 := Lib.hid h8
 have h8' : (P.sub != s) = false := by simpa using h8
 clear h8
 by_cases h9 : P.len = n
 case neg =>
  have HZ : Hid (fwE r s n L P = 8) := Lib.hid (fwE_8 HCK.out HV.out H7.out (Or.inr h9))
  have h9' : (P.len != n) = true := by simpa using h9
  clear h9
  go_wp2_with fail
  go_ret
  exact ⟨by rw [HZ.out]; rfl, K2.out.gr⟩
 have HZ : Hid (fwE r s n L P = 0) := Lib.hid (fwE_0 HCK.out HV.out H7.out H8.out h9)
 have h9' : (P.len != n) = false := by simpa using h9
 clear h9
 go_wp2_with fail
 go_ret
 exact ⟨by rw [HZ.out]; rfl, K2.out.gr⟩
end Go.Proofs.YtpogblengagpaaaDoor

/- forward: handOver. -/
namespace Go.Proofs.YtpogblengagpaaaDoor
set_option maxRecDepth 100000
open Go.RowKit Go.Maps Bs
theorem five_new (w : World) (A B C D E : Obj) : (((((w.alloc A).alloc B).alloc C).alloc D).alloc E).heap[w.heap.size]? = some A ∧ (((((w.alloc A).alloc B).alloc C).alloc D).alloc E).heap[w.heap.size + 1]? = some B ∧ (((((w.alloc A).alloc B).alloc C).alloc D).alloc E).heap[w.heap.size + 2]? = some C ∧ (((((w.alloc A).alloc B).alloc C).alloc D).alloc E).heap[w.heap.size + 3]? = some D ∧ (((((w.alloc A).alloc B).alloc C).alloc D).alloc E).heap[w.heap.size + 4]? = some E ∧
  w.grownBy (((((w.alloc A).alloc B).alloc C).alloc D).alloc E) none ∧ (((((w.alloc A).alloc B).alloc C).alloc D).alloc E).heap.size = w.heap.size + 5 := by
 have st : ∀ (wx : World) (b : Nat) (o o2 : Obj), wx.heap[b]? = some o → (wx.alloc o2).heap[b]? = some o := fun wx b o o2 h => kept_row h (World.grownBy_alloc wx o2 none) (by simp)
 have n1 := heap_alloc_new w A
 have n2 := heap_alloc_new (w.alloc A) B
 have n3 := heap_alloc_new ((w.alloc A).alloc B) C
 have n4 := heap_alloc_new (((w.alloc A).alloc B).alloc C) D
 have n5 := heap_alloc_new ((((w.alloc A).alloc B).alloc C).alloc D) E
 rw [show (w.alloc A).heap.size = w.heap.size + 1 by simp] at n2
 rw [show ((w.alloc A).alloc B).heap.size = w.heap.size + 2 by simp] at n3
 rw [show (((w.alloc A).alloc B).alloc C).heap.size = w.heap.size + 3 by simp] at n4
 rw [show ((((w.alloc A).alloc B).alloc C).alloc D).heap.size = w.heap.size + 4 by simp] at n5
 exact ⟨st _ _ _ _ (st _ _ _ _ (st _ _ _ _ (st _ _ _ _ n1))), st _ _ _ _ (st _ _ _ _ (st _ _ _ _ n2)), st _ _ _ _ (st _ _ _ _ n3), st _ _ _ _ n4, n5, grown_trans (World.grownBy_alloc _ _ _) (grown_trans (World.grownBy_alloc _ _ _) (grown_trans (World.grownBy_alloc _ _ _) (grown_trans (World.grownBy_alloc _ _ _) (World.grownBy_alloc _ _ _)))), by simp⟩
structure HB (W : World) (O : Nat) (loc lost : Nat) (vc : Value) (r s n : Int) (p : Option Addr) (c : Nat) (L : List Rw) (P : Pk) (u : Int) (mb : Nat) (w : World) : Prop where
 ob : w.heap[O]? = some (.cells #[.int .u64 (loc : Int), .int .u64 (lost : Int), vc] 35 (0, 0))
 bx : w.heap[O + 1]? = some (.cells #[.int .i64 r, .int .i64 s, .int .i64 n, .slice p L.length c] 27 (0, 0))
 pb : w.heap[O + 1 + 1]? = some (.cells (pcells P) 30 (0, 0))
 mb : w.heap[O + 1 + 1 + 1]? = some (.cells #[.int .i64 u, .int .u64 (mb : Int)] 78 (0, 0))
 rb : w.heap[O + 1 + 1 + 1 + 1]? = some (.cells #[.int .u64 0, .int .u64 0, .slice none 0 0] 35 (0, 0))
 gr : W.grownBy w none
 le : W.heap.size ≤ O
theorem HB.keep {W w w1 : World} {O : Nat} {loc lost : Nat} {vc : Value} {r s n : Int} {p : Option Addr} {c : Nat} {L : List Rw} {P : Pk} {u : Int} {mb : Nat} (h : HB W O loc lost vc r s n p c L P u mb w) (g : w.grownBy w1 none) : HB W O loc lost vc r s n p c L P u mb w1 :=
 ⟨kept_row h.ob g (by simp), kept_row h.bx g (by simp), kept_row h.pb g (by simp), kept_row h.mb g (by simp), kept_row h.rb g (by simp), grown_trans h.gr g, h.le⟩
theorem hb_start (w : World) (loc lost : Nat) (vc : Value) (r s n : Int) (p : Option Addr) (c : Nat) (L : List Rw) (P : Pk) (u : Int) (mb : Nat) :
  HB w w.heap.size loc lost vc r s n p c L P u mb (((((w.alloc (.cells #[.int .u64 (loc : Int), .int .u64 (lost : Int), vc] 35)).alloc (.cells #[.int .i64 r, .int .i64 s, .int .i64 n, .slice p L.length c] 27)).alloc (.cells (pcells P) 30)).alloc (.cells #[.int .i64 u, .int .u64 (mb : Int)] 78)).alloc (.cells #[.int .u64 0, .int .u64 0, .slice none 0 0] 35)) := by
 obtain ⟨h1, h2, h3, h4, h5, g, -⟩ := five_new w (.cells #[.int .u64 (loc : Int), .int .u64 (lost : Int), vc] 35) (.cells #[.int .i64 r, .int .i64 s, .int .i64 n, .slice p L.length c] 27) (.cells (pcells P) 30) (.cells #[.int .i64 u, .int .u64 (mb : Int)] 78) (.cells #[.int .u64 0, .int .u64 0, .slice none 0 0] 35)
 exact ⟨h1, h2, h3, h4, h5, g, Nat.le_refl _⟩
theorem HB.at0 {W w : World} {O : Nat} {loc lost : Nat} {vc : Value} {r s n : Int} {p : Option Addr} {c : Nat} {L : List Rw} {P : Pk} {u : Int} {mb : Nat} (h : HB W O loc lost vc r s n p c L P u mb w) (x : Nat) : HB W O x lost vc r s n p c L P u mb (w.setCell ⟨O, 0, none⟩ (.int .u64 (x : Int))) := by
 have j := grown_setCell w ⟨O, 0, none⟩ (.int .u64 (x : Int))
 have ne : ∀ k, some (O + (k + 1)) ≠ some O := fun k e => by have : O + (k + 1) = O := Option.some.inj e; omega
 exact ⟨heap_setCell_same w _ 0 _ _ _ h.ob, kept_row h.bx j (ne 0), kept_row h.pb j (ne 1), kept_row h.mb j (ne 2), kept_row h.rb j (ne 3), grown_new h.gr j h.le, h.le⟩
theorem HB.at1 {W w : World} {O : Nat} {loc lost : Nat} {vc : Value} {r s n : Int} {p : Option Addr} {c : Nat} {L : List Rw} {P : Pk} {u : Int} {mb : Nat} (h : HB W O loc lost vc r s n p c L P u mb w) (x : Nat) : HB W O loc x vc r s n p c L P u mb (w.setCell ⟨O, 1, none⟩ (.int .u64 (x : Int))) := by
 have j := grown_setCell w ⟨O, 1, none⟩ (.int .u64 (x : Int))
 have ne : ∀ k, some (O + (k + 1)) ≠ some O := fun k e => by have : O + (k + 1) = O := Option.some.inj e; omega
 exact ⟨heap_setCell_same w _ 1 _ _ _ h.ob, kept_row h.bx j (ne 0), kept_row h.pb j (ne 1), kept_row h.mb j (ne 2), kept_row h.rb j (ne 3), grown_new h.gr j h.le, h.le⟩
theorem ob_put {w : World} {g : Nat} {a b c : Value} (v0 v1 v2 : Value) (hr : w.heap[g]? = some (.cells #[a, b, c] 35 (0, 0))) :
  (((w.setCell ⟨g, 0, none⟩ v0).setCell ⟨g, 1, none⟩ v1).setCell ⟨g, 2, none⟩ v2).heap[g]? = some (.cells #[v0, v1, v2] 35 (0, 0)) :=
 heap_setCell_same _ g 2 _ _ v2 (heap_setCell_same _ g 1 _ _ v1 (heap_setCell_same _ g 0 _ _ v0 hr))
theorem ob_grown (w : World) (g : Nat) (v0 v1 v2 : Value) : w.grownBy (((w.setCell ⟨g, 0, none⟩ v0).setCell ⟨g, 1, none⟩ v1).setCell ⟨g, 2, none⟩ v2) (some g) :=
 grown_trans (grown_trans (grown_setCell _ ⟨g, 0, none⟩ _) (grown_setCell _ ⟨g, 1, none⟩ _)) (grown_setCell _ ⟨g, 2, none⟩ _)
theorem row3f {w : World} {b : Nat} {x y z : Value} {t : TypeId} (h : w.heap[b]? = some (.cells #[x, y, z] t (0, 0))) : (w.cell? ⟨b, 0, none⟩ = some x ∧ w.cell? ⟨b, 1, none⟩ = some y ∧ w.cell? ⟨b, 2, none⟩ = some z) ∧ w.frozen? ⟨b, 0, none⟩ = false ∧ w.frozen? ⟨b, 1, none⟩ = false ∧ w.frozen? ⟨b, 2, none⟩ = false :=
 ⟨⟨cell_of_row _ _ _ _ _ _ h, cell_of_row _ _ _ _ _ _ h, cell_of_row _ _ _ _ _ _ h⟩, frozen_of_row _ _ _ _ _ h, frozen_of_row _ _ _ _ _ h, frozen_of_row _ _ _ _ _ h⟩
theorem outcome_size : (Tryd.prog.info? 35).map (·.size) = some 3 := by kernel_rfl
theorem res_outcome {fn : Func} {p : Tmp} (h : fn.results = #[.cell p 35]) (tmps : Array Value) (w : World) (g : Nat) (xs : Array Value) (hp : tmps.getD p undef = .pointer (some ⟨g, 0, none⟩)) (hn : xs.size = 3) (hg : w.heap[g]? = some (.cells xs 35 (0, 0))) :
  (results fn tmps).run Tryd.prog w = .ok (.agg xs) w := by
 exact results_cell_row h tmps w g _ _ _ _ hp hg Tryd.underlying35 rfl (by rw [hn]; exact outcome_size)
theorem res_outcome_err {fn : Func} {p u : Tmp} (h : fn.results = #[.cell p 35, .tmp u]) (tmps : Array Value) (w : World) (g : Nat) (xs : Array Value) (hp : tmps.getD p undef = .pointer (some ⟨g, 0, none⟩)) (hn : xs.size = 3) (hg : w.heap[g]? = some (.cells xs 35 (0, 0))) :
  (results fn tmps).run Tryd.prog w = .ok (.tuple #[.agg xs, tmps.getD u undef]) w := by
 have hp' : tmps[p]?.getD undef = .pointer (some ⟨g, 0, none⟩) := by simpa using hp
 rw [results_cell_tmp h]
 simp [hp', asAddr, run_loadVar_row w g _ _ _ _ _ hg Tryd.underlying35 rfl (by rw [hn]; exact outcome_size), Result.andThen]
theorem grown_over {w w1 w2 : World} {r : Option Nat} {O : Nat} (h : w.grownBy w1 r) (k : w1.grownBy w2 (some O)) (hO : w.heap.size ≤ O) : w.grownBy w2 r :=
 ⟨k.os.trans h.os, k.tape.trans h.tape, k.output.trans h.output, Nat.le_trans h.size k.size, fun i hi hr => (k.block i (Nat.lt_of_lt_of_le hi h.size) (fun e => by have := Option.some.inj e; omega)).trans (h.block i hi hr)⟩
set_option maxHeartbeats 3200000 in
theorem fwh_loc (loc lost : Nat) (hl : U64 loc) (pc : Option Addr) (nc cc : Nat) (r s n : Int) (p : Option Addr) (c : Nat) (L : List Rw) (P : Pk) (hP : P.Wf) (mb : Nat) (hmb : U64 mb) (w : World) :
  Calls Tryd.prog 27 #[.agg #[.int .u64 (loc : Int), .int .u64 (lost : Int), .slice pc nc cc], .agg #[.int .i64 r, .int .i64 s, .int .i64 n, .slice p L.length c], P.val, .agg #[.int .i64 r, .int .u64 (mb : Int)]] w fun e w' => e = .returned (.agg #[.int .u64 ((loc ||| (P.bits &&& mb) : Nat) : Int), .int .u64 (lost : Int), .slice pc nc cc]) ∧ w.grownBy w' none := by
 have hval : P.val = .agg #[.int .i64 P.mode, .int .i64 P.sub, .int .i64 P.set, .int .i64 P.len, .int .i64 P.ttl, .int .i64 P.ent, .int .i64 P.ing, .int .i64 P.pro, .int .u64 (P.bits : Int), .string P.pay] := rfl
 rw [hval]
 have H0 := Lib.hid (hb_start w loc lost (.slice pc nc cc) r s n p c L P r mb)
 unfold pcells at H0
 have hand := andU P.bits mb hP.bits hmb
 have hor := orU loc (P.bits &&& mb) hl (u64_andl _ _ hP.bits)
 clear hval
 go_enter Tryd.func27, Tryd.ntmps27
 go_upto_region 1 with fail
 generalize ((((w.alloc _).alloc _).alloc _).alloc _).alloc _ = wa at *
 obtain ⟨m0, m1⟩ := row_cells H0.out.mb
 obtain ⟨d0, d1, d2, d3⟩ := row4T H0.out.bx
 obtain ⟨a0, a1, a2, a3, a4, a5, a6, a7, a8, a9⟩ := p_facts H0.out.pb
 obtain ⟨⟨o0, o1, o2⟩, f0, f1, f2⟩ := row3f H0.out.ob
 have hrr : (r == r) = true := by simp
 have H1 := Lib.hid (H0.out.at0 (loc ||| (P.bits &&& mb)))
 go_upto_region 8 with fail
 clear m0 m1 d0 d1 d2 d3 a0 a1 a2 a3 a4 a5 a6 a7 a8 a9 o0 o1 o2 f0 f1 f2 H0 hor hand
 generalize wa.setCell _ _ = w1 at *
 obtain ⟨⟨o0, o1, o2⟩, -⟩ := row3f H1.out.ob
 obtain ⟨⟨z0, z1, z2⟩, f0, f1, f2⟩ := row3f H1.out.rb
 go_wp2_with fail
 refine bodyPost_ret (res_outcome rfl _ _ (w.heap.size + 1 + 1 + 1 + 1) _ rfl rfl (ob_put _ _ _ H1.out.rb)) rfl ?_
 exact ⟨rfl, grown_new H1.out.gr (ob_grown _ _ _ _ _) (by omega)⟩
set_option maxHeartbeats 3200000 in
theorem fwh_lost (loc lost : Nat) (hl : U64 lost) (pc : Option Addr) (nc cc : Nat) (r s n : Int) (p : Option Addr) (c : Nat) (L : List Rw) (P : Pk) (hP : P.Wf) (ht : P.ttl = 0) (u : Int) (hu : u ≠ r) (mb : Nat) (hmb : U64 mb) (w : World) :
  Calls Tryd.prog 27 #[.agg #[.int .u64 (loc : Int), .int .u64 (lost : Int), .slice pc nc cc], .agg #[.int .i64 r, .int .i64 s, .int .i64 n, .slice p L.length c], P.val, .agg #[.int .i64 u, .int .u64 (mb : Int)]] w fun e w' => e = .returned (.agg #[.int .u64 (loc : Int), .int .u64 ((lost ||| (P.bits &&& mb) : Nat) : Int), .slice pc nc cc]) ∧ w.grownBy w' none := by
 have hval : P.val = .agg #[.int .i64 P.mode, .int .i64 P.sub, .int .i64 P.set, .int .i64 P.len, .int .i64 P.ttl, .int .i64 P.ent, .int .i64 P.ing, .int .i64 P.pro, .int .u64 (P.bits : Int), .string P.pay] := rfl
 rw [hval]
 have htt := Lib.hid (show (P.ttl == 0) = true by simpa using ht)
 have hrr := Lib.hid (show (u == r) = false by simpa using hu)
 clear hu ht
 have H0 := Lib.hid (hb_start w loc lost (.slice pc nc cc) r s n p c L P u mb)
 unfold pcells at H0
 have hand := andU P.bits mb hP.bits hmb
 have hor := orU lost (P.bits &&& mb) hl (u64_andl _ _ hP.bits)
 clear hval
 go_enter Tryd.func27, Tryd.ntmps27
 go_upto_region 1 with fail
 generalize ((((w.alloc _).alloc _).alloc _).alloc _).alloc _ = wa at *
 obtain ⟨m0, m1⟩ := row_cells H0.out.mb
 obtain ⟨d0, d1, d2, d3⟩ := row4T H0.out.bx
 obtain ⟨a0, a1, a2, a3, a4, a5, a6, a7, a8, a9⟩ := p_facts H0.out.pb
 obtain ⟨⟨o0, o1, o2⟩, f0, f1, f2⟩ := row3f H0.out.ob
 replace htt := htt.out
 replace hrr := hrr.out
 have H1 := Lib.hid (H0.out.at1 (lost ||| (P.bits &&& mb)))
 go_upto_region 8 with fail
 clear m0 m1 d0 d1 d2 d3 a0 a1 a2 a3 a4 a5 a6 a7 a8 a9 o0 o1 o2 f0 f1 f2 H0 hor hand
 generalize wa.setCell _ _ = w1 at *
 obtain ⟨⟨o0, o1, o2⟩, -⟩ := row3f H1.out.ob
 obtain ⟨⟨z0, z1, z2⟩, f0, f1, f2⟩ := row3f H1.out.rb
 go_wp2_with fail
 refine bodyPost_ret (res_outcome rfl _ _ (w.heap.size + 1 + 1 + 1 + 1) _ rfl rfl (ob_put _ _ _ H1.out.rb)) rfl ?_
 exact ⟨rfl, grown_new H1.out.gr (ob_grown _ _ _ _ _) (by omega)⟩
theorem cy_row (w : World) (P : Pk) (y : Int × Nat) (t : TypeId) : ∀ j u, (cyC P y)[j]? = some u → (w.alloc (.cells #[.int .i64 y.1, .slice none 0 0, .int .i64 P.mode, .int .i64 P.sub, .int .i64 P.set, .int .i64 P.len, .int .i64 (P.ttl - 1), .int .i64 P.ent, .int .i64 P.ing, .int .i64 P.pro, .int .u64 (y.2 : Int), .string P.pay] t)).cell? ((⟨w.heap.size, 0, none⟩ : Addr).add j) = some u := by
 intro j u hu
 rw [add_plain, cell_of_row _ _ _ _ _ _ (heap_alloc_new w _), Nat.zero_add]
 simpa [cyC] using hu
theorem maskc_any (P : Pk) (hP : P.Wf) (b : Nat) (hb : U64 b) (hm : mskP P b = (cyP P b, true)) (w : World) :
  Calls Tryd.prog 47 #[P.val, .int .u64 (b : Int)] w fun e w' => e = .returned (.tuple #[.agg #[.int .i64 P.mode, .int .i64 P.sub, .int .i64 P.set, .int .i64 P.len, .int .i64 (P.ttl - 1), .int .i64 P.ent, .int .i64 P.ing, .int .i64 P.pro, .int .u64 (b : Int), .string P.pay], .bool true]) ∧ w.grownBy w' none := by
 refine (maskp_any P hP b hb w).mono ?_
 rintro e w' ⟨rfl, h⟩
 rw [hm]
 exact ⟨rfl, h⟩
set_option maxHeartbeats 3200000 in
theorem fwh_copy (loc lost : Nat) (C : Nat) (pc : Option Addr) (cc : Nat) (cs : List (Int × Nat)) (hcl : cs.length ≤ 64) (r s n : Int) (p : Option Addr) (c : Nat) (L : List Rw) (P : Pk) (hP : P.Wf) (hv : vpk P = true) (ht : P.ttl ≠ 0) (u : Int) (hu : u ≠ r) (mb : Nat) (hmb : U64 mb) (hpm : P.bits &&& mb ≠ 0) (w : World) (hC : C ≤ w.heap.size) (hown : w.ownsRow C 43 12 (.slice pc cs.length cc) cs.length (cs.flatMap (cyC P))) :
  Calls Tryd.prog 27 #[.agg #[.int .u64 (loc : Int), .int .u64 (lost : Int), .slice pc cs.length cc], .agg #[.int .i64 r, .int .i64 s, .int .i64 n, .slice p L.length c], P.val, .agg #[.int .i64 u, .int .u64 (mb : Int)]] w fun e w' => ∃ (p2 : Option Addr) (c2 : Nat), e = .returned (.agg #[.int .u64 (loc : Int), .int .u64 (lost : Int), .slice p2 (cs ++ [(u, P.bits &&& mb)]).length c2]) ∧ w'.ownsRow C 43 12 (.slice p2 (cs ++ [(u, P.bits &&& mb)]).length c2) (cs ++ [(u, P.bits &&& mb)]).length ((cs ++ [(u, P.bits &&& mb)]).flatMap (cyC P)) ∧ w.grownBy w' (Value.slice pc cs.length cc).ownBlock := by
 have hval : P.val = .agg #[.int .i64 P.mode, .int .i64 P.sub, .int .i64 P.set, .int .i64 P.len, .int .i64 P.ttl, .int .i64 P.ent, .int .i64 P.ing, .int .i64 P.pro, .int .u64 (P.bits : Int), .string P.pay] := rfl
 rw [hval]
 obtain ⟨b, hb⟩ : ∃ b, P.bits &&& mb = b := ⟨_, rfl⟩
 have hbu : U64 b := by rw [← hb]; exact u64_andl _ _ hP.bits
 have HM : Hid (mskP P b = (cyP P b, true)) := Lib.hid (by
  have e : P.bits &&& b = b := by rw [← hb, ← Nat.and_assoc, Nat.and_self]
  unfold mskP cyP
  rw [if_pos ⟨hv, ht, by rw [e, ← hb]; exact hpm⟩, e])
 have HVB : Hid (∀ b, (Value.slice pc cs.length cc).ownBlock = some b → b < w.heap.size) := Lib.hid (fun b e => (hown.lt b e).2)
 have htt := Lib.hid (show (P.ttl == 0) = false by simpa using ht)
 have hrr := Lib.hid (show (u == r) = false by simpa using hu)
 clear hu ht
 have H0 := Lib.hid (hb_start w loc lost (.slice pc cs.length cc) r s n p c L P u mb)
 unfold pcells at H0
 have hand := andU P.bits mb hP.bits hmb
 rw [hb] at hand ⊢
 clear hb hpm
 go_enter Tryd.func27, Tryd.ntmps27
 go_upto_region 1 with fail
 generalize ((((w.alloc _).alloc _).alloc _).alloc _).alloc _ = wa at *
 obtain ⟨m0, m1⟩ := row_cells H0.out.mb
 obtain ⟨d0, d1, d2, d3⟩ := row4T H0.out.bx
 obtain ⟨a0, a1, a2, a3, a4, a5, a6, a7, a8, a9⟩ := p_facts H0.out.pb
 obtain ⟨⟨o0, o1, o2⟩, f0, f1, f2⟩ := row3f H0.out.ob
 replace htt := htt.out
 replace hrr := hrr.out
 have hsz : C ≤ wa.heap.size := Nat.le_trans hC H0.out.gr.size
 have HO := Lib.hid (hown.kept H0.out.gr (by cases (Value.slice pc cs.length cc).ownBlock <;> simp))
 have HC := Lib.hid (And.intro hC hsz)
 clear hown hC hsz hv
 have hval2 := Lib.hid hval
 clear hval
 go_wp2_with fail
 rw [← hval2.out]
 refine (maskc_any P hP b hbu HM.out wa).mono ?_
 rintro e w1 ⟨rfl, hg⟩
 have H1 := Lib.hid (H0.out.keep hg)
 have HO1 := Lib.hid (HO.out.kept hg (by cases (Value.slice pc cs.length cc).ownBlock <;> simp))
 have HC1 := Lib.hid (And.intro HC.out.1 (Nat.le_trans HC.out.2 hg.size))
 clear m0 m1 d0 d1 d2 d3 a0 a1 a2 a3 a4 a5 a6 a7 a8 a9 o0 o1 o2 f0 f1 f2 hg H0 HO HC htt hrr hand
 obtain ⟨k1, k2⟩ := tone_box w1 (pcells (cyP P b)) 30
 have HN := Lib.hid (And.intro k1 (And.intro k2 (show (w1.alloc (.cells (pcells (cyP P b)) 30)).heap.size = w1.heap.size + 1 by simp)))
 unfold pcells cyP at HN
 clear k1 k2 HM
 go_upto_region 3 with fail
 generalize w1.alloc _ = w2 at *
 have H2 := Lib.hid (H1.out.keep HN.out.2.1)
 have HO2 := Lib.hid (HO1.out.kept HN.out.2.1 (by cases (Value.slice pc cs.length cc).ownBlock <;> simp))
 have HC2 := Lib.hid (And.intro HC1.out.1 (Nat.le_trans HC1.out.2 HN.out.2.1.size))
 have HQ : Hid (w2.heap[w1.heap.size]? = some (.cells (pcells (cyP P b)) 30 (0, 0))) := Lib.hid HN.out.1
 obtain ⟨a0, a1, a2, a3, a4, a5, a6, a7, a8, a9⟩ := p_facts HQ.out
 simp only [cyP] at a0 a1 a2 a3 a4 a5 a6 a7 a8 a9
 generalize w1.heap.size = G at *
 clear H1 HO1 HC1 HN HQ
 obtain ⟨m0, m1⟩ := row_cells H2.out.mb
 obtain ⟨⟨o0, o1, o2⟩, f0, f1, f2⟩ := row3f H2.out.ob
 obtain ⟨ie, hie, he0, he1, he2⟩ := info_parts info_cy
 have hsz : C ≤ w2.heap.size := HC2.out.2
 go_wp2_with (at_builtin; refine hold_on ?_)
 refine wpList_append_lies _ rfl _ _ 33 rfl C 43 ie (.agg #[.int .i64 0, .slice none 0 0, .int .i64 0, .int .i64 0, .int .i64 0, .int .i64 0, .int .i64 0, .int .i64 0, .int .i64 0, .int .i64 0, .int .u64 0, .string ⟨#[]⟩]) 12 120 Tryd.underlying33 hie he0 he1 he2 rfl (by decide) (.slice pc cs.length cc) cs.length (cs.flatMap (cyC P)) rfl (HO2.out.alloc _) ⟨w2.heap.size, 0, none⟩ 1 1 (cyC P (u, b)) rfl rfl (cy_row w2 P (u, b) _) (cy_one P (u, b)) (by decide) (by unfold maxLen; omega) (by omega) (by simp; omega) _ rfl ?_
 intro g cap w8 hown8 hgrow hat hlt8
 have ga := World.grownBy_alloc w2 (.cells #[.int .i64 u, .slice none 0 0, .int .i64 P.mode, .int .i64 P.sub, .int .i64 P.set, .int .i64 P.len, .int .i64 (P.ttl - 1), .int .i64 P.ent, .int .i64 P.ing, .int .i64 P.pro, .int .u64 (b : Int), .string P.pay] 43) none
 have hvb := HVB.out
 have ob8 := kept_row (kept_row H2.out.ob ga (by simp)) hgrow (fun e => by have := hvb _ e.symm; omega)
 have rb8 := kept_row (kept_row H2.out.rb ga (by simp)) hgrow (fun e => by have := hvb _ e.symm; omega)
 have gr8 := grown_trans (grown_none (grown_trans H2.out.gr ga) (Value.slice pc cs.length cc).ownBlock) hgrow
 have hg8 : g ≠ w.heap.size ∧ g ≠ w.heap.size + 1 + 1 + 1 + 1 := by
  obtain ⟨h4, -⟩ := Array.getElem?_eq_some_iff.1 H2.out.rb
  rcases hat with e | e
  ·have := hvb _ e
   omega
  ·simp at e
   omega
 have X8 := Lib.hid (And.intro hown8 (And.intro gr8 (And.intro hg8 (And.intro ob8 rb8))))
 clear hown8 hgrow hat hlt8 ga hvb ob8 rb8 gr8 hg8 a0 a1 a2 a3 a4 a5 a6 a7 a8 a9 m0 m1 o0 o1 o2 f0 f1 f2 H2 HO2 HC2 hsz
 obtain ⟨⟨o0, o1, o2⟩, f0, f1, f2⟩ := row3f X8.out.2.2.2.1
 go_upto_region 8 with fail
 have ob9 := heap_setCell_same w8 _ 2 _ _ (.slice (some ⟨g, 0, none⟩) (cs.length + 1) cap) X8.out.2.2.2.1
 have j9 := grown_setCell w8 ⟨w.heap.size, 2, none⟩ (.slice (some ⟨g, 0, none⟩) (cs.length + 1) cap)
 have X9 := Lib.hid (And.intro (X8.out.1.kept j9 (Or.inr (fun e => X8.out.2.2.1.1 (Option.some.inj e)))) (And.intro (grown_over X8.out.2.1 j9 (Nat.le_refl _)) (And.intro X8.out.2.2.1.2 (And.intro ob9 (kept_row X8.out.2.2.2.2 j9 (fun e => by have : w.heap.size + 1 + 1 + 1 + 1 = w.heap.size := Option.some.inj e; omega))))))
 clear ob9 j9 X8 o0 o1 o2 f0 f1 f2
 generalize w8.setCell _ _ = w9 at *
 obtain ⟨⟨o0, o1, o2⟩, -⟩ := row3f X9.out.2.2.2.1
 obtain ⟨⟨z0, z1, z2⟩, f0, f1, f2⟩ := row3f X9.out.2.2.2.2
 go_wp2_with fail
 refine bodyPost_ret (res_outcome rfl _ _ (w.heap.size + 1 + 1 + 1 + 1) _ rfl rfl (ob_put _ _ _ X9.out.2.2.2.2)) rfl ?_
 have jr := ob_grown w9 (w.heap.size + 1 + 1 + 1 + 1) (.int .u64 (loc : Int)) (.int .u64 (lost : Int)) (.slice (some ⟨g, 0, none⟩) (cs.length + 1) cap)
 refine ⟨some ⟨g, 0, none⟩, cap, by rw [List.length_append]; rfl, ?_, grown_over X9.out.2.1 jr (by omega)⟩
 have := X9.out.1.kept jr (Or.inr (fun e => X9.out.2.2.1 (Option.some.inj e)))
 rw [List.length_append, List.flatMap_append]
 simpa using this
end Go.Proofs.YtpogblengagpaaaDoor

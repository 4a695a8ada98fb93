/- Parts of the proof, packed: TaAlP. -/
import Derived.Test.YtahafijpcmphaaaGreatQr15
import Derived.Test.YtahafijpcmphaaaGreatQr19
/- tables: the program's All. -/
namespace Go.Proofs.YtahafijpcmphaaaGreat
open Go.RowKit Bs
set_option maxRecDepth 100000 in
set_option maxHeartbeats 12800000 in
theorem tAll_any (T : Tg) (s n : Int) (E : List Ed) (pE : Option Addr) (cE : Nat) (q q2 : Nat → Prop) (w : World) (hT : TgOk w q T) (hE : RdF w q2 (.slice pE E.length cE) E.length (E.flatMap edC)) (hm : E.length ≤ 9223372036854775807) (hp : T.pL = none → T.cL = 0) (hl0 : T.R.length ≤ 1000) (hl1 : okT T.R T.L = true → T.R.length ≤ 12) (hl2 : T.L.length ≤ 1000) :
    Calls Tryz.prog 36 #[.agg #[.slice T.pR T.R.length T.cR, .slice T.pL T.L.length T.cL], .agg #[.int .i64 s, .int .i64 n, .slice pE E.length cE]] w fun e w' => RAllPost T.R T.L s n E w e w' := by
  obtain ⟨R, L0, pR, cR, pL, cL⟩ := T
  simp only at hp hl0 hl1 hl2 ⊢
  have HPX := Lib.hid (And.intro hp hl1)
  clear hp hl1
  obtain ⟨ii, hii, hi0, hi1, hi2⟩ := info_parts info_tabT
  have H0 := Lib.hid (alT_start s n hT hE)
  clear hT hE
  go_enter Tryz.func36, Tryz.ntmps36
  go_upto_region 1 with fail
  generalize (w.alloc _).alloc _ = wa at *
  have hnil : ∀ w', ¬ (okT R L0 = true ∧ vPl s n E = true) → w.grownBy w' none → RAllPost R L0 s n E w (.returned (.tuple #[.slice none 0 0, .int .i64 1])) w' := fun w' hno g => ⟨[], none, 0, 1, rfl, Or.inr ⟨rfl, hno, rfl⟩, World.ownsRow_nil _ _ _ _, fun x hx => (by cases hx), g⟩
  have HNIL := Lib.hid hnil
  clear hnil
  obtain ⟨t0, t1⟩ := row_cells H0.out.bT
  obtain ⟨q0, q1, q2⟩ := row3B H0.out.bP
  go_wp2_with fail
  refine (tvalidT_any ⟨R, L0, pR, cR, pL, cL⟩ s n E pE cE _ _ wa H0.out.t H0.out.e hm).mono ?_
  rintro e w2 ⟨rfl, hg⟩
  have H2 := Lib.hid (H0.out.keep hg)
  clear hg H0 t0 t1 q0 q1 q2
  simp only
  obtain ⟨vb, hvb⟩ : ∃ vb, (okT R L0 && vPl s n E) = vb := ⟨_, rfl⟩
  rw [hvb]
  cases vb
  case false =>
    have HF : Hid (¬ (okT R L0 = true ∧ vPl s n E = true)) := Lib.hid (fun h => by rw [h.1, h.2] at hvb; cases hvb)
    clear hvb
    go_wp2_with fail
    go_ret2
    exact HNIL.out _ HF.out H2.out.gr
  have HV : Hid (okT R L0 = true ∧ vPl s n E = true) := Lib.hid (by simpa using hvb)
  have HOK := Lib.hid HV.out.1
  have hvp := HV.out.2
  clear hvb
  have HVP := Lib.hid hvp
  clear hvp HNIL hm HV
  have hRl := (okT_len HOK.out).1
  have hEl : E.length ≤ 1000 := by
    have h := HVP.out
    unfold vPl at h
    simp only [Bool.and_eq_true, decide_eq_true_eq] at h
    omega
  obtain ⟨t0, t1⟩ := row_cells H2.out.bT
  go_wp2_with fail
  go_loopw [6, 16] (fun v a wr => ∃ (k : Nat) (Ts : List Tb) (p : Option Addr) (c : Nat), k ≤ R.length ∧ v = .slice p Ts.length c ∧ a = .int .i64 (k : Int) ∧ Hid (AllM R L0 s n E (R.take k) Ts) ∧ Hid (AlT w ⟨R, L0, pR, cR, pL, cL⟩ s n E pE cE (.slice p Ts.length c) Ts wr)) (fun _ a _ => R.length - (RowKit.intOf a).toNat)
  case atStart => exact ⟨0, [], none, 0, Nat.zero_le _, rfl, rfl, Lib.hid (by rw [List.take_zero]; exact AllM.nil), H2⟩
  case round =>
  clear H2 t0 t1
  obtain ⟨k, Ts, p, c, hk, rfl, rfl, HB, K⟩ := hrel
  obtain ⟨w5, hw5⟩ : ∃ w5, w5 = wr := ⟨_, rfl⟩
  rw [← hw5] at K ⊢
  clear hw5
  by_cases hlt : k < R.length
  case neg =>
    obtain rfl : k = R.length := by omega
    have hnl : ¬ (R.length : Int) < (R.length : Int) := by omega
    rw [List.take_length] at HB
    have HK := Lib.hid K.out
    clear K
    go_wp2_with fail
    go_ret2
    exact ⟨Ts, p, c, 0, rfl, Or.inl ⟨rfl, HOK.out, HVP.out, HB.out⟩, HK.out.own.mono (by omega), fun x hx => by
      have h := HK.out.tabs x hx
      exact ⟨h.rd.mono (fun b hb => ⟨by have := hb.1; omega, hb.2⟩), h.hn, h.hc, h.hy⟩, HK.out.gr⟩
  have hlt' : (k : Int) < (R.length : Int) := by omega
  have hk0 : (0 : Int) ≤ (k : Int) := by omega
  obtain ⟨y, hy⟩ : ∃ y, R[k]? = some y := ⟨_, List.getElem?_eq_getElem hlt⟩
  obtain ⟨-, b, off, rfl, -, hc⟩ := rdr_cells (R := R) K.out.t.r (by omega)
  obtain ⟨a0, a1⟩ := hc k y hy
  have HY := Lib.hid hy
  clear hc hy
  have hb5 := alloc_row (w := w5) #[.int .i64 y.id, .bool y.cap] 92 rfl
  have H5 := Lib.hid (And.intro hb5.1 hb5.2.1)
  clear hb5
  go_upto_region 7 with fail
  clear a0 a1
  generalize w5.alloc _ = w6 at *
  generalize w5.heap.size = g5 at *
  have K6 := Lib.hid (K.out.keep H5.out.2)
  clear K
  obtain ⟨m0, m1⟩ := row_cells H5.out.1
  cases hcap : y.cap
  case false =>
    rw [hcap] at m1
    have HB2 := Lib.hid (HB.out.skip HY.out hcap)
    clear hcap HB m0
    go_wp2_with fail
    exact ⟨⟨k + 1, Ts, p, c, by omega, rfl, congrArg _ (by omega), HB2, K6⟩, by simp only [RowKit.intOf]; omega⟩
  rw [hcap] at m1
  have HC := Lib.hid hcap
  clear hcap
  have hLE : Hid (Ts.length ≤ 1000) := Lib.hid (by have := HB.out.len; rw [List.length_take] at this; omega)
  have hLl := hLE.out
  have HI : Hid (okT R L0 = true → I64 y.id) := Lib.hid (fun hok => by
    have := ids_inT hok (List.mem_map.2 ⟨y, List.mem_of_getElem? HY.out, rfl⟩)
    unfold I64; omega)
  obtain ⟨t0, t1⟩ := row_cells K6.out.bT
  obtain ⟨q0, q1, q2⟩ := row3B K6.out.bP
  go_wp2_with fail
  refine (tbuild_any ⟨R, L0, some ⟨b, off, none⟩, cR, pL, cL⟩ s n y.id E pE cE _ _ w6 K6.out.t K6.out.e hEl HPX.out.1 hl0 HPX.out.2 hl2 HI.out).mono ?_
  rintro e' w7 ⟨L, p2, c2, rfl, hown, hrows, hM, hg⟩
  have HBL := Lib.hid (And.intro hown (And.intro hrows hM))
  have K7 := Lib.hid (K6.out.keep hg)
  clear hown hrows hM hg t0 t1 q0 q1 q2 m0 m1
  simp only
  go_wp2_with (at_builtin; refine hold_on ?_)
  refine Lib.hid ?_
  refine wpList_append_lies _ rfl _ _ 29 rfl (w.heap.size + 2) 25 ii (.agg #[.int .i64 0, .int .i64 0, .int .i64 0, .slice none 0 0]) 4 48 Tryz.underlying29 hii hi0 hi1 hi2 rfl (by decide) (.slice p Ts.length c) Ts.length (Ts.flatMap tbC) (by rfl) (K7.out.own.alloc _) ⟨w7.heap.size, 0, none⟩ 1 1 (tbC ⟨y.id, s, n, L, p2, c2⟩) (by rfl) (by rfl) (tb_row w7 ⟨y.id, s, n, L, p2, c2⟩ _) (tb_one ⟨y.id, s, n, L, p2, c2⟩) (by decide) (by unfold maxLen; omega) (by omega) (by have := K7.out.lo; simp; omega) _ rfl ?_
  intro g cap w8 hown8 hgrow hat hlt8
  have ga := World.grownBy_alloc w7 (.cells #[.int .i64 y.id, .int .i64 s, .int .i64 n, .slice p2 L.length c2] 25) none
  have hv : (Value.slice (some ⟨g, 0, none⟩) (Ts.length + 1) cap).ownBlock = (Value.slice p Ts.length c).ownBlock ∨ ∀ b, some b = (Value.slice (some ⟨g, 0, none⟩) (Ts.length + 1) cap).ownBlock → (w7.alloc (.cells #[.int .i64 y.id, .int .i64 s, .int .i64 n, .slice p2 L.length c2] 25)).heap.size ≤ b := by
    rcases hat with h | h
    · exact Or.inl h.symm
    · refine Or.inr fun b e => ?_
      have e2 : some b = some g := e
      have := Option.some.inj e2
      rw [this, h]
      exact Nat.le_refl _
  have K8 := (K7.out.keep ga).push (x := ⟨y.id, s, n, L, p2, c2⟩) (v' := .slice (some ⟨g, 0, none⟩) (Ts.length + 1) cap) ((tbx_of_bld y.id s n HBL.out.1 HBL.out.2.1 (fun b e => (K6.out.own.lt b e).2) K6.out.lo).keep ga) (by rw [List.length_append, List.flatMap_append]; simpa [tbC] using hown8) hgrow hv
  have HB2 := Lib.hid (HB.out.push HY.out HC.out HBL.out.2.2 p2 c2)
  have HLL : Hid ((Ts ++ [(⟨y.id, s, n, L, p2, c2⟩ : Tb)]).length = Ts.length + 1) := Lib.hid (by rw [List.length_append]; rfl)
  have K8 := Lib.hid K8
  clear hown8 hgrow hat hlt8 ga hv K7 HBL
  go_wp2_with fail
  exact ⟨⟨k + 1, Ts ++ [⟨y.id, s, n, L, p2, c2⟩], some ⟨g, 0, none⟩, cap, by omega, by rw [HLL.out], congrArg _ (by omega), HB2, by rw [HLL.out]; exact K8⟩, by simp only [RowKit.intOf]; omega⟩
end Go.Proofs.YtahafijpcmphaaaGreat

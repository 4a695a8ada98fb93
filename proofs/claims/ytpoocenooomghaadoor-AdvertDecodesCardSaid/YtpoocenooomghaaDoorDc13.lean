/- Parts of the proof, packed: PkRest, AdDec, AdSq, AdRSm, AdAwake, PkEncR3, PkDecode, PkDecR. -/
import Derived.Test.YtpoocenooomghaaDoorDc9
import Derived.Deep.CutRange
import Derived.Test.YtpoocenooomghaaDoorDc12
import Derived.Test.YtpoocenooomghaaDoorDc6
import Derived.Test.YtpoocenooomghaaDoorDc11
import Derived.Laws.StructEq
import Derived.BigQuiet
import Derived.Test.YtpoocenooomghaaDoorDc10
import Derived.Deep.RegionLaw
/- packet: the rest of a packet is read. -/
namespace Go.Proofs.YtpoocenooomghaaDoor
open Go.RowKit Bs
/-- The error behind the header: of n bits and m bytes. -/
def restE (l : List Nat) (n m : Nat) : Int := if num (bt l) (49 + n + 8 * m) 16 ≠ crcB (bt l) (49 + n + 8 * m) then 23 else if num (bt l) (49 + n + 8 * m + 16) (8 * l.length - (49 + n + 8 * m + 16)) ≠ 0 then 24 else 0
/-- The payload. -/
def restP (l : List Nat) (n m : Nat) : ByteArray := bs (pz (fun i => bt l (49 + n + i)) (8 * m) m)
def restV (V : Nat → Nat) (n : Nat) (l : List Nat) : Array Value × Int := if restE l n (V 9) = 0 then (rcells V (n : Int) (num (bt l) 49 n) (restP l n (V 9)), 0) else (zpk, restE l n (V 9))
section
variable {W w w1 : World} {V : Nat → Nat} {n b : Nat} {s : ByteArray} {l : List Nat} {p : Option Addr} {c : Nat}
end
section
variable {w : World} {q : Nat → Prop} {l : List Nat} {p : Option Addr} {c : Nat}
set_option maxRecDepth 100000 in
theorem slice_whole {A T : Nat} {a b : Int} (t : Int) (ht : t = (T : Int)) (hl : By l) (h : 8 * l.length ≤ 8192) (hT : A + T ≤ 8 * l.length) (ha : a = (A : Int)) (hb : b = ((A + T : Nat) : Int)) (hR : Rd w q (.slice p l.length c) (l.map nv)) :
    Calls Tryd.prog 51 #[.agg #[.slice p l.length c, .int .i64 (8 * (l.length : Int))], .int .i64 a, .int .i64 b] w fun e w' =>
      ∃ p2 c2, e = .returned (.tuple #[.agg #[.slice p2 (pz (fun i => bt l (A + i)) T ((T + 7) / 8)).length c2, .int .i64 t], .int .i64 0]) ∧ Rd w' (w.heap.size ≤ ·) (.slice p2 (pz (fun i => bt l (A + i)) T ((T + 7) / 8)).length c2) ((pz (fun i => bt l (A + i)) T ((T + 7) / 8)).map nv) ∧ (p2 = none → c2 = 0) ∧ w.grownBy w' none := by
  subst ha hb ht
  refine (slicep_any l (8 * (l.length : Int)) (A : Int) ((A + T : Nat) : Int) _ p c hl (by unfold I64; omega) (by unfold I64; omega) w (fun _ h => h) hR.bound).mono fun e w' hp => ?_
  have hv := slV_ok (l := l) (N := 8 * l.length) (A := A) (T := T) (vs_whole h) rfl hT
  rw [Int.natCast_mul] at hv
  change slV l (8 * (l.length : Int)) _ _ = _ at hv
  rw [hv] at hp
  obtain ⟨u, he, ⟨p2, c2, rfl, h1, h2, _⟩, hg⟩ := hp
  exact ⟨p2, c2, he, h1, h2, hg⟩
set_option maxRecDepth 100000 in
theorem take_whole {A K : Nat} {a k : Int} (hl : By l) (h : 8 * l.length ≤ 8192) (hK : K ≤ 64) (hT : A + K ≤ 8 * l.length) (ha : a = (A : Int)) (hk : k = (K : Int)) (hR : Rd w q (.slice p l.length c) (l.map nv)) :
    Calls Tryd.prog 90 #[.agg #[.slice p l.length c, .int .i64 (8 * (l.length : Int))], .int .i64 a, .int .i64 k] w fun e w' => e = .returned (.tuple #[.int .u64 ((num (bt l) A K : Nat) : Int), .int .i64 0]) ∧ w.grownBy w' none := by
  subst ha hk
  refine (takep_any l (8 * (l.length : Int)) (A : Int) (K : Int) _ p c hl (by unfold I64; omega) w hR).mono fun e w' hp => ?_
  obtain ⟨he, hg⟩ := hp
  have hv := takeV_ok (l := l) (n := ((8 * l.length : Nat) : Int)) (a := (A : Int)) (k := (K : Int)) (vs_whole h) (by unfold vw; simp; omega) (by omega) (by omega)
  rw [Int.natCast_mul, Int.toNat_natCast, Int.toNat_natCast] at hv
  change takeV l (8 * (l.length : Int)) _ _ = _ at hv
  rw [hv] at he
  exact ⟨he, hg⟩
set_option maxRecDepth 100000 in
theorem check_part {T : Nat} {t : Int} (ht : t = (T : Int)) (h : T ≤ 8 * l.length) (h2 : 8 * l.length ≤ 8192) (hR : Rd w q (.slice p (pz (fun i => bt l (0 + i)) T ((T + 7) / 8)).length c) ((pz (fun i => bt l (0 + i)) T ((T + 7) / 8)).map nv)) :
    Calls Tryd.prog 45 #[.agg #[.slice p (pz (fun i => bt l (0 + i)) T ((T + 7) / 8)).length c, .int .i64 t]] w fun e w' => e = .returned (.tuple #[.int .u64 ((crcB (bt l) T : Nat) : Int), .int .i64 0]) ∧ w.grownBy w' none := by
  subst ht
  refine (checkp_any _ (T : Int) _ p c (pz_lt _ _ _) w hR).mono fun e w' hp => ?_
  obtain ⟨he, hg⟩ := hp
  have hvs : vs (pz (fun i => bt l (0 + i)) T ((T + 7) / 8)) (T : Int) = true := by
    refine vs_iff.2 ⟨by omega, pz_len _ _ _, fun i hi hn => ?_⟩
    rw [pz_len] at hi
    rw [bt_pz _ _ _ _ hi]
    simp; omega
  rw [chkV_ok hvs] at he
  rw [← chk_same (f := bt (pz (fun i => bt l (0 + i)) T ((T + 7) / 8))) (g := bt l) T fun i hi => by rw [bt_pz _ _ _ _ (by omega)]; simp [hi]]
  exact ⟨he, hg⟩
end
end Go.Proofs.YtpoocenooomghaaDoor

/- advert.Decode. -/
namespace Go.Proofs.YtpoocenooomghaaDoor
open Go.RowKit Bs
/-- What Decode returns: an advert with the fields that the bytes say, or an error. -/
def ADecPost (l : List Nat) (w : World) (e : Ending) (w' : World) : Prop :=
  ∃ A : Ad, AdIs l A ∧ AdOk w' (w.heap.size ≤ ·) A ∧ w.grownBy w' none ∧
    (decE l (vAd A) = 0 → e = .returned (.tuple #[A.val, .int .i64 0])) ∧
    (decE l (vAd A) ≠ 0 → e = .returned (.tuple #[.agg #[.int .i64 0, .int .i64 0, .bool false, .slice none 0 0, .slice none 0 0], .int .i64 ((decE l (vAd A) : Nat) : Int)]))
set_option maxRecDepth 100000 in
theorem res_adv_err {fn : Func} {p u : Tmp} (h : fn.results = #[.cell p 26, .tmp u]) (tmps : Array Value) (w : World) (g : Nat) (x y z s t : Value) (hp : tmps.getD p undef = .pointer (some ⟨g, 0, none⟩)) (hg : w.heap[g]? = some (.cells #[x, y, z, s, t] 26 (0, 0))) :
    (results fn tmps).run Tryd.prog w = .ok (.tuple #[.agg #[x, y, z, s, t], tmps.getD u undef]) w := by
  have hp' : tmps[p]?.getD undef = .pointer (some ⟨g, 0, none⟩) := by simpa using hp
  rw [results_cell_tmp h]
  simp [hp', asAddr, run_loadVar_row w g _ _ _ _ _ hg Tryd.underlying26 rfl adv_size, Result.andThen]
set_option maxRecDepth 100000 in
set_option maxHeartbeats 6400000 in
theorem adec_any (l : List Nat) (hl : By l) (h1 : l.length ≤ 1024) (p : Option Addr) (c : Nat) (hc : l.length ≤ c) (q : Nat → Prop) (w : World) (hR : Rd w q (.slice p l.length c) (l.map nv)) :
    Calls Tryd.prog 21 #[.slice p l.length c] w fun e w' => ADecPost l w e w' := by
  have hmin : min (l.length : Int) 1024 = (l.length : Int) := by omega
  have hz := heap_alloc_new w (.cells #[.int .i64 0, .int .i64 0, .bool false, .slice none 0 0, .slice none 0 0] 26)
  have hzg := World.grownBy_alloc w (.cells #[.int .i64 0, .int .i64 0, .bool false, .slice none 0 0, .slice none 0 0] 26) none
  obtain ⟨wa, hwa⟩ : ∃ wa, wa = w.alloc (.cells #[.int .i64 0, .int .i64 0, .bool false, .slice none 0 0, .slice none 0 0] 26) := ⟨_, rfl⟩
  have hsz : wa.heap.size = w.heap.size + 1 := by rw [hwa]; simp
  rw [← hwa] at hz hzg
  have hb := heap_alloc_new wa (.cells #[.slice p l.length c, .int .i64 (8 * (l.length : Int)), .int .i64 0, .bool false] 82)
  have hbg := World.grownBy_alloc wa (.cells #[.slice p l.length c, .int .i64 (8 * (l.length : Int)), .int .i64 0, .bool false] 82) none
  obtain ⟨wb, hwb⟩ : ∃ wb, wb = wa.alloc (.cells #[.slice p l.length c, .int .i64 (8 * (l.length : Int)), .int .i64 0, .bool false] 82) := ⟨_, rfl⟩
  have hszb : wb.heap.size = w.heap.size + 2 := by rw [hwb]; simp [hsz]
  rw [← hwb] at hb hbg
  have hRb := hR.bound.keep (grown_trans hzg hbg)
  have HN : Hid (RN wb wa.heap.size l p c 0 wb) := Lib.hid ⟨⟨0, by rw [decide_eq_false (by omega)]; exact hb, Nat.le_refl _, fun _ => rfl, Nat.zero_le _⟩, hRb.mono (fun b hb => by rw [hsz]; constructor <;> omega), grown_refl _ _, by omega⟩
  have HZ : Hid (wb.heap[w.heap.size]? = some (.cells #[.int .i64 0, .int .i64 0, .bool false, .slice none 0 0, .slice none 0 0] 26 (0, 0)) ∧ w.grownBy wb none) := Lib.hid ⟨kept_row hz hbg (by simp), grown_trans hzg hbg⟩
  clear hz hzg hb hbg hRb hR
  go_enter Tryd.func21, Tryd.ntmps21
  go_upto_region 3 with fail
  rw [← hwa]
  rw [← hwb]
  rw [hsz] at HN
  obtain ⟨S, hS⟩ : ∃ S, w.heap.size + 1 = S := ⟨_, rfl⟩
  rw [hS] at HN hsz ⊢
  clear hwa hwb
  go_wp2_with fail
  refine (ardr_any l hl h1 S p c wb HN.out).mono ?_
  rintro e w1 ⟨⟨r, q2, cp, L, C, pL, cL, pC, cC⟩, rfl, hI, hO, hN1⟩
  have hEl : eCm l ≤ 1200 := by
    unfold eCm nCm aCm nLk
    have := fd_lt l 28 5
    have := fd_lt l (33 + fd l 28 5 * 27) 4
    omega
  obtain ⟨A, hA⟩ : ∃ A : Ad, A = ⟨r, q2, cp, L, C, pL, cL, pC, cC⟩ := ⟨_, rfl⟩
  have hV : A.val = .agg #[.int .i64 r, .int .i64 q2, .bool cp, .slice pL L.length cL, .slice pC C.length cC] := by rw [hA]; rfl
  have hC : adC A = #[.int .i64 r, .int .i64 q2, .bool cp, .slice pL L.length cL, .slice pC C.length cC] := by rw [hA]; rfl
  rw [← hA] at hI hO ⊢
  rw [hV]
  have HV := Lib.hid hV
  clear hA hV
  have hk1 := World.grownBy_alloc w1 (.cells (adC A) 26) none
  have HI := Lib.hid hI
  have HD1 := Lib.hid (And.intro (heap_alloc_new w1 (.cells (adC A) 26)) (And.intro (hO.keep hk1) (And.intro (hN1.keep hk1) (And.intro (kept_row (kept_row HZ.out.1 hN1.gr (fun e => by have : w.heap.size = S := Option.some.inj e; omega)) hk1 (by simp)) (Nat.le_trans hN1.gr.size hk1.size)))))
  have hDS : S < w1.heap.size := Nat.lt_of_lt_of_le hN1.lt hN1.gr.size
  have hDW : w.heap.size < w1.heap.size := by omega
  clear hI hO hN1 HN hk1
  rw [hC] at HD1
  clear hC
  go_upto_region 4 with fail
  generalize w1.alloc _ = w2 at *
  obtain ⟨D, hD⟩ : ∃ D, w1.heap.size = D := ⟨_, rfl⟩
  rw [hD] at HD1 hDS hDW ⊢
  clear hD
  obtain ⟨a1, hb1, ha1, he1, h81⟩ := HD1.out.2.2.1.bx
  obtain ⟨⟨c0, c1, c2, c3⟩, -, -⟩ := row4 hb1
  clear hb1
  go_wp2_with fail
  refine (slice_whole (A := 0) (T := a1) (a1 : Int) rfl hl (by omega) (by omega) rfl (by omega) HD1.out.2.2.1.rd).mono ?_
  rintro e w3 ⟨p2, c5, rfl, hR2, -, hg⟩
  have hk3 := World.grownBy_alloc w3 (.cells #[.slice p2 (pz (fun i => bt l (0 + i)) a1 ((a1 + 7) / 8)).length c5, .int .i64 (a1 : Int)] 47) none
  have HG := Lib.hid (And.intro (heap_alloc_new w3 (.cells #[.slice p2 (pz (fun i => bt l (0 + i)) a1 ((a1 + 7) / 8)).length c5, .int .i64 (a1 : Int)] 47)) (hR2.keep hk3))
  have g13 := grown_trans hg hk3
  have HD3 := Lib.hid (And.intro (kept_row HD1.out.1 g13 (by simp)) (And.intro (HD1.out.2.1.keep g13) (And.intro (HD1.out.2.2.1.keep g13) (kept_row HD1.out.2.2.2.1 g13 (by simp)))))
  have hGS : S < w3.heap.size := Nat.lt_of_lt_of_le (Nat.lt_of_lt_of_le HD1.out.2.2.1.lt HD1.out.2.2.1.gr.size) hg.size
  have HA1 := Lib.hid (And.intro ha1 (And.intro he1 h81))
  have hCk := check_part (l := l) (T := a1) (t := (a1 : Int)) rfl h81 (by omega) HG.out.2
  have HG0 := Lib.hid HG.out.1
  obtain ⟨L1, hL1⟩ : ∃ L1, (pz (fun i => bt l (0 + i)) a1 ((a1 + 7) / 8)).length = L1 := ⟨_, rfl⟩
  rw [hL1] at hCk HG0 HD3 ⊢
  have HCk := Lib.hid hCk
  clear HG hL1 hCk
  clear hR2 hg hk3 g13 HD1 c0 c1 c2 c3 he1 ha1 h81
  go_upto_region 5 with fail
  generalize w3.alloc _ = w4 at *
  obtain ⟨G, hG⟩ : ∃ G, w3.heap.size = G := ⟨_, rfl⟩
  rw [hG] at HG0 hGS ⊢
  clear hG
  obtain ⟨c0, c1⟩ := row_cells HG0.out
  go_wp2_with fail
  refine HCk.out.mono ?_
  rintro e w5 ⟨rfl, hg⟩
  have HD5 := Lib.hid (And.intro (kept_row HD3.out.1 hg (by simp)) (And.intro (HD3.out.2.1.keep hg) (And.intro (HD3.out.2.2.1.keep hg) (kept_row HD3.out.2.2.2 hg (by simp)))))
  clear hg HD3 HG0 HCk c0 c1
  obtain ⟨y, hy⟩ : ∃ y, Bs.crcB (bt l) a1 = y := ⟨_, rfl⟩
  rw [hy]
  have hy16 : y < 65536 := by rw [← hy]; exact Bs.chk_lt _ _
  have HY := Lib.hid hy
  clear hy
  go_wp2_with fail
  refine (HD5.out.2.2.1.take hl h1 16 (by decide) (by omega)).mono ?_
  rintro e w6 ⟨rfl, hN, hg⟩
  have HD6 := Lib.hid (And.intro (kept_row HD5.out.1 hg (fun e => by have := Option.some.inj e; omega)) (And.intro (HD5.out.2.1.grown hg (fun b hb e => by have := Option.some.inj e; have := HD5.out.2.2.1.lt; omega)) (And.intro hN (kept_row HD5.out.2.2.2 hg (fun e => by have := Option.some.inj e; omega)))))
  clear hN hg HD5
  obtain ⟨x, hx⟩ : ∃ x, fd l (eCm l) 16 = x := ⟨_, rfl⟩
  rw [hx]
  have hx16 : x < 65536 := by rw [← hx]; exact fd_lt _ _ 16
  have HX := Lib.hid hx
  clear hx
  obtain ⟨a2, hb2, ha2, he2, h82⟩ := HD6.out.2.2.1.bx
  obtain ⟨⟨-, -, c2, -⟩, -, -⟩ := row4 hb2
  clear hb2
  go_upto_region 7 with fail
  go_wp2_with fail
  rw [show (-((a2 : Int) % 8) % 8) = (((8 - a2 % 8) % 8 : Nat) : Int) by omega]
  obtain ⟨k, hk⟩ : ∃ k, (8 - a2 % 8) % 8 = k := ⟨_, rfl⟩
  rw [hk]
  have hk7 : k ≤ 7 := by omega
  refine (HD6.out.2.2.1.take hl h1 k (by omega) (by omega)).mono ?_
  rintro e w7 ⟨rfl, hN, hg⟩
  have HD7 := Lib.hid (And.intro (kept_row HD6.out.1 hg (fun e => by have := Option.some.inj e; omega)) (And.intro (HD6.out.2.1.grown hg (fun b hb e => by have := Option.some.inj e; have := HD6.out.2.2.1.lt; omega)) (And.intro hN (kept_row HD6.out.2.2.2 hg (fun e => by have := Option.some.inj e; omega)))))
  have HK := Lib.hid (And.intro hk (And.intro he2 h82))
  clear hN hg HD6 c2 he2 h82 hk
  obtain ⟨z, hz⟩ : ∃ z, fd l (eCm l + 16) k = z := ⟨_, rfl⟩
  rw [hz]
  have hz16 : z < 128 := by rw [← hz]; exact fd_le _ _ _ _ (Nat.pow_le_pow_right (n := 2) (by decide) hk7)
  have HZZ := Lib.hid hz
  clear hz
  obtain ⟨a3, hb3, ha3, he3, h83⟩ := HD7.out.2.2.1.bx
  obtain ⟨⟨-, -, c2, c3⟩, -, -⟩ := row4 hb3
  have HK3 := Lib.hid (And.intro he3 h83)
  clear hb3 he3 h83
  obtain ⟨d0, d1, d2, d3, d4⟩ := row5 HD7.out.2.2.2
  have f0 := frozen_of_row _ _ 0 _ _ HD7.out.2.2.2
  have f1 := frozen_of_row _ _ 1 _ _ HD7.out.2.2.2
  have f2 := frozen_of_row _ _ 2 _ _ HD7.out.2.2.2
  have f3 := frozen_of_row _ _ 3 _ _ HD7.out.2.2.2
  have f4 := frozen_of_row _ _ 4 _ _ HD7.out.2.2.2
  have HW : Hid (w.grownBy w7 none) := Lib.hid (grown_new HZ.out.2 HD7.out.2.2.1.gr (by omega))
  have HO : Hid (AdOk w7 (w.heap.size ≤ ·) A) := Lib.hid (HD7.out.2.1.mono (fun b hb => by omega))
  obtain ⟨t1, t2⟩ := store5 (.int .i64 0) (.int .i64 0) (.bool false) (.slice none 0 0) (.slice none 0 0) HD7.out.2.2.2
  have HT := Lib.hid (And.intro t1 (And.intro (grown_new HW.out t2 (Nat.le_refl _)) (HD7.out.2.1.grown t2 (fun b hb e => by have := Option.some.inj e; omega))))
  clear t1 t2
  by_cases hsh : 8 * l.length < eCm l + 16
  · rw [decide_eq_true (show 8 * l.length < eCm l + 16 + k by omega)] at c3
    have HE : Hid (∀ v, decE l v = 20) := Lib.hid (fun v => by unfold decE; rw [if_pos hsh])
    clear hsh
    go_wp2_with fail
    refine bodyPost_ret (res_adv_err rfl _ _ w.heap.size _ _ _ _ _ rfl HT.out.1) rfl ?_
    exact ⟨A, HI.out, HT.out.2.2.mono (fun b hb => by omega), HT.out.2.1, fun h => absurd h (by rw [HE.out]; decide), fun _ => by rw [HE.out]; rfl⟩
  · have ea2 := HK.out.2.1 hsh
    have hk := HK.out.1
    rw [ea2] at hk
    have hns : ¬ 8 * l.length < eCm l + 16 + k := by omega
    have ea3 := HK3.out.1 hns
    have hxn : num (bt l) (eCm l) 16 = x := by
      have h := HX.out
      unfold fd at h
      rwa [if_neg hsh] at h
    have hzn : num (bt l) (eCm l + 16) k = z := by
      have h := HZZ.out
      unfold fd at h
      rwa [if_neg hns] at h
    have hyn : Bs.crcB (bt l) (eCm l) = y := by
      have h := HY.out
      rwa [HA1.out.2.1 (by omega)] at h
    have HE : Hid (∀ v, decE l v = if x ≠ y then 23 else if z ≠ 0 then 24 else if (eCm l + 16 + 7) / 8 < l.length then 21 else if v = false then 1 else 0) := Lib.hid (fun v => by
      unfold decE
      rw [if_neg hsh, hxn, hyn, hk, hzn])
    rw [decide_eq_false hns] at c3
    rw [ea3] at c2
    have hlong : (eCm l + 16 + k) / 8 = (eCm l + 16 + 7) / 8 := by omega
    clear HX HZZ HY HK HK3 hxn hzn hyn hns ea2 ea3 hsh
    obtain ⟨n, hn⟩ : ∃ n, eCm l + 16 + k = n := ⟨_, rfl⟩
    rw [hn] at c2 hlong
    rw [← hlong] at HE
    have hnb : n ≤ 4000 := by omega
    have hnw : wrap64 ((n : Int) / 8) = (n : Int) / 8 := by unfold wrap64; omega
    clear hlong hk hn
    by_cases hxy : x = y
    · subst hxy
      by_cases hz0 : z = 0
      · subst hz0
        by_cases hlen : n / 8 < l.length
        · have hlen' : (n : Int) / 8 < (l.length : Int) := by omega
          have HE2 : Hid (∀ v, decE l v = 21) := Lib.hid (fun v => by rw [HE.out, if_neg (by simp), if_neg (by simp), if_pos hlen])
          clear HE hlen
          go_wp2_with fail
          refine bodyPost_ret (res_adv_err rfl _ _ w.heap.size _ _ _ _ _ rfl HT.out.1) rfl ?_
          exact ⟨A, HI.out, HT.out.2.2.mono (fun b hb => by omega), HT.out.2.1, fun h => absurd h (by rw [HE2.out]; decide), fun _ => by rw [HE2.out]; rfl⟩
        · have hlb : decide ((n : Int) / 8 < (l.length : Int)) = false := decide_eq_false (by omega)
          have hlen' : ¬ (n : Int) / 8 < (l.length : Int) := by omega
          have HE2 : Hid (∀ v, decE l v = if v = false then 1 else 0) := Lib.hid (fun v => by rw [HE.out, if_neg (by simp), if_neg (by simp), if_neg hlen])
          clear HE hlen
          obtain ⟨e0, e1, e2, e3, e4⟩ := row5 HD7.out.1
          go_wp2_with fail
          have hVa := (avalid_any A _ w7 HO.out)
          rw [HV.out] at hVa
          refine hVa.mono ?_
          rintro e w8 ⟨rfl, hg⟩
          have HO8 : Hid (AdOk w8 (wb.heap.size ≤ ·) A ∧ w.grownBy w8 none) := Lib.hid ⟨HD7.out.2.1.keep hg, grown_trans HW.out hg⟩
          have HD8 := Lib.hid (And.intro (kept_row HD7.out.1 hg (by simp)) (kept_row HD7.out.2.2.2 hg (by simp)))
          clear d0 d1 d2 d3 d4 f0 f1 f2 f3 f4 e0 e1 e2 e3 e4 HT hVa hg
          obtain ⟨d0, d1, d2, d3, d4⟩ := row5 HD8.out.2
          obtain ⟨e0, e1, e2, e3, e4⟩ := row5 HD8.out.1
          have f0 := frozen_of_row _ _ 0 _ _ HD8.out.2
          have f1 := frozen_of_row _ _ 1 _ _ HD8.out.2
          have f2 := frozen_of_row _ _ 2 _ _ HD8.out.2
          have f3 := frozen_of_row _ _ 3 _ _ HD8.out.2
          have f4 := frozen_of_row _ _ 4 _ _ HD8.out.2
          cases hv : vAd A with
          | false =>
            have HE3 : Hid (decE l (vAd A) = 1) := Lib.hid (by rw [hv, HE2.out, if_pos rfl])
            clear hv
            obtain ⟨t1, t2⟩ := store5 (.int .i64 0) (.int .i64 0) (.bool false) (.slice none 0 0) (.slice none 0 0) HD8.out.2
            have HT := Lib.hid (And.intro t1 (And.intro (grown_new HO8.out.2 t2 (Nat.le_refl _)) (HO8.out.1.grown t2 (fun b hb e => by have := Option.some.inj e; omega))))
            clear t1 t2
            go_wp2_with fail
            refine bodyPost_ret (res_adv_err rfl _ _ w.heap.size _ _ _ _ _ rfl HT.out.1) rfl ?_
            exact ⟨A, HI.out, HT.out.2.2.mono (fun b hb => by omega), HT.out.2.1, fun h => absurd h (by rw [HE3.out]; decide), fun _ => by rw [HE3.out]; rfl⟩
          | true =>
            have HE3 : Hid (decE l (vAd A) = 0) := Lib.hid (by rw [hv, HE2.out, if_neg (by decide)])
            clear hv
            obtain ⟨t1, t2⟩ := store5 (.int .i64 r) (.int .i64 q2) (.bool cp) (.slice pL L.length cL) (.slice pC C.length cC) HD8.out.2
            have HT := Lib.hid (And.intro t1 (And.intro (grown_new HO8.out.2 t2 (Nat.le_refl _)) (HO8.out.1.grown t2 (fun b hb e => by have := Option.some.inj e; omega))))
            clear t1 t2
            go_wp2_with fail
            refine bodyPost_ret (res_adv_err rfl _ _ w.heap.size _ _ _ _ _ rfl HT.out.1) rfl ?_
            exact ⟨A, HI.out, HT.out.2.2.mono (fun b hb => by omega), HT.out.2.1, fun _ => by rw [HV.out]; rfl, fun h => absurd HE3.out h⟩
      · have hz0' : ((z : Int) == 0) = false := by simp [hz0]
        have hz1' : ((z : Int) != 0) = true := by simp [hz0]
        have HE2 : Hid (∀ v, decE l v = 24) := Lib.hid (fun v => by rw [HE.out, if_neg (by simp), if_pos hz0])
        clear HE
        go_wp2_with fail
        refine bodyPost_ret (res_adv_err rfl _ _ w.heap.size _ _ _ _ _ rfl HT.out.1) rfl ?_
        exact ⟨A, HI.out, HT.out.2.2.mono (fun b hb => by omega), HT.out.2.1, fun h => absurd h (by rw [HE2.out]; decide), fun _ => by rw [HE2.out]; rfl⟩
    · have hxy' : ((x : Int) == (y : Int)) = false := by simp; omega
      have hxy1 : ((x : Int) != (y : Int)) = true := by simp; omega
      have HE2 : Hid (∀ v, decE l v = 23) := Lib.hid (fun v => by rw [HE.out, if_pos hxy])
      clear HE
      go_wp2_with fail
      refine bodyPost_ret (res_adv_err rfl _ _ w.heap.size _ _ _ _ _ rfl HT.out.1) rfl ?_
      exact ⟨A, HI.out, HT.out.2.2.mono (fun b hb => by omega), HT.out.2.1, fun h => absurd h (by rw [HE2.out]; decide), fun _ => by rw [HE2.out]; rfl⟩
end Go.Proofs.YtpoocenooomghaaDoor

/- Two links compared, two claims compared. -/
namespace Go.Proofs.YtpoocenooomghaaDoor
open Go.RowKit Bs
set_option maxRecDepth 100000 in
theorem neq_reach (x y : T3) (w : World) : (binOp .neq 70 (.agg #[.int .i64 x.a, .int .i64 x.b, .int .i64 x.c]) (.agg #[.int .i64 y.a, .int .i64 y.b, .int .i64 y.c])).run Tryd.prog w = .ok (.bool (!(x.a == y.a && (x.b == y.b && x.c == y.c)))) w := by
  go_simp
  by_cases h1 : x.a = y.a <;> by_cases h2 : x.b = y.b <;> by_cases h3 : x.c = y.c <;> simp [h1, h2, h3]
set_option maxRecDepth 100000 in
theorem neq_claim (x y : T3) (w : World) : (binOp .neq 73 (.agg #[.int .i64 x.a, .int .i64 x.b, .int .i64 x.c]) (.agg #[.int .i64 y.a, .int .i64 y.b, .int .i64 y.c])).run Tryd.prog w = .ok (.bool (!(x.a == y.a && (x.b == y.b && x.c == y.c)))) w := by
  go_simp
  by_cases h1 : x.a = y.a <;> by_cases h2 : x.b = y.b <;> by_cases h3 : x.c = y.c <;> simp [h1, h2, h3]
set_option maxRecDepth 100000 in
theorem t3_eq (x y : T3) : (x.a == y.a && (x.b == y.b && x.c == y.c)) = decide (x = y) := by
  cases x; cases y
  simp only [T3.mk.injEq, Bool.decide_and]
  rfl
end Go.Proofs.YtpoocenooomghaaDoor

/- The reference's Same. -/
namespace Go.Proofs.YtpoocenooomghaaDoor
open Go.RowKit Bs
set_option maxRecDepth 100000 in
set_option maxHeartbeats 6400000 in
theorem rsame_any (A B : Ad) (q q2 : Nat → Prop) (w : World) (hA : AdOk w q A) (hB : AdOk w q2 B) :
    Calls Tryd.prog 17 #[A.val, B.val] w fun e w' => e = .returned (.bool (decide (cmpA A B = 0))) ∧ w.grownBy w' none := by
  have hm1 := Nat.le_trans hA.hl.1 hA.hl.2
  have hm2 := Nat.le_trans hA.hc.1 hA.hc.2
  have HZ := Lib.hid (two_ads w A B)
  have HOK : Hid (TwoA _ A B q q2) := Lib.hid ⟨hA.keep HZ.out.2, hB.keep HZ.out.2⟩
  have HB := Lib.hid HZ.out.1
  have K := Lib.hid HZ.out.2
  clear HZ hA hB
  obtain ⟨X, hX⟩ : ∃ X, decide (cmpA A B = 0) = X := ⟨_, rfl⟩
  rw [hX]
  have HX := Lib.hid hX
  clear hX
  unfold Ad.val
  obtain ⟨pL, hpL⟩ : ∃ p, A.pL = p := ⟨_, rfl⟩
  obtain ⟨pC, hpC⟩ : ∃ p, A.pC = p := ⟨_, rfl⟩
  obtain ⟨pL2, hpL2⟩ : ∃ p, B.pL = p := ⟨_, rfl⟩
  obtain ⟨pC2, hpC2⟩ : ∃ p, B.pC = p := ⟨_, rfl⟩
  rw [hpL, hpC, hpL2, hpC2]
  have HP := Lib.hid (And.intro hpL (And.intro hpC (And.intro hpL2 hpC2)))
  unfold adC at HB K HOK
  rw [hpL, hpC, hpL2, hpC2] at HB K HOK
  go_enter Tryd.func17, Tryd.ntmps17
  go_upto_region 1 with fail
  generalize (w.alloc _).alloc _ = wa at *
  have HB : Hid (wa.heap[w.heap.size]? = some (.cells (adC A) 26 (0, 0)) ∧ wa.heap[w.heap.size + 1]? = some (.cells (adC B) 26 (0, 0))) := Lib.hid (by unfold adC; rw [hpL, hpC, hpL2, hpC2]; exact HB.out)
  have GZ : Hid (wa.grownBy wa none) := Lib.hid (grown_refl _ _)
  clear hpL hpC hpL2 hpC2
  obtain ⟨a0, a1, a2, a3, a4, b0, b1, b2, b3, b4, -⟩ := keepTA HB.out GZ
  rw [HP.out.1] at a3
  rw [HP.out.2.1] at a4
  rw [HP.out.2.2.1] at b3
  rw [HP.out.2.2.2] at b4
  by_cases h0 : A.r = B.r
  rotate_left
  · obtain rfl : X = false := by rw [← HX.out]; exact decide_eq_false (fun h => h0 (cmpA_zero.1 h).1)
    have h' : (A.r == B.r) = false := by simpa using h0
    go_wp2_with fail
    go_ret
    exact ⟨rfl, K.out⟩
  by_cases h1 : A.q = B.q
  rotate_left
  · obtain rfl : X = false := by rw [← HX.out]; exact decide_eq_false (fun h => h1 (cmpA_zero.1 h).2.1)
    have h' : (A.q == B.q) = false := by simpa using h1
    go_wp2_with fail
    go_ret
    exact ⟨rfl, K.out⟩
  by_cases h2 : A.cp = B.cp
  rotate_left
  · obtain rfl : X = false := by rw [← HX.out]; exact decide_eq_false (fun h => h2 (cmpA_zero.1 h).2.2.1)
    have h' : (A.cp == B.cp) = false := by simpa using h2
    clear h2
    go_wp2_with fail
    go_ret
    exact ⟨rfl, K.out⟩
  have h2' : (A.cp == B.cp) = true := by simpa using h2
  have HE := Lib.hid (And.intro h0 (And.intro h1 h2))
  clear h2
  by_cases h3 : A.L.length = B.L.length
  rotate_left
  · obtain rfl : X = false := by rw [← HX.out]; exact decide_eq_false (fun h => h3 (congrArg List.length (cmpA_zero.1 h).2.2.2.1))
    have h3' : ¬ (A.L.length : Int) = (B.L.length : Int) := by omega
    clear h3
    go_wp2_with fail
    go_ret
    exact ⟨rfl, K.out⟩
  by_cases h4 : A.C.length = B.C.length
  rotate_left
  · obtain rfl : X = false := by rw [← HX.out]; exact decide_eq_false (fun h => h4 (congrArg List.length (cmpA_zero.1 h).2.2.2.2))
    have h4' : ¬ (A.C.length : Int) = (B.C.length : Int) := by omega
    rw [← h3] at b3 ⊢
    clear h3 h4
    go_wp2_with fail
    go_ret
    exact ⟨rfl, K.out⟩
  rw [← h3] at b3 ⊢
  rw [← h4] at b4 ⊢
  have H34 := Lib.hid (And.intro h3 h4)
  clear h3 h4
  go_wp2_with fail
  clear h2' h0 h1 a0 a1 a2 a3 a4 b0 b1 b2 b3 b4
  go_loopw [5] (fun a wr => ∃ k : Nat, k ≤ A.L.length ∧ a = .int .i64 (k : Int) ∧ Hid (A.L.take k = B.L.take k) ∧ Hid (wa.grownBy wr none)) (fun a _ => A.L.length - (RowKit.intOf a).toNat)
  case atStart => exact ⟨0, Nat.zero_le _, rfl, Lib.hid rfl, GZ⟩
  case round =>
  obtain ⟨w2, rfl⟩ : ∃ w2, w2 = wr := ⟨_, rfl⟩
  obtain ⟨k, hk, rfl, HI, HG⟩ := hrel
  clear GZ
  obtain ⟨a0, a1, a2, a3, a4, b0, b1, b2, b3, b4, -⟩ := keepTA HB.out HG
  rw [HP.out.1] at a3
  rw [HP.out.2.1] at a4
  rw [HP.out.2.2.1, ← H34.out.1] at b3
  rw [HP.out.2.2.2, ← H34.out.2] at b4
  clear a0 a1 a2 b0 b1 b2
  by_cases hlt : k < A.L.length
  · obtain ⟨-, bL, oL, hp, -, hc⟩ := rd3_cells (HOK.out.a.keep HG.out).l (by omega)
    obtain rfl : pL = some ⟨bL, oL, none⟩ := HP.out.1.symm.trans hp
    obtain ⟨x, hx⟩ : ∃ x, A.L[k]? = some x := ⟨_, List.getElem?_eq_getElem hlt⟩
    obtain ⟨x0, x1, x2⟩ := hc k x hx
    have hlt2 : k < B.L.length := by have := H34.out.1; omega
    obtain ⟨-, bM, oM, hp2, -, hd⟩ := rd3_cells (HOK.out.b.keep HG.out).l (by omega)
    obtain rfl : pL2 = some ⟨bM, oM, none⟩ := HP.out.2.2.1.symm.trans hp2
    obtain ⟨y, hy⟩ : ∃ y, B.L[k]? = some y := ⟨_, List.getElem?_eq_getElem hlt2⟩
    obtain ⟨y0, y1, y2⟩ := hd k y hy
    have HXY := Lib.hid (And.intro hx hy)
    clear hp hp2 hc hd hx hy hlt2
    obtain ⟨v, hv⟩ : ∃ v, decide (x = y) = v := ⟨_, rfl⟩
    have hn : ∀ w, (binOp .neq 70 (.agg #[.int .i64 x.a, .int .i64 x.b, .int .i64 x.c]) (.agg #[.int .i64 y.a, .int .i64 y.b, .int .i64 y.c])).run Tryd.prog w = .ok (.bool (!v)) w := fun w => by rw [neq_reach, t3_eq, hv]
    have HV := Lib.hid hv
    clear hv
    go_wp2_with fail
    go_quiet (fail)
    clear x0 x1 x2 y0 y1 y2 hn a3 a4 b3 b4
    cases v with
    | false =>
      obtain rfl : X = false := by
        rw [← HX.out]
        exact decide_eq_false (fun h => by
          have e := (cmpA_zero.1 h).2.2.2.1
          have h1 := HXY.out.1
          rw [e, HXY.out.2] at h1
          exact of_decide_eq_false HV.out (Option.some.inj h1).symm)
      go_wp2_with fail
      go_ret
      exact ⟨rfl, grown_trans K.out (grown_trans HG.out (grown_drewN _ _ _))⟩
    | true =>
      have HI2 : Hid (A.L.take (k + 1) = B.L.take (k + 1)) := Lib.hid (by
        rw [List.take_add_one, List.take_add_one, HI.out, HXY.out.1, HXY.out.2, of_decide_eq_true HV.out])
      go_wp2_with fail
      exact ⟨⟨k + 1, by omega, congrArg _ (by omega), HI2, Lib.hid (grown_trans HG.out (grown_drewN _ _ _))⟩, by simp only [RowKit.intOf]; omega⟩
  · obtain rfl : k = A.L.length := by omega
    have HLE : Hid (A.L = B.L) := Lib.hid (by
      have := HI.out
      rw [List.take_length, H34.out.1, List.take_length] at this
      exact this)
    clear HI
    go_wp2_with fail
    clear a3 a4 b3 b4
    go_loopw [6] (fun a wr => ∃ k : Nat, k ≤ A.C.length ∧ a = .int .i64 (k : Int) ∧ Hid (A.C.take k = B.C.take k) ∧ Hid (wa.grownBy wr none)) (fun a _ => A.C.length - (RowKit.intOf a).toNat)
    case atStart => exact ⟨0, Nat.zero_le _, rfl, Lib.hid rfl, HG⟩
    case round =>
    obtain ⟨w3, rfl⟩ : ∃ w3, w3 = wr := ⟨_, rfl⟩
    obtain ⟨k, hk, rfl, HI, HG3⟩ := hrel
    clear HG
    obtain ⟨a0, a1, a2, a3, a4, b0, b1, b2, b3, b4, -⟩ := keepTA HB.out HG3
    rw [HP.out.1] at a3
    rw [HP.out.2.1] at a4
    rw [HP.out.2.2.1, ← H34.out.1] at b3
    rw [HP.out.2.2.2, ← H34.out.2] at b4
    clear a0 a1 a2 b0 b1 b2
    by_cases hlt : k < A.C.length
    · obtain ⟨-, bL, oL, hp, -, hc⟩ := rd3_cells (HOK.out.a.keep HG3.out).c (by omega)
      obtain rfl : pC = some ⟨bL, oL, none⟩ := HP.out.2.1.symm.trans hp
      obtain ⟨x, hx⟩ : ∃ x, A.C[k]? = some x := ⟨_, List.getElem?_eq_getElem hlt⟩
      obtain ⟨x0, x1, x2⟩ := hc k x hx
      have hlt2 : k < B.C.length := by have := H34.out.2; omega
      obtain ⟨-, bM, oM, hp2, -, hd⟩ := rd3_cells (HOK.out.b.keep HG3.out).c (by omega)
      obtain rfl : pC2 = some ⟨bM, oM, none⟩ := HP.out.2.2.2.symm.trans hp2
      obtain ⟨y, hy⟩ : ∃ y, B.C[k]? = some y := ⟨_, List.getElem?_eq_getElem hlt2⟩
      obtain ⟨y0, y1, y2⟩ := hd k y hy
      have HXY := Lib.hid (And.intro hx hy)
      clear hp hp2 hc hd hx hy hlt2
      obtain ⟨v, hv⟩ : ∃ v, decide (x = y) = v := ⟨_, rfl⟩
      have hn : ∀ w, (binOp .neq 73 (.agg #[.int .i64 x.a, .int .i64 x.b, .int .i64 x.c]) (.agg #[.int .i64 y.a, .int .i64 y.b, .int .i64 y.c])).run Tryd.prog w = .ok (.bool (!v)) w := fun w => by rw [neq_claim, t3_eq, hv]
      have HV := Lib.hid hv
      clear hv
      go_wp2_with fail
      go_quiet (fail)
      clear x0 x1 x2 y0 y1 y2 hn a3 a4 b3 b4
      cases v with
      | false =>
        obtain rfl : X = false := by
          rw [← HX.out]
          exact decide_eq_false (fun h => by
            have e := (cmpA_zero.1 h).2.2.2.2
            have h1 := HXY.out.1
            rw [e, HXY.out.2] at h1
            exact of_decide_eq_false HV.out (Option.some.inj h1).symm)
        go_wp2_with fail
        go_ret
        exact ⟨rfl, grown_trans K.out (grown_trans HG3.out (grown_drewN _ _ _))⟩
      | true =>
        have HI2 : Hid (A.C.take (k + 1) = B.C.take (k + 1)) := Lib.hid (by
          rw [List.take_add_one, List.take_add_one, HI.out, HXY.out.1, HXY.out.2, of_decide_eq_true HV.out])
        go_wp2_with fail
        exact ⟨⟨k + 1, by omega, congrArg _ (by omega), HI2, Lib.hid (grown_trans HG3.out (grown_drewN _ _ _))⟩, by simp only [RowKit.intOf]; omega⟩
    · obtain rfl : k = A.C.length := by omega
      have hCE : A.C = B.C := by
        have := HI.out
        rw [List.take_length, H34.out.2, List.take_length] at this
        exact this
      obtain rfl : X = true := by
        rw [← HX.out]
        exact decide_eq_true (cmpA_zero.2 ⟨HE.out.1, HE.out.2.1, HE.out.2.2, HLE.out, hCE⟩)
      clear hCE
      go_wp2_with fail
      go_ret
      exact ⟨rfl, grown_trans K.out HG3.out⟩
end Go.Proofs.YtpoocenooomghaaDoor

/- advert: the chapter's example. -/
namespace Go.Proofs.YtpoocenooomghaaDoor
open Go.RowKit Bs
set_option maxRecDepth 100000 in
theorem AdIs.same {l : List Nat} {A B : Ad} (h : AdIs l A) (k : AdIs l B) : smA A B := ⟨h.r.trans k.r.symm, h.q.trans k.q.symm, h.cp.trans k.cp.symm, h.L.trans k.L.symm, h.C.trans k.C.symm⟩
set_option maxRecDepth 100000 in
theorem smA.valid {A B : Ad} (h : smA A B) : vAd A = vAd B := by
  obtain ⟨h1, h2, h3, h4, h5⟩ := h
  unfold vAd vHd
  rw [h1, h2, h4, h5]
set_option maxRecDepth 100000 in
/-- What Decode returns for an encoding. -/
theorem ADecPost.enc {A : Ad} {w w' : World} {e : Ending} (h : ADecPost (encA A) w e w') (hA : vAd A = true) : ∃ B : Ad, e = .returned (.tuple #[B.val, .int .i64 0]) ∧ smA A B ∧ AdOk w' (w.heap.size ≤ ·) B ∧ w.grownBy w' none := by
  obtain ⟨B, h1, h2, h3, h4, -⟩ := h
  have hs := (enc_is (VA.of hA)).same h1
  exact ⟨B, h4 (by rw [← hs.valid, hA]; exact enc_decE (VA.of hA)), hs, h2, h3⟩
def exA (q : Int) : Ad := ⟨1, q, false, [], [], none, 0, none, 0⟩
set_option maxRecDepth 100000 in
theorem exA_ok (q : Int) (w : World) : AdOk w (fun _ => True) (exA q) := ⟨rdf_nil _ _ _ _, rdf_nil _ _ _ _, ⟨Nat.le_refl _, by show 0 ≤ 9223372036854775807; decide⟩, ⟨Nat.le_refl _, by show 0 ≤ 9223372036854775807; decide⟩⟩
set_option maxRecDepth 100000 in
theorem exA_v : vAd (exA 1) = true := by decide
set_option maxRecDepth 100000 in
theorem exA_len : (encA (exA 1)).length = 7 := by rw [enc_len2, adB_len]; rfl
set_option maxRecDepth 100000 in
theorem exA_nw : nwA (exA 2) (exA 1) = true := by decide
set_option maxRecDepth 100000 in
set_option maxHeartbeats 6400000 in
theorem aawake_any (w : World) (hT : Tb w) :
    Calls Tryd.prog 18 #[] w fun e w' => e = .returned (.bool true) ∧ w.grownBy w' none := by
  have hb := heap_alloc_new w (.cells #[.int .i64 1, .int .i64 1, .bool false, .slice none 0 0, .slice none 0 0] 26)
  have hg := World.grownBy_alloc w (.cells #[.int .i64 1, .int .i64 1, .bool false, .slice none 0 0, .slice none 0 0] 26) none
  have H0 := Lib.hid (And.intro hb (And.intro hg (hT.keep hg)))
  clear hb hg
  go_enter Tryd.func18, Tryd.ntmps18
  go_upto_region 2 with fail
  generalize w.alloc _ = wa at *
  obtain ⟨c0, c1, c2, c3, c4⟩ := row5 H0.out.1
  go_wp2_with fail
  refine (aenc_any (exA 1) _ _ (exA_ok 1 _) H0.out.2.2).mono ?_
  rintro e w1 (⟨-, g, rfl, hB, hgg, hg⟩ | ⟨h, -⟩)
  case inr => rw [exA_v] at h; cases h
  have hD := adec_any (encA (exA 1)) (pk_by _) (by rw [exA_len]; decide) (some ⟨g, 0, none⟩) (encA (exA 1)).length (Nat.le_refl _) (fun _ => True) w1 (hB.rd _ trivial _)
  have HD : Hid _ := Lib.hid (hD.mono (fun e w' h => h.enc exA_v))
  rw [exA_len] at HD ⊢
  have H1 := Lib.hid (And.intro (kept_row H0.out.1 hg (by simp)) (grown_trans H0.out.2.1 hg))
  clear hD hB hgg hg H0 c0 c1 c2 c3 c4
  go_wp2_with fail
  refine HD.out.mono ?_
  rintro e w2 ⟨⟨r, q2, cp, L, C, pL, cL, pC, cC⟩, rfl, hs, hO, hg⟩
  obtain ⟨B, hBB⟩ : ∃ B : Ad, B = ⟨r, q2, cp, L, C, pL, cL, pC, cC⟩ := ⟨_, rfl⟩
  have hV : B.val = .agg #[.int .i64 r, .int .i64 q2, .bool cp, .slice pL L.length cL, .slice pC C.length cC] := by rw [hBB]; rfl
  have hC : adC B = #[.int .i64 r, .int .i64 q2, .bool cp, .slice pL L.length cL, .slice pC C.length cC] := by rw [hBB]; rfl
  rw [← hBB] at hs hO ⊢
  rw [hV]
  have HV := Lib.hid hV
  have kb := heap_alloc_new w2 (.cells (adC B) 26)
  have kg := World.grownBy_alloc w2 (.cells (adC B) 26) none
  have H2 := Lib.hid (And.intro (kept_row H1.out.1 (grown_trans hg kg) (by simp)) (And.intro (grown_trans H1.out.2 (grown_trans hg kg)) (And.intro (hO.keep kg) kb)))
  have HS := Lib.hid hs
  rw [hC] at H2
  clear hBB hV hC hs hO hg H1 HD kb kg
  go_upto_region 4 with fail
  generalize w2.alloc _ = w3 at *
  obtain ⟨c0, c1, c2, c3, c4⟩ := row5 H2.out.1
  obtain ⟨d0, d1, d2, d3, d4⟩ := row5 H2.out.2.2.2
  go_wp2_with fail
  have hSa := rsame_any (exA 1) B _ _ w3 (exA_ok 1 _) H2.out.2.2.1
  rw [HV.out, decide_eq_true (cmpA_zero.2 HS.out)] at hSa
  refine hSa.mono ?_
  rintro e w4 ⟨rfl, hg⟩
  have H4 := Lib.hid (And.intro (kept_row H2.out.1 hg (by simp)) (And.intro (grown_trans H2.out.2.1 hg) (H2.out.2.2.1.keep hg)))
  clear hSa hg H2 c0 c1 c2 c3 c4 d0 d1 d2 d3 d4
  obtain ⟨c0, c1, c2, c3, c4⟩ := row5 H4.out.1
  go_wp2_with fail
  have hN := anewer_any (exA 2) (exA 1) _ _ w4 (exA_ok 2 _) (exA_ok 1 _)
  rw [exA_nw] at hN
  refine hN.mono ?_
  rintro e w5 ⟨rfl, hg⟩
  have H5 := Lib.hid (grown_trans H4.out.2.1 hg)
  clear hN hg H4 c0 c1 c2 c3 c4
  go_wp2_with fail
  go_ret
  exact ⟨rfl, H5.out⟩
end Go.Proofs.YtpoocenooomghaaDoor

/- packet: the reference's Encode, the walk. -/
namespace Go.Proofs.YtpoocenooomghaaDoor
open Go.RowKit Bs
def rfc (P : Pk) : Array Value := #[.int .i64 2, .int .i64 P.mode, .int .i64 P.sub, .int .i64 P.set, .int .i64 ((lcode P.len : Nat) : Int), .int .i64 P.ttl, .int .i64 P.ent, .int .i64 P.ing, .int .i64 P.pro, .int .i64 ((P.pay.size : Nat) : Int)]
set_option maxRecDepth 100000 in
theorem rfield_at {P : Pk} (h : vpk P = true) (k : Nat) (hk : k < 10) : ∃ wd x : Nat, (rfc P)[k]? = some (.int .i64 (x : Int)) ∧ wcells[k]? = some (.int .i64 (wd : Int)) ∧ x < 2 ^ wd ∧ wd ≤ 10 ∧ (fl P)[k]? = some (x, wd) := by
  obtain ⟨⟨m1, m2⟩, ⟨s1, s2⟩, ⟨e1, e2⟩, ⟨t1, t2⟩, ⟨n1, n2⟩, ⟨i1, i2⟩, ⟨p1, p2⟩, y1, v1⟩ := vpk_parts h
  have hl := lcode_lt P.len
  rcases (show k = 0 ∨ k = 1 ∨ k = 2 ∨ k = 3 ∨ k = 4 ∨ k = 5 ∨ k = 6 ∨ k = 7 ∨ k = 8 ∨ k = 9 by omega) with rfl | rfl | rfl | rfl | rfl | rfl | rfl | rfl | rfl | rfl
  · exact ⟨2, 2, rfl, rfl, by decide, by decide, rfl⟩
  · exact ⟨2, P.mode.toNat, by rw [Int.toNat_of_nonneg (by omega)]; rfl, rfl, by omega, by decide, rfl⟩
  · exact ⟨3, P.sub.toNat, by rw [Int.toNat_of_nonneg (by omega)]; rfl, rfl, by omega, by decide, rfl⟩
  · exact ⟨5, P.set.toNat, by rw [Int.toNat_of_nonneg (by omega)]; rfl, rfl, by omega, by decide, rfl⟩
  · exact ⟨2, lcode P.len, rfl, rfl, by omega, by decide, rfl⟩
  · exact ⟨6, P.ttl.toNat, by rw [Int.toNat_of_nonneg (by omega)]; rfl, rfl, by omega, by decide, rfl⟩
  · exact ⟨10, P.ent.toNat, by rw [Int.toNat_of_nonneg (by omega)]; rfl, rfl, by omega, by decide, rfl⟩
  · exact ⟨9, P.ing.toNat, by rw [Int.toNat_of_nonneg (by omega)]; rfl, rfl, by omega, by decide, rfl⟩
  · exact ⟨3, P.pro.toNat, by rw [Int.toNat_of_nonneg (by omega)]; rfl, rfl, by omega, by decide, rfl⟩
  · exact ⟨7, P.pay.size, rfl, rfl, by omega, by decide, rfl⟩
set_option maxRecDepth 100000 in
theorem pb_snoc (l : List Nat) (x : Nat) : pb (l ++ [x]) = pb l ++ nb x 8 := by
  unfold pb nb
  rw [show 8 * (l ++ [x]).length = 8 * l.length + 8 by rw [List.length_append]; simp; omega, List.range_add, List.map_append, List.map_map]
  congr 1
  · apply List.map_congr_left
    intro i hi
    have hi := List.mem_range.1 hi
    unfold bt
    rw [List.getD_eq_getElem?_getD, List.getD_eq_getElem?_getD, List.getElem?_append_left (by omega)]
  · apply List.map_congr_left
    intro i hi
    have hi := List.mem_range.1 hi
    show bt (l ++ [x]) (8 * l.length + i) = _
    unfold bt
    rw [show (8 * l.length + i) / 8 = l.length by omega, show (8 * l.length + i) % 8 = i by omega, List.getD_eq_getElem?_getD, List.getElem?_append_right (Nat.le_refl _)]
    simp
set_option maxRecDepth 100000 in
theorem byl_take (s : ByteArray) (m : Nat) (h : m < s.size) : (byl s).take (m + 1) = (byl s).take m ++ [s[m].toNat] := by
  have e : (byl s)[m]? = some (s[m].toNat) := by
    unfold byl
    have h2 : m < s.data.toList.length := by simpa using h
    rw [List.getElem?_map, List.getElem?_eq_getElem h2]
    rfl
  rw [List.take_add_one, e]; rfl
/-- What the reference's Encode returns: these bytes, or an error. -/
def REncPost (P : Pk) (w : World) (e : Ending) (w' : World) : Prop :=
  (vpk P = true ∧ ∃ p c, e = .returned (.tuple #[.slice p (enc P).length c, .int .i64 0]) ∧ Rd w' (fun _ => True) (.slice p (enc P).length c) ((enc P).map nv) ∧ (p = none → c = 0) ∧ w.grownBy w' none) ∨
  (vpk P = false ∧ e = .returned (.tuple #[.slice none 0 0, .int .i64 1]) ∧ w.grownBy w' none)
end Go.Proofs.YtpoocenooomghaaDoor

/- packet: Decode. -/
namespace Go.Proofs.YtpoocenooomghaaDoor
open Go.RowKit Bs
set_option maxRecDepth 100000 in
theorem rd_take {w : World} {q : Nat → Prop} {p : Option Addr} {c : Nat} {l : List Nat} (k : Nat) (hk : k ≤ l.length) (hR : Rd w q (.slice p l.length c) (l.map nv)) (c' : Nat) : Rd w q (.slice p (l.take k).length c') ((l.take k).map nv) := by
  obtain ⟨p1, c1, hv, hc⟩ := hR
  injection hv with h1 _ _
  subst h1
  refine ⟨p, c', by rw [List.length_map], fun hne => ?_⟩
  have hl : l.map nv ≠ [] := by
    intro e
    have e2 : l = [] := List.map_eq_nil_iff.1 e
    subst e2
    exact hne (by simp)
  obtain ⟨b, off, hp, hb, hx⟩ := hc hl
  refine ⟨b, off, hp, hb, fun i x hi => hx i x ?_⟩
  rw [List.map_take] at hi
  have hik : i < k := by
    have := (List.getElem?_eq_some_iff.1 hi).1
    rw [List.length_take] at this; omega
  rw [List.getElem?_take_of_lt hik] at hi
  exact hi
set_option maxRecDepth 100000 in
theorem grown_undrew {w w7 : World} (g : w.drew.grownBy w7 none) : w.grownBy w7 none := ⟨g.os, g.tape, g.output, g.size, g.block⟩
/-- The fields of the header. -/
def hv7 (l : List Nat) : Nat → Nat := fv (l.take 7)
def szV (V : Nat → Nat) : Nat := (49 + 8 * 2 ^ V 4 + 8 * V 9 + 16 + 7) / 8
/-- What Decode returns. -/
def decV (l : List Nat) : Array Value × Int :=
  if l.length < 7 then (zpk, 20) else if misV (hv7 l) ≠ 0 then (zpk, misV (hv7 l)) else if l.length < szV (hv7 l) then (zpk, 20) else
    if (restV (hv7 l) (8 * 2 ^ hv7 l 4) (l.take (szV (hv7 l)))).2 ≠ 0 then (zpk, (restV (hv7 l) (8 * 2 ^ hv7 l 4) (l.take (szV (hv7 l)))).2) else if szV (hv7 l) < l.length then (zpk, 21) else
      ((restV (hv7 l) (8 * 2 ^ hv7 l 4) (l.take (szV (hv7 l)))).1, 0)
end Go.Proofs.YtpoocenooomghaaDoor

/- packet: what the reference's Decode calls. -/
namespace Go.Proofs.YtpoocenooomghaaDoor
open Go.RowKit Bs
section
variable {w : World} {q : Nat → Prop} {l : List Nat} {p : Option Addr} {c : Nat}
set_option maxRecDepth 100000 in
theorem slice_wholer {A T : Nat} {a b : Int} (t : Int) (ht : t = (T : Int)) (hl : By l) (h : 8 * l.length ≤ 8192) (hT : A + T ≤ 8 * l.length) (ha : a = (A : Int)) (hb : b = ((A + T : Nat) : Int)) (hR : Rd w q (.slice p l.length c) (l.map nv)) :
    Calls Tryd.prog 57 #[.agg #[.slice p l.length c, .int .i64 (8 * (l.length : Int))], .int .i64 a, .int .i64 b] w fun e w' =>
      ∃ p2 c2, e = .returned (.tuple #[.agg #[.slice p2 (pz (fun i => bt l (A + i)) T ((T + 7) / 8)).length c2, .int .i64 t], .int .i64 0]) ∧ Rd w' (fun _ => True) (.slice p2 (pz (fun i => bt l (A + i)) T ((T + 7) / 8)).length c2) ((pz (fun i => bt l (A + i)) T ((T + 7) / 8)).map nv) ∧ (p2 = none → c2 = 0) ∧ w.grownBy w' none := by
  subst ha hb ht
  refine (slicer_any l (8 * (l.length : Int)) (A : Int) ((A + T : Nat) : Int) _ p c hl (by unfold I64; omega) (by unfold I64; omega) w (fun _ h => h) hR.bound).mono fun e w' hp => ?_
  have hv := slV_ok (l := l) (N := 8 * l.length) (A := A) (T := T) (vs_whole h) rfl hT
  rw [Int.natCast_mul] at hv
  change slV l (8 * (l.length : Int)) _ _ = _ at hv
  rw [hv] at hp
  obtain ⟨u, he, ⟨p2, c2, rfl, h1, h2, _⟩, hg⟩ := hp
  exact ⟨p2, c2, he, h1, h2, hg⟩
set_option maxRecDepth 100000 in
theorem take_wholer {A K : Nat} {a k : Int} (hl : By l) (h : 8 * l.length ≤ 8192) (hK : K ≤ 64) (hT : A + K ≤ 8 * l.length) (ha : a = (A : Int)) (hk : k = (K : Int)) (hR : Rd w q (.slice p l.length c) (l.map nv)) :
    Calls Tryd.prog 91 #[.agg #[.slice p l.length c, .int .i64 (8 * (l.length : Int))], .int .i64 a, .int .i64 k] w fun e w' => e = .returned (.tuple #[.int .u64 ((num (bt l) A K : Nat) : Int), .int .i64 0]) ∧ w.grownBy w' none := by
  subst ha hk
  refine (taker_any l (8 * (l.length : Int)) (A : Int) (K : Int) _ p c hl (by unfold I64; omega) w (fun _ h => h) hR.bound).mono fun e w' hp => ?_
  obtain ⟨he, hg⟩ := hp
  have hv := takeV_ok (l := l) (n := ((8 * l.length : Nat) : Int)) (a := (A : Int)) (k := (K : Int)) (vs_whole h) (by unfold vw; simp; omega) (by omega) (by omega)
  rw [Int.natCast_mul, Int.toNat_natCast, Int.toNat_natCast] at hv
  change takeV l (8 * (l.length : Int)) _ _ = _ at hv
  rw [hv] at he
  exact ⟨he, hg⟩
set_option maxRecDepth 100000 in
theorem check_partr {T : Nat} {t : Int} (ht : t = (T : Int)) (h : T ≤ 8 * l.length) (h2 : 8 * l.length ≤ 8192) (hR : Rd w q (.slice p (pz (fun i => bt l (0 + i)) T ((T + 7) / 8)).length c) ((pz (fun i => bt l (0 + i)) T ((T + 7) / 8)).map nv)) :
    Calls Tryd.prog 26 #[.agg #[.slice p (pz (fun i => bt l (0 + i)) T ((T + 7) / 8)).length c, .int .i64 t]] w fun e w' => e = .returned (.tuple #[.int .u64 ((crcB (bt l) T : Nat) : Int), .int .i64 0]) ∧ w.grownBy w' none := by
  subst ht
  refine (checkr_any _ (T : Int) _ p c (pz_lt _ _ _) w (fun _ h => h) hR.bound).mono fun e w' hp => ?_
  obtain ⟨he, hg⟩ := hp
  have hvs : vs (pz (fun i => bt l (0 + i)) T ((T + 7) / 8)) (T : Int) = true := by
    refine vs_iff.2 ⟨by omega, pz_len _ _ _, fun i hi hn => ?_⟩
    rw [pz_len] at hi
    rw [bt_pz _ _ _ _ hi]
    simp; omega
  rw [chkV_ok hvs] at he
  rw [← chk_same (f := bt (pz (fun i => bt l (0 + i)) T ((T + 7) / 8))) (g := bt l) T fun i hi => by rw [bt_pz _ _ _ _ (by omega)]; simp [hi]]
  exact ⟨he, hg⟩
end
set_option maxRecDepth 100000 in
theorem decoded_any (v : Nat) (hv : v < 4) (w : World) :
    Calls Tryd.prog 56 #[.int .i64 (v : Int)] w fun e w' => e = .returned (.int .i64 ((8 * 2 ^ v : Nat) : Int)) ∧ w = w' := by
  rcases (show v = 0 ∨ v = 1 ∨ v = 2 ∨ v = 3 by omega) with rfl | rfl | rfl | rfl
  all_goals
    go_enter Tryd.func56, Tryd.ntmps56
    go_wp2_with fail
    go_ret
    exact ⟨rfl, rfl⟩
section
variable {W w w1 : World} {S D : Nat} {t : List Nat} {p : Option Addr} {c : Nat}
end
/-- The list of the fields, while it is made. -/
def Flds (wb : World) (V : Nat → Nat) (k : Nat) (v : Value) (w : World) : Prop := w.ownsRow wb.heap.size 3 1 v k ((List.range k).map fun j => zv (V j)) ∧ wb.grownBy w none
set_option maxRecDepth 100000 in
theorem flds_next {wb wr w1 : World} {V : Nat → Nat} {k : Nat} {v v' : Value} {o : Obj} (h : Flds wb V k v wr) (hown : w1.ownsRow wb.heap.size 3 1 v' (k + 1) (((List.range k).map fun j => zv (V j)) ++ [zv (V k)])) (hg : (wr.alloc o).grownBy w1 v.ownBlock) : Flds wb V (k + 1) v' w1 := by
  refine ⟨?_, own_step h.2 h.1 hg⟩
  rw [List.range_succ, List.map_append]
  exact hown
set_option maxRecDepth 100000 in
theorem flds_keep {wb wr w1 : World} {V : Nat → Nat} {k : Nat} {v : Value} (h : Flds wb V k v wr) (g : wr.grownBy w1 none) : Flds wb V k v w1 :=
  ⟨h.1.kept g (by cases hv : v.ownBlock <;> simp), grown_trans h.2 g⟩
set_option maxRecDepth 100000 in
theorem own_cell2 {w : World} {base g n cap k : Nat} {e : TypeId} {xs : List Value} {x : Value} (h : w.ownsRow base e 1 (.slice (some ⟨g, 0, none⟩) n cap) n xs) (hk : xs[k]? = some x) : w.cell? ⟨g, k, none⟩ = some x := by
  obtain ⟨p, c, hv, hc⟩ := rd_of_own h
  injection hv with h1 _ _
  obtain ⟨b, off, hp, _, hx⟩ := hc (by intro e2; rw [e2] at hk; cases hk)
  rw [hp] at h1
  have h2 := Option.some.inj h1
  injection h2 with h3 h4 _
  have := hx k x hk
  rw [← h3, ← h4, Nat.zero_add] at this
  exact this
set_option maxRecDepth 100000 in
theorem flds_cell {wb w : World} {V : Nat → Nat} {g n cap j : Nat} (h : Flds wb V n (.slice (some ⟨g, 0, none⟩) n cap) w) (hj : j < n) : w.cell? ⟨g, j, none⟩ = some (.int .i64 ((V j : Nat) : Int)) :=
  own_cell2 h.1 (by rw [List.getElem?_map, List.getElem?_range hj]; rfl)
end Go.Proofs.YtpoocenooomghaaDoor

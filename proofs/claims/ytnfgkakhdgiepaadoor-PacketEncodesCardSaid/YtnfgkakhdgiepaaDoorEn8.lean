/- Parts of the proof, packed: PkRest, PkDecode, PkSize, PkAwake, PkRefs, PkRefs2. -/
import Derived.Test.YtnfgkakhdgiepaaDoorEn6
import Derived.Deep.CutRange
import Derived.Test.YtnfgkakhdgiepaaDoorEn7
/- packet: the rest of a packet is read. -/
namespace Go.Proofs.YtnfgkakhdgiepaaDoor
open Go.RowKit Bs
set_option maxRecDepth 100000 in
theorem res_packet_err {fn : Func} {p u : Tmp} (h : fn.results = #[.cell p 25, .tmp u]) (tmps : Array Value) (w : World) (g : Nat) (xs : Array Value) (hp : tmps.getD p undef = .pointer (some ⟨g, 0, none⟩)) (hn : xs.size = 10) (hg : w.heap[g]? = some (.cells xs 25 (0, 0))) :
    (results fn tmps).run Tryd.prog w = .ok (.tuple #[.agg xs, tmps.getD u undef]) w := by
  have hp' : tmps[p]?.getD undef = .pointer (some ⟨g, 0, none⟩) := by simpa using hp
  rw [results_cell_tmp h]
  simp [hp', asAddr, run_loadVar_row w g _ _ _ _ _ hg Tryd.underlying25 rfl (by rw [hn]; exact packet_size), Result.andThen]
/-- The error behind the header: of n bits and m bytes. -/
def restE (l : List Nat) (n m : Nat) : Int := if num (bt l) (49 + n + 8 * m) 16 ≠ chk (bt l) (49 + n + 8 * m) then 23 else if num (bt l) (49 + n + 8 * m + 16) (8 * l.length - (49 + n + 8 * m + 16)) ≠ 0 then 24 else 0
/-- The payload. -/
def restP (l : List Nat) (n m : Nat) : ByteArray := bs (pz (fun i => bt l (49 + n + i)) (8 * m) m)
def restV (V : Nat → Nat) (n : Nat) (l : List Nat) : Array Value × Int := if restE l n (V 9) = 0 then (rcells V (n : Int) (num (bt l) 49 n) (restP l n (V 9)), 0) else (zpk, restE l n (V 9))
/-- While the rest is read. -/
structure RS (W : World) (V : Nat → Nat) (n : Nat) (b : Nat) (s : ByteArray) (l : List Nat) (p : Option Addr) (c : Nat) (w : World) : Prop where
  rb : w.heap[W.heap.size + 1]? = some (.cells zpk 25 (0, 0))
  pb : w.heap[W.heap.size + 1 + 1]? = some (.cells (rcells V (n : Int) b s) 25 (0, 0))
  sb : w.heap[W.heap.size + 1 + 1 + 1]? = some (.cells #[.slice p l.length c, .int .i64 (8 * (l.length : Int))] 91 (0, 0))
  rd : Rd w (· < W.heap.size) (.slice p l.length c) (l.map nv)
  gr : W.grownBy w none
section
variable {W w w1 : World} {V : Nat → Nat} {n b : Nat} {s : ByteArray} {l : List Nat} {p : Option Addr} {c : Nat}
set_option maxRecDepth 100000 in
theorem RS.keep (H : RS W V n b s l p c w) (k : w.grownBy w1 none) : RS W V n b s l p c w1 :=
  ⟨kept_row H.rb k (by simp), kept_row H.pb k (by simp), kept_row H.sb k (by simp), H.rd.keep k, grown_trans H.gr k⟩
set_option maxRecDepth 100000 in
theorem RS.bits (H : RS W V n b s l p c w) (b' : Nat) : RS W V n b' s l p c (w.setCell ⟨W.heap.size + 1 + 1, 8, none⟩ (.int .u64 (b' : Int))) := by
  have j := grown_setCell w ⟨W.heap.size + 1 + 1, 8, none⟩ (.int .u64 (b' : Int))
  exact ⟨kept_row H.rb j (fun e => by have : W.heap.size + 1 = W.heap.size + 1 + 1 := Option.some.inj e; omega), heap_setCell_same w _ 8 _ _ _ H.pb, kept_row H.sb j (fun e => by have : W.heap.size + 1 + 1 + 1 = W.heap.size + 1 + 1 := Option.some.inj e; omega),
    H.rd.grown j (fun x hx e => by have : x = W.heap.size + 1 + 1 := Option.some.inj e; omega), grown_new H.gr j (by show W.heap.size ≤ W.heap.size + 1 + 1; omega)⟩
set_option maxRecDepth 100000 in
theorem RS.pay (H : RS W V n b s l p c w) (s' : ByteArray) : RS W V n b s' l p c (w.setCell ⟨W.heap.size + 1 + 1, 9, none⟩ (.string s')) := by
  have j := grown_setCell w ⟨W.heap.size + 1 + 1, 9, none⟩ (.string s')
  exact ⟨kept_row H.rb j (fun e => by have : W.heap.size + 1 = W.heap.size + 1 + 1 := Option.some.inj e; omega), heap_setCell_same w _ 9 _ _ _ H.pb, kept_row H.sb j (fun e => by have : W.heap.size + 1 + 1 + 1 = W.heap.size + 1 + 1 := Option.some.inj e; omega),
    H.rd.grown j (fun x hx e => by have : x = W.heap.size + 1 + 1 := Option.some.inj e; omega), grown_new H.gr j (by show W.heap.size ≤ W.heap.size + 1 + 1; omega)⟩
set_option maxRecDepth 100000 in
theorem RS.facts (H : RS W V n b s l p c w) : w.cell? ⟨W.heap.size + 1 + 1 + 1, 0, none⟩ = some (.slice p l.length c) ∧ w.cell? ⟨W.heap.size + 1 + 1 + 1, 1, none⟩ = some (.int .i64 (8 * (l.length : Int))) ∧ w.cell? ⟨W.heap.size + 1 + 1, 3, none⟩ = some (.int .i64 (n : Int)) :=
  ⟨(row_cells H.sb).1, (row_cells H.sb).2, cell_of_row _ _ _ _ _ _ H.pb⟩
end
section
variable {w : World} {q : Nat → Prop} {l : List Nat} {p : Option Addr} {c : Nat}
set_option maxRecDepth 100000 in
theorem slice_whole {A T : Nat} {a b : Int} (t : Int) (ht : t = (T : Int)) (hl : By l) (h : 8 * l.length ≤ 8192) (hT : A + T ≤ 8 * l.length) (ha : a = (A : Int)) (hb : b = ((A + T : Nat) : Int)) (hR : Rd w q (.slice p l.length c) (l.map nv)) :
    Calls Tryd.prog 120 #[.agg #[.slice p l.length c, .int .i64 (8 * (l.length : Int))], .int .i64 a, .int .i64 b] w fun e w' =>
      ∃ p2 c2, e = .returned (.tuple #[.agg #[.slice p2 (pz (fun i => bt l (A + i)) T ((T + 7) / 8)).length c2, .int .i64 t], .int .i64 0]) ∧ Rd w' (w.heap.size ≤ ·) (.slice p2 (pz (fun i => bt l (A + i)) T ((T + 7) / 8)).length c2) ((pz (fun i => bt l (A + i)) T ((T + 7) / 8)).map nv) ∧ (p2 = none → c2 = 0) ∧ w.grownBy w' none := by
  subst ha hb ht
  refine (slicep_any l (8 * (l.length : Int)) (A : Int) ((A + T : Nat) : Int) _ p c hl (by unfold I64; omega) (by unfold I64; omega) w (fun _ h => h) hR.bound).mono fun e w' hp => ?_
  have hv := slV_ok (l := l) (N := 8 * l.length) (A := A) (T := T) (vs_whole h) rfl hT
  rw [Int.natCast_mul] at hv
  change slV l (8 * (l.length : Int)) _ _ = _ at hv
  rw [hv] at hp
  obtain ⟨u, he, ⟨p2, c2, rfl, h1, h2, _⟩, hg⟩ := hp
  exact ⟨p2, c2, he, h1, h2, hg⟩
set_option maxRecDepth 100000 in
theorem take_whole {A K : Nat} {a k : Int} (hl : By l) (h : 8 * l.length ≤ 8192) (hK : K ≤ 64) (hT : A + K ≤ 8 * l.length) (ha : a = (A : Int)) (hk : k = (K : Int)) (hR : Rd w q (.slice p l.length c) (l.map nv)) :
    Calls Tryd.prog 119 #[.agg #[.slice p l.length c, .int .i64 (8 * (l.length : Int))], .int .i64 a, .int .i64 k] w fun e w' => e = .returned (.tuple #[.int .u64 ((num (bt l) A K : Nat) : Int), .int .i64 0]) ∧ w.grownBy w' none := by
  subst ha hk
  refine (takep_any l (8 * (l.length : Int)) (A : Int) (K : Int) _ p c hl (by unfold I64; omega) w hR).mono fun e w' hp => ?_
  obtain ⟨he, hg⟩ := hp
  have hv := takeV_ok (l := l) (n := ((8 * l.length : Nat) : Int)) (a := (A : Int)) (k := (K : Int)) (vs_whole h) (by unfold vw; simp; omega) (by omega) (by omega)
  rw [Int.natCast_mul, Int.toNat_natCast, Int.toNat_natCast] at hv
  change takeV l (8 * (l.length : Int)) _ _ = _ at hv
  rw [hv] at he
  exact ⟨he, hg⟩
set_option maxRecDepth 100000 in
theorem check_part {T : Nat} {t : Int} (ht : t = (T : Int)) (h : T ≤ 8 * l.length) (h2 : 8 * l.length ≤ 8192) (hR : Rd w q (.slice p (pz (fun i => bt l (0 + i)) T ((T + 7) / 8)).length c) ((pz (fun i => bt l (0 + i)) T ((T + 7) / 8)).map nv)) :
    Calls Tryd.prog 71 #[.agg #[.slice p (pz (fun i => bt l (0 + i)) T ((T + 7) / 8)).length c, .int .i64 t]] w fun e w' => e = .returned (.tuple #[.int .u64 ((chk (bt l) T : Nat) : Int), .int .i64 0]) ∧ w.grownBy w' none := by
  subst ht
  refine (checkp_any _ (T : Int) _ p c (pz_lt _ _ _) w hR).mono fun e w' hp => ?_
  obtain ⟨he, hg⟩ := hp
  have hvs : vs (pz (fun i => bt l (0 + i)) T ((T + 7) / 8)) (T : Int) = true := by
    refine vs_iff.2 ⟨by omega, pz_len _ _ _, fun i hi hn => ?_⟩
    rw [pz_len] at hi
    rw [bt_pz _ _ _ _ hi]
    simp; omega
  rw [chkV_ok hvs] at he
  rw [← chk_same (f := bt (pz (fun i => bt l (0 + i)) T ((T + 7) / 8))) (g := bt l) T fun i hi => by rw [bt_pz _ _ _ _ (by omega)]; simp [hi]]
  exact ⟨he, hg⟩
end
set_option maxRecDepth 100000 in
set_option maxHeartbeats 3200000 in
theorem readRest_any (V : Nat → Nat) (n : Nat) (hn : n ≤ 64) (h9 : V 9 ≤ 64) (l : List Nat) (hl : By l) (hlen : l.length = (49 + n + 8 * V 9 + 16 + 7) / 8) (q : Nat → Prop) (p : Option Addr) (c : Nat) (w : World) (hR : Rd w q (.slice p l.length c) (l.map nv)) :
    Calls Tryd.prog 83 #[hval V (n : Int), .slice p l.length c] w fun e w' => e = .returned (.tuple #[.agg (restV V n l).1, .int .i64 (restV V n l).2]) ∧ w.grownBy w' none := by
  have hl1 : 8 * l.length ≤ 8192 := by omega
  have hl2 : 49 + n + 8 * V 9 + 16 ≤ 8 * l.length := by omega
  have hl3 : 8 * l.length - (49 + n + 8 * V 9 + 16) ≤ 7 := by omega
  have HLEN := Lib.hid hlen
  clear hlen
  have hval' : hval V (n : Int) = .agg #[.int .i64 (V 0 : Int), .int .i64 (V 1 : Int), .int .i64 (V 2 : Int), .int .i64 (V 3 : Int), .int .i64 (n : Int), .int .i64 (V 5 : Int), .int .i64 (V 6 : Int), .int .i64 (V 7 : Int), .int .i64 (V 8 : Int), .int .u64 0, .string ⟨#[]⟩, .int .i64 (V 4 : Int), .int .i64 (V 9 : Int)] := rfl
  rw [hval']
  clear hval'
  obtain ⟨k1, k2, k3, k4, k5, k6⟩ := four_new w (.cells #[.int .i64 (V 0 : Int), .int .i64 (V 1 : Int), .int .i64 (V 2 : Int), .int .i64 (V 3 : Int), .int .i64 (n : Int), .int .i64 (V 5 : Int), .int .i64 (V 6 : Int), .int .i64 (V 7 : Int), .int .i64 (V 8 : Int), .int .u64 0, .string ⟨#[]⟩, .int .i64 (V 4 : Int), .int .i64 (V 9 : Int)] 101) (.cells zpk 25) (.cells (rcells V (n : Int) 0 ⟨#[]⟩) 25) (.cells #[.slice p l.length c, .int .i64 (8 * (l.length : Int))] 91)
  have HS : Hid (RS w V n 0 ⟨#[]⟩ l p c _) := Lib.hid ⟨k2, k3, k4, hR.bound.keep k5, k5⟩
  clear k1 k2 k3 k4 k5 k6 hR
  unfold zpk rcells at HS
  go_enter Tryd.func83, Tryd.ntmps83
  go_wp2_with fail
  generalize ((((w.alloc _).alloc _).alloc _).alloc _) = wa at *
  change Hid (RS w V n 0 ⟨#[]⟩ l p c wa) at HS
  refine (slice_whole (A := 0) (T := 49 + n + 8 * V 9) (49 + (n : Int) + 8 * (V 9 : Int)) (by omega) hl hl1 (by omega) rfl (by omega) HS.out.rd).mono ?_
  rintro e w1 ⟨p2, c2, rfl, hR2, hp2, hg⟩
  have hgb := World.grownBy_alloc w1 (.cells #[.slice p2 (pz (fun i => bt l (0 + i)) (49 + n + 8 * V 9) ((49 + n + 8 * V 9 + 7) / 8)).length c2, .int .i64 (49 + (n : Int) + 8 * (V 9 : Int))] 91) none
  have HS1 := Lib.hid (HS.out.keep (grown_trans hg hgb))
  have hC := check_part (T := 49 + n + 8 * V 9) (t := (49 + (n : Int) + 8 * (V 9 : Int))) (by omega) (by omega) hl1 (hR2.keep hgb)
  obtain ⟨L, hL⟩ : ∃ L, L = pz (fun i => bt l (0 + i)) (49 + n + 8 * V 9) ((49 + n + 8 * V 9 + 7) / 8) := ⟨_, rfl⟩
  rw [← hL] at hC HS1 ⊢
  have HC := Lib.hid hC
  clear hC hR2 hp2 hg hgb HS hL
  go_wp2_with fail
  refine HC.out.mono ?_
  rintro e w2 ⟨rfl, hg⟩
  have HS2 := Lib.hid (HS1.out.keep hg)
  obtain ⟨s0, s1, s2⟩ := HS2.out.facts
  clear hg HC HS1
  go_wp2_with fail
  refine (take_whole (A := 49 + n + 8 * V 9) (K := 16) hl hl1 (by decide) (by omega) (by omega) rfl HS2.out.rd).mono ?_
  rintro e w3 ⟨rfl, hg⟩
  have HS3 := Lib.hid (HS2.out.keep hg)
  clear s0 s1 s2 hg HS2
  obtain ⟨s0, s1, s2⟩ := HS3.out.facts
  obtain ⟨xg, hxg⟩ : ∃ x, x = num (bt l) (49 + n + 8 * V 9) 16 := ⟨_, rfl⟩
  obtain ⟨xc, hxc⟩ : ∃ x, x = chk (bt l) (49 + n + 8 * V 9) := ⟨_, rfl⟩
  rw [← hxg, ← hxc]
  have HXG := Lib.hid hxg
  have HXC := Lib.hid hxc
  clear hxg hxc
  by_cases he : xg = xc
  · have HE := Lib.hid he
    have he' : (((xg : Nat) : Int) != ((xc : Nat) : Int)) = false := by rw [he]; simp
    clear he
    go_wp2_with fail
    refine (take_whole (A := 49 + n + 8 * V 9 + 16) (K := 8 * l.length - (49 + n + 8 * V 9 + 16)) hl hl1 (by omega) (by omega) (by omega) (by omega) HS3.out.rd).mono ?_
    rintro e w4 ⟨rfl, hg⟩
    have HS4 := Lib.hid (HS3.out.keep hg)
    clear s0 s1 s2 hg HS3
    obtain ⟨s0, s1, s2⟩ := HS4.out.facts
    obtain ⟨xb, hxb⟩ : ∃ x, x = num (bt l) (49 + n + 8 * V 9 + 16) (8 * l.length - (49 + n + 8 * V 9 + 16)) := ⟨_, rfl⟩
    rw [← hxb]
    have HXB := Lib.hid hxb
    clear hxb
    by_cases hb : xb = 0
    · have HBZ := Lib.hid hb
      have hb' : (((xb : Nat) : Int) != 0) = false := by rw [hb]; rfl
      clear hb
      go_wp2_with fail
      refine (take_whole (A := 49) (K := n) hl hl1 hn (by omega) (by omega) rfl HS4.out.rd).mono ?_
      rintro e w5 ⟨rfl, hg⟩
      have HS5 := Lib.hid (HS4.out.keep hg)
      clear s0 s1 s2 hg HS4 hb' he'
      have HS6 := Lib.hid (HS5.out.bits (num (bt l) 49 n))
      have t0 := (rc_cells HS5.out.pb).2.2.2.2.2.2.2.2.1
      have t1 := frozen_of_row _ _ 8 _ _ HS5.out.pb
      obtain ⟨xn, hxn⟩ : ∃ x, x = num (bt l) 49 n := ⟨_, rfl⟩
      rw [← hxn] at HS6 ⊢
      have HXN := Lib.hid hxn
      clear hxn
      obtain ⟨s0, s1, s2⟩ := HS6.out.facts
      go_wp2_with fail
      generalize w5.setCell ⟨w.heap.size + 1 + 1, 8, none⟩ (.int .u64 (xn : Int)) = w6 at *
      refine (slice_whole (A := 49 + n) (T := 8 * V 9) (8 * (V 9 : Int)) (by omega) hl hl1 (by omega) (by omega) (by omega) HS6.out.rd).mono ?_
      rintro e w7 ⟨p3, c3, rfl, hR3, hp3, hg⟩
      rw [show (8 * V 9 + 7) / 8 = V 9 by omega] at hR3 ⊢
      have hby : By (pz (fun i => bt l (49 + n + i)) (8 * V 9) (V 9)) := pz_lt _ _ _
      have hP : Hid (bs (pz (fun i => bt l (49 + n + i)) (8 * V 9) (V 9)) = restP l n (V 9)) := Lib.hid rfl
      generalize pz (fun i => bt l (49 + n + i)) (8 * V 9) (V 9) = L3 at *
      have hgb := World.grownBy_alloc w7 (.cells #[.slice p3 L3.length c3, .int .i64 (8 * (V 9 : Int))] 91) none
      have hcv := conv_nv (w := w7.alloc (.cells #[.slice p3 L3.length c3, .int .i64 (8 * (V 9 : Int))] 91)) hby rfl (hR3.keep hgb) hp3
      have HS8 := Lib.hid (HS6.out.keep (grown_trans hg hgb))
      have HS9 := Lib.hid (HS8.out.pay (bs L3))
      have t0 := (rc_cells HS8.out.pb).2.2.2.2.2.2.2.2.2
      have t1 := frozen_of_row _ _ 9 _ _ HS8.out.pb
      obtain ⟨q0, q1, q2, q3, q4, q5, q6, q7, q8, q9⟩ := rc_cells HS9.out.pb
      obtain ⟨⟨r0, r1, r2, r3, r4, r5, r6, r7, r8, r9⟩, f0, f1, f2, f3, f4, f5, f6, f7, f8, f9⟩ := zp_cells HS9.out.rb
      have hE : Hid (restV V n l = (rcells V (n : Int) xn (bs L3), 0)) := Lib.hid (by
        have hz : restE l n (V 9) = 0 := by unfold restE; rw [← HXG.out, ← HXC.out, ← HXB.out, if_neg (by simp [HE.out]), if_neg (by simp [HBZ.out])]
        unfold restV
        rw [if_pos hz, hP.out, ← HXN.out])
      clear s0 s1 s2 hR3 hp3 hg hgb HS5 HS6 hby
      go_wp2_with fail
      refine bodyPost_ret (res_packet_err rfl _ _ (w.heap.size + 1) _ rfl rfl (pput_row _ _ _ _ _ _ _ _ _ _ HS9.out.rb)) rfl ?_
      exact ⟨by rw [hE.out]; rfl, grown_new HS9.out.gr (pput_grown _ (w.heap.size + 1) _ _ _ _ _ _ _ _ _ _) (Nat.le_succ _)⟩
    · have hE : Hid (restV V n l = (zpk, 24)) := Lib.hid (by unfold restV restE; rw [← HXG.out, ← HXC.out, ← HXB.out, if_neg (by rw [if_neg (by simp [HE.out]), if_pos hb]; decide), if_neg (by simp [HE.out]), if_pos hb])
      have hb' : (((xb : Nat) : Int) != 0) = true := by simp; omega
      clear hb
      obtain ⟨⟨r0, r1, r2, r3, r4, r5, r6, r7, r8, r9⟩, f0, f1, f2, f3, f4, f5, f6, f7, f8, f9⟩ := zp_cells HS4.out.rb
      go_wp2_with fail
      refine bodyPost_ret (res_packet_err rfl _ _ (w.heap.size + 1) _ rfl rfl (pput_row _ _ _ _ _ _ _ _ _ _ HS4.out.rb)) rfl ?_
      exact ⟨by rw [hE.out]; rfl, grown_new HS4.out.gr (pput_grown _ (w.heap.size + 1) _ _ _ _ _ _ _ _ _ _) (Nat.le_succ _)⟩
  · have hE : Hid (restV V n l = (zpk, 23)) := Lib.hid (by unfold restV restE; rw [← HXG.out, ← HXC.out, if_neg (by rw [if_pos he]; decide), if_pos he])
    have he' : (((xg : Nat) : Int) != ((xc : Nat) : Int)) = true := by simp; omega
    clear he
    obtain ⟨⟨r0, r1, r2, r3, r4, r5, r6, r7, r8, r9⟩, f0, f1, f2, f3, f4, f5, f6, f7, f8, f9⟩ := zp_cells HS3.out.rb
    go_wp2_with fail
    refine bodyPost_ret (res_packet_err rfl _ _ (w.heap.size + 1) _ rfl rfl (pput_row _ _ _ _ _ _ _ _ _ _ HS3.out.rb)) rfl ?_
    exact ⟨by rw [hE.out]; rfl, grown_new HS3.out.gr (pput_grown _ (w.heap.size + 1) _ _ _ _ _ _ _ _ _ _) (Nat.le_succ _)⟩
end Go.Proofs.YtnfgkakhdgiepaaDoor

/- packet: Decode. -/
namespace Go.Proofs.YtnfgkakhdgiepaaDoor
open Go.RowKit Bs
set_option maxRecDepth 100000 in
theorem rd_take {w : World} {q : Nat → Prop} {p : Option Addr} {c : Nat} {l : List Nat} (k : Nat) (hk : k ≤ l.length) (hR : Rd w q (.slice p l.length c) (l.map nv)) (c' : Nat) : Rd w q (.slice p (l.take k).length c') ((l.take k).map nv) := by
  obtain ⟨p1, c1, hv, hc⟩ := hR
  injection hv with h1 _ _
  subst h1
  refine ⟨p, c', by rw [List.length_map], fun hne => ?_⟩
  have hl : l.map nv ≠ [] := by
    intro e
    have e2 : l = [] := List.map_eq_nil_iff.1 e
    subst e2
    exact hne (by simp)
  obtain ⟨b, off, hp, hb, hx⟩ := hc hl
  refine ⟨b, off, hp, hb, fun i x hi => hx i x ?_⟩
  rw [List.map_take] at hi
  have hik : i < k := by
    have := (List.getElem?_eq_some_iff.1 hi).1
    rw [List.length_take] at this; omega
  rw [List.getElem?_take_of_lt hik] at hi
  exact hi
set_option maxRecDepth 100000 in
theorem grown_undrew {w w7 : World} (g : w.drew.grownBy w7 none) : w.grownBy w7 none := ⟨g.os, g.tape, g.output, g.size, g.block⟩
set_option maxRecDepth 100000 in
theorem zp_after {w w5 : World} (g : (w.alloc (.cells zpk 25)).drew.grownBy w5 none) : w5.heap[w.heap.size]? = some (.cells zpk 25 (0, 0)) :=
  kept_row (heap_alloc_new w _) (grown_undrew g) (by simp)
/-- The fields of the header. -/
def hv7 (l : List Nat) : Nat → Nat := fv (l.take 7)
def szV (V : Nat → Nat) : Nat := (49 + 8 * 2 ^ V 4 + 8 * V 9 + 16 + 7) / 8
/-- What Decode returns. -/
def decV (l : List Nat) : Array Value × Int :=
  if l.length < 7 then (zpk, 20) else if misV (hv7 l) ≠ 0 then (zpk, misV (hv7 l)) else if l.length < szV (hv7 l) then (zpk, 20) else
    if (restV (hv7 l) (8 * 2 ^ hv7 l 4) (l.take (szV (hv7 l)))).2 ≠ 0 then (zpk, (restV (hv7 l) (8 * 2 ^ hv7 l 4) (l.take (szV (hv7 l)))).2) else if szV (hv7 l) < l.length then (zpk, 21) else
      ((restV (hv7 l) (8 * 2 ^ hv7 l 4) (l.take (szV (hv7 l)))).1, 0)
set_option maxRecDepth 100000 in
set_option maxHeartbeats 3200000 in
theorem pdecode_any (l : List Nat) (hl : By l) (p : Option Addr) (c : Nat) (hc : l.length ≤ c) (q : Nat → Prop) (w : World) (hR : Rd w q (.slice p l.length c) (l.map nv)) :
    Calls Tryd.prog 26 #[.slice p l.length c] w fun e w' => e = .returned (.tuple #[.agg (decV l).1, .int .i64 (decV l).2]) ∧ w.grownBy w' none := by
  obtain ⟨k1, k2⟩ := one_box w zpk 25
  have HB := Lib.hid (And.intro k1 k2)
  have HR := Lib.hid (hR.keep k2)
  clear k1 k2 hR
  unfold zpk at HB HR
  go_enter Tryd.func26, Tryd.ntmps26
  go_wp2_with fail
  generalize w.alloc _ = wa at *
  change Hid (wa.heap[w.heap.size]? = some (.cells zpk 25 (0, 0)) ∧ w.grownBy wa none) at HB
  refine (wholeBytes_any 49 (by decide) _).mono ?_
  rintro e w' ⟨rfl, rfl⟩
  rw [show ((49 + 7) / 8 : Nat) = 7 from rfl]
  by_cases h7 : l.length < 7
  · have hE : Hid (decV l = (zpk, 20)) := Lib.hid (by unfold decV; rw [if_pos h7])
    obtain ⟨⟨r0, r1, r2, r3, r4, r5, r6, r7, r8, r9⟩, f0, f1, f2, f3, f4, f5, f6, f7, f8, f9⟩ := zp_cells HB.out.1
    go_wp2_with fail
    refine bodyPost_ret (res_packet_err rfl _ _ w.heap.size _ rfl rfl (pput_row _ _ _ _ _ _ _ _ _ _ HB.out.1)) rfl ?_
    exact ⟨by rw [hE.out]; rfl, grown_new HB.out.2 (pput_grown _ w.heap.size _ _ _ _ _ _ _ _ _ _) (Nat.le_refl _)⟩
  · have h7' : 7 ≤ l.length := by omega
    have h7c : 7 ≤ c := by omega
    go_wp2_with fail
    refine (wholeBytes_any 49 (by decide) _).mono ?_
    rintro e w' ⟨rfl, rfl⟩
    rw [show ((49 + 7) / 8 : Nat) = 7 from rfl]
    go_wp2_with fail
    have e7 : (l.take 7).length = 7 := by rw [List.length_take]; omega
    have hA := readHeader_any (l.take 7) (fun x hx => hl x (List.mem_of_mem_take hx)) (by rw [e7]; decide) q p c wa (rd_take 7 h7' HR.out c)
    rw [e7] at hA
    refine hA.mono ?_
    rintro e w2 ⟨rfl, hg⟩
    have HB2 := Lib.hid (And.intro (kept_row HB.out.1 hg (by simp)) (grown_trans HB.out.2 hg))
    have HR2 := Lib.hid (HR.out.keep hg)
    have HD : Hid (decV l = if misV (hv7 l) ≠ 0 then (zpk, misV (hv7 l)) else if l.length < szV (hv7 l) then (zpk, 20) else
      if (restV (hv7 l) (8 * 2 ^ hv7 l 4) (l.take (szV (hv7 l)))).2 ≠ 0 then (zpk, (restV (hv7 l) (8 * 2 ^ hv7 l 4) (l.take (szV (hv7 l)))).2) else if szV (hv7 l) < l.length then (zpk, 21) else
      ((restV (hv7 l) (8 * 2 ^ hv7 l 4) (l.take (szV (hv7 l)))).1, 0)) := Lib.hid (by unfold decV; rw [if_neg h7])
    have h4 : hv7 l 4 < 4 := num_lt _ _ 2
    have h9 : hv7 l 9 < 128 := num_lt _ _ 7
    clear hA hg HB HR e7
    change Hid (_ = _) at HD
    obtain ⟨V, hV⟩ : ∃ V, V = hv7 l := ⟨_, rfl⟩
    rw [← hV] at HD h4 h9
    rw [show fv (l.take 7) = V from hV.symm]
    obtain ⟨n, hn⟩ : ∃ n : Nat, n = 8 * 2 ^ V 4 := ⟨_, rfl⟩
    rw [← hn] at HD
    rw [show (8 * 2 ^ V 4 : Int) = (n : Int) by rw [hn]; simp]
    have hn64 : n ≤ 64 := by
      have : 2 ^ V 4 ≤ 2 ^ 3 := Nat.pow_le_pow_right (by decide) (by omega)
      omega
    have hsz : szV V = (49 + n + 8 * V 9 + 16 + 7) / 8 := by unfold szV; rw [← hn]
    clear hV hn
    have hvv : hval V (n : Int) = .agg #[.int .i64 (V 0 : Int), .int .i64 (V 1 : Int), .int .i64 (V 2 : Int), .int .i64 (V 3 : Int), .int .i64 (n : Int), .int .i64 (V 5 : Int), .int .i64 (V 6 : Int), .int .i64 (V 7 : Int), .int .i64 (V 8 : Int), .int .u64 0, .string ⟨#[]⟩, .int .i64 (V 4 : Int), .int .i64 (V 9 : Int)] := rfl
    rw [hvv]
    have HH := Lib.hid (heap_alloc_new w2 (.cells #[.int .i64 (V 0 : Int), .int .i64 (V 1 : Int), .int .i64 (V 2 : Int), .int .i64 (V 3 : Int), .int .i64 (n : Int), .int .i64 (V 5 : Int), .int .i64 (V 6 : Int), .int .i64 (V 7 : Int), .int .i64 (V 8 : Int), .int .u64 0, .string ⟨#[]⟩, .int .i64 (V 4 : Int), .int .i64 (V 9 : Int)] 101))
    have HG := Lib.hid (World.grownBy_alloc w2 (.cells #[.int .i64 (V 0 : Int), .int .i64 (V 1 : Int), .int .i64 (V 2 : Int), .int .i64 (V 3 : Int), .int .i64 (n : Int), .int .i64 (V 5 : Int), .int .i64 (V 6 : Int), .int .i64 (V 7 : Int), .int .i64 (V 8 : Int), .int .u64 0, .string ⟨#[]⟩, .int .i64 (V 4 : Int), .int .i64 (V 9 : Int)] 101) none)
    have HSZ := Lib.hid hsz
    clear hvv hsz
    go_wp2_with fail
    generalize w2.alloc _ = w3 at *
    change Hid (w3.heap[w2.heap.size]? = some (.cells (hdc V 10 (n : Int)) 101 (0, 0))) at HH
    have HB3 := Lib.hid (And.intro (kept_row HB2.out.1 HG.out (by simp)) (grown_trans HB2.out.2 HG.out))
    have HR3 := Lib.hid (HR2.out.keep HG.out)
    clear HB2 HR2 HG
    refine (mistake_any V (n : Int) w2.heap.size w3 HH.out).mono ?_
    rintro e w' ⟨rfl, rfl⟩
    obtain ⟨m, hm⟩ : ∃ m, m = misV V := ⟨_, rfl⟩
    rw [← hm] at HD ⊢
    have HM := Lib.hid hm
    clear hm
    by_cases hm0 : m = 0
    · have h64 : V 9 ≤ 64 := by
        have h := HM.out
        rw [hm0] at h
        unfold misV at h
        split at h
        · cases h
        · split at h
          · cases h
          · split at h
            · cases h
            · omega
      subst hm0
      have b4 : w3.cell? ⟨w2.heap.size, 4, none⟩ = some (.int .i64 (n : Int)) := cell_of_row _ _ _ _ _ _ HH.out
      have b9 : w3.cell? ⟨w2.heap.size, 12, none⟩ = some (.int .i64 (V 9 : Int)) := cell_of_row _ _ _ _ _ _ HH.out
      go_wp2_with fail
      refine (bytesForP_any n (V 9) (by omega) (by omega) _).mono ?_
      rintro e w' ⟨rfl, rfl⟩
      rw [← HSZ.out]
      have hs200 : szV V ≤ 200 := by rw [HSZ.out]; omega
      obtain ⟨z, hz⟩ : ∃ z, z = szV V := ⟨_, rfl⟩
      rw [← hz] at HD hs200 ⊢
      have HZ := Lib.hid hz
      clear hz b4 b9
      by_cases hlz : l.length < z
      · have hE : Hid (decV l = (zpk, 20)) := Lib.hid (by rw [HD.out, if_neg (by simp), if_pos hlz])
        obtain ⟨⟨r0, r1, r2, r3, r4, r5, r6, r7, r8, r9⟩, f0, f1, f2, f3, f4, f5, f6, f7, f8, f9⟩ := zp_cells HB3.out.1
        go_wp2_with fail
        refine bodyPost_ret (res_packet_err rfl _ _ w.heap.size _ rfl rfl (pput_row _ _ _ _ _ _ _ _ _ _ HB3.out.1)) rfl ?_
        exact ⟨by rw [hE.out]; rfl, grown_new HB3.out.2 (pput_grown _ w.heap.size _ _ _ _ _ _ _ _ _ _) (Nat.le_refl _)⟩
      · have hzc : z ≤ c := by omega
        have hzl : z ≤ l.length := by omega
        obtain ⟨d0, d1, d2, d3, d4, d5, d6, d7, d8, d9, d10, d11, d12⟩ : w3.cell? ⟨w2.heap.size, 0, none⟩ = some (.int .i64 (V 0 : Int)) ∧ w3.cell? ⟨w2.heap.size, 1, none⟩ = some (.int .i64 (V 1 : Int)) ∧ w3.cell? ⟨w2.heap.size, 2, none⟩ = some (.int .i64 (V 2 : Int)) ∧ w3.cell? ⟨w2.heap.size, 3, none⟩ = some (.int .i64 (V 3 : Int)) ∧ w3.cell? ⟨w2.heap.size, 4, none⟩ = some (.int .i64 (n : Int)) ∧ w3.cell? ⟨w2.heap.size, 5, none⟩ = some (.int .i64 (V 5 : Int)) ∧ w3.cell? ⟨w2.heap.size, 6, none⟩ = some (.int .i64 (V 6 : Int)) ∧ w3.cell? ⟨w2.heap.size, 7, none⟩ = some (.int .i64 (V 7 : Int)) ∧ w3.cell? ⟨w2.heap.size, 8, none⟩ = some (.int .i64 (V 8 : Int)) ∧ w3.cell? ⟨w2.heap.size, 9, none⟩ = some (.int .u64 0) ∧ w3.cell? ⟨w2.heap.size, 10, none⟩ = some (.string ⟨#[]⟩) ∧ w3.cell? ⟨w2.heap.size, 11, none⟩ = some (.int .i64 (V 4 : Int)) ∧ w3.cell? ⟨w2.heap.size, 12, none⟩ = some (.int .i64 (V 9 : Int)) := ⟨cell_of_row _ _ _ _ _ _ HH.out, cell_of_row _ _ _ _ _ _ HH.out, cell_of_row _ _ _ _ _ _ HH.out, cell_of_row _ _ _ _ _ _ HH.out, cell_of_row _ _ _ _ _ _ HH.out, cell_of_row _ _ _ _ _ _ HH.out, cell_of_row _ _ _ _ _ _ HH.out, cell_of_row _ _ _ _ _ _ HH.out, cell_of_row _ _ _ _ _ _ HH.out, cell_of_row _ _ _ _ _ _ HH.out, cell_of_row _ _ _ _ _ _ HH.out, cell_of_row _ _ _ _ _ _ HH.out, cell_of_row _ _ _ _ _ _ HH.out⟩
        go_wp2_with fail
        have ez : (l.take z).length = z := by rw [List.length_take]; omega
        obtain ⟨r, hr⟩ : ∃ r, r = restV V n (l.take z) := ⟨_, rfl⟩
        have HC : Hid (∀ w', w3.grownBy w' none → Calls Tryd.prog 83 #[.agg #[.int .i64 (V 0 : Int), .int .i64 (V 1 : Int), .int .i64 (V 2 : Int), .int .i64 (V 3 : Int), .int .i64 (n : Int), .int .i64 (V 5 : Int), .int .i64 (V 6 : Int), .int .i64 (V 7 : Int), .int .i64 (V 8 : Int), .int .u64 0, .string ⟨#[]⟩, .int .i64 (V 4 : Int), .int .i64 (V 9 : Int)], .slice p z c] w' fun e w'' => e = .returned (.tuple #[.agg r.1, .int .i64 r.2]) ∧ w'.grownBy w'' none) := Lib.hid fun w' hg => by
          have h := readRest_any V n hn64 h64 (l.take z) (fun x hx => hl x (List.mem_of_mem_take hx)) (by rw [ez, HZ.out, HSZ.out]) q p c w' (rd_take z hzl (HR3.out.keep hg) c)
          rw [ez, ← hr] at h
          exact h
        have hr2 : (∃ b s, r = (rcells V (n : Int) b s, 0)) ∨ (∃ x, x ≠ 0 ∧ r = (zpk, x)) := by
          rw [hr]; unfold restV
          split
          · exact .inl ⟨_, _, rfl⟩
          · rename_i hx; exact .inr ⟨_, hx, rfl⟩
        rw [← hr] at HD
        clear hr
        have hHZ : (w3.alloc (.cells #[.int .i64 0, .int .i64 0, .int .i64 0, .int .i64 0, .int .i64 0, .int .i64 0, .int .i64 0, .int .i64 0, .int .u64 0, .string ⟨#[]⟩] 25)).heap[w2.heap.size]? = some (.cells (hdc V 10 (n : Int)) 101 (0, 0)) := kept_row HH.out (World.grownBy_alloc w3 _ none) (by simp)
        obtain ⟨i0, i1, i2, i3, i4, i5, i6, i7, i8, i9, i10, i11, i12⟩ : (w3.alloc (.cells #[.int .i64 0, .int .i64 0, .int .i64 0, .int .i64 0, .int .i64 0, .int .i64 0, .int .i64 0, .int .i64 0, .int .u64 0, .string ⟨#[]⟩] 25)).cell? ⟨w2.heap.size, 0, none⟩ = some (.int .i64 (V 0 : Int)) ∧ (w3.alloc (.cells #[.int .i64 0, .int .i64 0, .int .i64 0, .int .i64 0, .int .i64 0, .int .i64 0, .int .i64 0, .int .i64 0, .int .u64 0, .string ⟨#[]⟩] 25)).cell? ⟨w2.heap.size, 1, none⟩ = some (.int .i64 (V 1 : Int)) ∧ (w3.alloc (.cells #[.int .i64 0, .int .i64 0, .int .i64 0, .int .i64 0, .int .i64 0, .int .i64 0, .int .i64 0, .int .i64 0, .int .u64 0, .string ⟨#[]⟩] 25)).cell? ⟨w2.heap.size, 2, none⟩ = some (.int .i64 (V 2 : Int)) ∧ (w3.alloc (.cells #[.int .i64 0, .int .i64 0, .int .i64 0, .int .i64 0, .int .i64 0, .int .i64 0, .int .i64 0, .int .i64 0, .int .u64 0, .string ⟨#[]⟩] 25)).cell? ⟨w2.heap.size, 3, none⟩ = some (.int .i64 (V 3 : Int)) ∧ (w3.alloc (.cells #[.int .i64 0, .int .i64 0, .int .i64 0, .int .i64 0, .int .i64 0, .int .i64 0, .int .i64 0, .int .i64 0, .int .u64 0, .string ⟨#[]⟩] 25)).cell? ⟨w2.heap.size, 4, none⟩ = some (.int .i64 (n : Int)) ∧ (w3.alloc (.cells #[.int .i64 0, .int .i64 0, .int .i64 0, .int .i64 0, .int .i64 0, .int .i64 0, .int .i64 0, .int .i64 0, .int .u64 0, .string ⟨#[]⟩] 25)).cell? ⟨w2.heap.size, 5, none⟩ = some (.int .i64 (V 5 : Int)) ∧ (w3.alloc (.cells #[.int .i64 0, .int .i64 0, .int .i64 0, .int .i64 0, .int .i64 0, .int .i64 0, .int .i64 0, .int .i64 0, .int .u64 0, .string ⟨#[]⟩] 25)).cell? ⟨w2.heap.size, 6, none⟩ = some (.int .i64 (V 6 : Int)) ∧ (w3.alloc (.cells #[.int .i64 0, .int .i64 0, .int .i64 0, .int .i64 0, .int .i64 0, .int .i64 0, .int .i64 0, .int .i64 0, .int .u64 0, .string ⟨#[]⟩] 25)).cell? ⟨w2.heap.size, 7, none⟩ = some (.int .i64 (V 7 : Int)) ∧ (w3.alloc (.cells #[.int .i64 0, .int .i64 0, .int .i64 0, .int .i64 0, .int .i64 0, .int .i64 0, .int .i64 0, .int .i64 0, .int .u64 0, .string ⟨#[]⟩] 25)).cell? ⟨w2.heap.size, 8, none⟩ = some (.int .i64 (V 8 : Int)) ∧ (w3.alloc (.cells #[.int .i64 0, .int .i64 0, .int .i64 0, .int .i64 0, .int .i64 0, .int .i64 0, .int .i64 0, .int .i64 0, .int .u64 0, .string ⟨#[]⟩] 25)).cell? ⟨w2.heap.size, 9, none⟩ = some (.int .u64 0) ∧ (w3.alloc (.cells #[.int .i64 0, .int .i64 0, .int .i64 0, .int .i64 0, .int .i64 0, .int .i64 0, .int .i64 0, .int .i64 0, .int .u64 0, .string ⟨#[]⟩] 25)).cell? ⟨w2.heap.size, 10, none⟩ = some (.string ⟨#[]⟩) ∧ (w3.alloc (.cells #[.int .i64 0, .int .i64 0, .int .i64 0, .int .i64 0, .int .i64 0, .int .i64 0, .int .i64 0, .int .i64 0, .int .u64 0, .string ⟨#[]⟩] 25)).cell? ⟨w2.heap.size, 11, none⟩ = some (.int .i64 (V 4 : Int)) ∧ (w3.alloc (.cells #[.int .i64 0, .int .i64 0, .int .i64 0, .int .i64 0, .int .i64 0, .int .i64 0, .int .i64 0, .int .i64 0, .int .u64 0, .string ⟨#[]⟩] 25)).cell? ⟨w2.heap.size, 12, none⟩ = some (.int .i64 (V 9 : Int)) := ⟨cell_of_row _ _ _ _ _ _ hHZ, cell_of_row _ _ _ _ _ _ hHZ, cell_of_row _ _ _ _ _ _ hHZ, cell_of_row _ _ _ _ _ _ hHZ, cell_of_row _ _ _ _ _ _ hHZ, cell_of_row _ _ _ _ _ _ hHZ, cell_of_row _ _ _ _ _ _ hHZ, cell_of_row _ _ _ _ _ _ hHZ, cell_of_row _ _ _ _ _ _ hHZ, cell_of_row _ _ _ _ _ _ hHZ, cell_of_row _ _ _ _ _ _ hHZ, cell_of_row _ _ _ _ _ _ hHZ, cell_of_row _ _ _ _ _ _ hHZ⟩
        clear hHZ
        rcases hr2 with ⟨b, s, rfl⟩ | ⟨x, hx, rfl⟩
        · have HC2 := Lib.hid HC.out
          clear HC
          dsimp only at HC2
          unfold rcells at HC2
          go_cut [7, 8] from 34 to 41 (fun pp ee wx => ∃ g, pp = .pointer (some ⟨g, 0, none⟩) ∧ ee = .int .i64 (0) ∧ Hid (wx.heap[g]? = some (.cells (rcells V (n : Int) b s) 25 (0, 0)) ∧ wx.heap[w.heap.size]? = some (.cells zpk 25 (0, 0)) ∧ w.grownBy wx none))
          case first =>
            go_region_law (first
              | (go_simp; go_at_call 83; refine (HC2.out _ ?_).mono ?_; (focus (repeat (first | (with_reducible exact grown_refl _ _) | apply grown_drew | (with_reducible exact World.grownBy_alloc _ _ _)))); rintro e w5 ⟨rfl, hap⟩; have G5 : Hid (w3.grownBy w5 none) := (by refine Lib.hid (grown_trans ?_ hap); repeat (first | (with_reducible exact grown_refl _ _) | apply grown_drew | (with_reducible exact World.grownBy_alloc _ _ _))); first | (have ZZ := zp_after hap; have ZR := Lib.hid ZZ; obtain ⟨⟨r0, r1, r2, r3, r4, r5, r6, r7, r8, r9⟩, f0, f1, f2, f3, f4, f5, f6, f7, f8, f9⟩ := zp_cells ZZ; clear ZZ) | skip))
            all_goals
              go_wp2_with fail
              go_meet
              first
                | (refine ⟨w3.heap.size, by with_reducible rfl, by with_reducible rfl, ?_⟩; exact Lib.hid ⟨pput_row (w := w5) (h := w3.heap.size) _ _ _ _ _ _ _ _ _ _ ZR.out, kept_row (kept_row HB3.out.1 G5.out (by simp)) (pput_grown w5 w3.heap.size _ _ _ _ _ _ _ _ _ _) (fun e => by have h1 := World.lt_of_row' HB3.out.1; have := Option.some.inj e; omega), grown_new (grown_trans HB3.out.2 G5.out) (pput_grown w5 w3.heap.size _ _ _ _ _ _ _ _ _ _) (HB3.out.2.size)⟩)
                | (refine ⟨w5.heap.size, by with_reducible rfl, by with_reducible rfl, ?_⟩; exact Lib.hid ⟨heap_alloc_new w5 _, kept_row HB3.out.1 (grown_trans G5.out (World.grownBy_alloc w5 _ none)) (by simp), grown_trans HB3.out.2 (grown_trans G5.out (World.grownBy_alloc w5 _ none))⟩)
          case rest =>
            obtain ⟨g, rfl, rfl, HW⟩ := hcut
            clear d0 d1 d2 d3 d4 d5 d6 d7 d8 d9 d10 d11 d12 i0 i1 i2 i3 i4 i5 i6 i7 i8 i9 i10 i11 i12 HC2
            obtain ⟨⟨r0, r1, r2, r3, r4, r5, r6, r7, r8, r9⟩, f0, f1, f2, f3, f4, f5, f6, f7, f8, f9⟩ := zp_cells HW.out.2.1
            by_cases hlong : z < l.length
            · have hE : Hid (decV l = (zpk, 21)) := Lib.hid (by rw [HD.out, if_neg (by simp), if_neg hlz, if_neg (by simp), if_pos hlong])
              go_wp2_with fail
              refine bodyPost_ret (res_packet_err rfl _ _ w.heap.size _ rfl rfl (pput_row _ _ _ _ _ _ _ _ _ _ HW.out.2.1)) rfl ?_
              exact ⟨by rw [hE.out]; rfl, grown_new HW.out.2.2 (pput_grown _ w.heap.size _ _ _ _ _ _ _ _ _ _) (Nat.le_refl _)⟩
            · have hE : Hid (decV l = (rcells V (n : Int) b s, 0)) := Lib.hid (by rw [HD.out, if_neg (by simp), if_neg hlz, if_neg (by simp), if_neg hlong])
              obtain ⟨q0, q1, q2, q3, q4, q5, q6, q7, q8, q9⟩ := rc_cells HW.out.1
              go_wp2_with fail
              refine bodyPost_ret (res_packet_err rfl _ _ w.heap.size _ rfl rfl (pput_row _ _ _ _ _ _ _ _ _ _ HW.out.2.1)) rfl ?_
              exact ⟨by rw [hE.out]; rfl, grown_new HW.out.2.2 (pput_grown _ w.heap.size _ _ _ _ _ _ _ _ _ _) (Nat.le_refl _)⟩
        · have HC2 := Lib.hid HC.out
          clear HC
          dsimp only at HC2
          unfold zpk at HC2
          go_cut [7, 8] from 34 to 41 (fun pp ee wx => ∃ g, pp = .pointer (some ⟨g, 0, none⟩) ∧ ee = .int .i64 (x) ∧ Hid (wx.heap[g]? = some (.cells (zpk) 25 (0, 0)) ∧ wx.heap[w.heap.size]? = some (.cells zpk 25 (0, 0)) ∧ w.grownBy wx none))
          case first =>
            go_region_law (first
              | (go_simp; go_at_call 83; refine (HC2.out _ ?_).mono ?_; (focus (repeat (first | (with_reducible exact grown_refl _ _) | apply grown_drew | (with_reducible exact World.grownBy_alloc _ _ _)))); rintro e w5 ⟨rfl, hap⟩; have G5 : Hid (w3.grownBy w5 none) := (by refine Lib.hid (grown_trans ?_ hap); repeat (first | (with_reducible exact grown_refl _ _) | apply grown_drew | (with_reducible exact World.grownBy_alloc _ _ _))); first | (have ZZ := zp_after hap; have ZR := Lib.hid ZZ; obtain ⟨⟨r0, r1, r2, r3, r4, r5, r6, r7, r8, r9⟩, f0, f1, f2, f3, f4, f5, f6, f7, f8, f9⟩ := zp_cells ZZ; clear ZZ) | skip))
            all_goals
              go_wp2_with fail
              go_meet
              first
                | (refine ⟨w3.heap.size, by with_reducible rfl, by with_reducible rfl, ?_⟩; exact Lib.hid ⟨pput_row (w := w5) (h := w3.heap.size) _ _ _ _ _ _ _ _ _ _ ZR.out, kept_row (kept_row HB3.out.1 G5.out (by simp)) (pput_grown w5 w3.heap.size _ _ _ _ _ _ _ _ _ _) (fun e => by have h1 := World.lt_of_row' HB3.out.1; have := Option.some.inj e; omega), grown_new (grown_trans HB3.out.2 G5.out) (pput_grown w5 w3.heap.size _ _ _ _ _ _ _ _ _ _) (HB3.out.2.size)⟩)
                | (refine ⟨w5.heap.size, by with_reducible rfl, by with_reducible rfl, ?_⟩; exact Lib.hid ⟨heap_alloc_new w5 _, kept_row HB3.out.1 (grown_trans G5.out (World.grownBy_alloc w5 _ none)) (by simp), grown_trans HB3.out.2 (grown_trans G5.out (World.grownBy_alloc w5 _ none))⟩)
          case rest =>
            obtain ⟨g, rfl, rfl, HW⟩ := hcut
            clear d0 d1 d2 d3 d4 d5 d6 d7 d8 d9 d10 d11 d12 i0 i1 i2 i3 i4 i5 i6 i7 i8 i9 i10 i11 i12 HC2
            obtain ⟨⟨r0, r1, r2, r3, r4, r5, r6, r7, r8, r9⟩, f0, f1, f2, f3, f4, f5, f6, f7, f8, f9⟩ := zp_cells HW.out.2.1
            have hE : Hid (decV l = (zpk, x)) := Lib.hid (by rw [HD.out, if_neg (by simp), if_neg hlz, if_pos hx])
            have hxb : (x != 0) = true := by simpa using hx
            go_wp2_with fail
            refine bodyPost_ret (res_packet_err rfl _ _ w.heap.size _ rfl rfl (pput_row _ _ _ _ _ _ _ _ _ _ HW.out.2.1)) rfl ?_
            exact ⟨by rw [hE.out]; rfl, grown_new HW.out.2.2 (pput_grown _ w.heap.size _ _ _ _ _ _ _ _ _ _) (Nat.le_refl _)⟩
    · have hE : Hid (decV l = (zpk, m)) := Lib.hid (by rw [HD.out, if_pos hm0])
      have hmb : (m != 0) = true := by simpa using hm0
      obtain ⟨⟨r0, r1, r2, r3, r4, r5, r6, r7, r8, r9⟩, f0, f1, f2, f3, f4, f5, f6, f7, f8, f9⟩ := zp_cells HB3.out.1
      go_wp2_with fail
      refine bodyPost_ret (res_packet_err rfl _ _ w.heap.size _ rfl rfl (pput_row _ _ _ _ _ _ _ _ _ _ HB3.out.1)) rfl ?_
      exact ⟨by rw [hE.out]; rfl, grown_new HB3.out.2 (pput_grown _ w.heap.size _ _ _ _ _ _ _ _ _ _) (Nat.le_refl _)⟩
end Go.Proofs.YtnfgkakhdgiepaaDoor

/- packet: Size and Plane. -/
namespace Go.Proofs.YtnfgkakhdgiepaaDoor
open Go.RowKit Bs
def sizeV (P : Pk) : Nat := if vpk P = true then (49 + P.len.toNat + 8 * P.pay.size + 16 + 7) / 8 else 0
def planeV (P : Pk) : Int := if vpk P = true then P.ent % 8 else 0
set_option maxRecDepth 100000 in
theorem vpk_len {P : Pk} (h : vpk P = true) : P.len = ((P.len.toNat : Nat) : Int) ∧ P.len.toNat ≤ 64 := by
  rcases vl_cases (vb_vl (vpk_parts h).2.2.2.2.2.2.2.2) with h | h | h | h <;> rw [h] <;> decide
set_option maxRecDepth 100000 in
set_option maxHeartbeats 3200000 in
theorem psize_any (P : Pk) (hP : P.Wf) (w : World) :
    Calls Tryd.prog 18 #[P.val] w fun e w' => e = .returned (.int .i64 ((sizeV P : Nat) : Int)) ∧ w.grownBy w' none := by
  have hval : P.val = .agg #[.int .i64 P.mode, .int .i64 P.sub, .int .i64 P.set, .int .i64 P.len, .int .i64 P.ttl, .int .i64 P.ent, .int .i64 P.ing, .int .i64 P.pro, .int .u64 (P.bits : Int), .string P.pay] := rfl
  rw [hval]
  go_enter Tryd.func18, Tryd.ntmps18
  go_wp2_with fail
  obtain ⟨k1, k2⟩ := one_box w (pcells P) 25
  have HP := Lib.hid (And.intro k1 k2)
  clear k1 k2
  unfold pcells at HP
  generalize w.alloc _ = wa at *
  change Hid (wa.heap[w.heap.size]? = some (.cells (pcells P) 25 (0, 0)) ∧ w.grownBy wa none) at HP
  rw [← hval]
  refine (pvalid_any P hP _).mono ?_
  rintro e w1 ⟨rfl, hg⟩
  have HQ := Lib.hid (And.intro (kept_row HP.out.1 hg (by simp)) (grown_trans HP.out.2 hg))
  clear hg HP
  by_cases hv : vpk P = true
  · have hE : Hid (sizeV P = (49 + P.len.toNat + 8 * P.pay.size + 16 + 7) / 8) := Lib.hid (by unfold sizeV; rw [if_pos hv])
    obtain ⟨hn, hn2⟩ := vpk_len hv
    have hp := (vpk_parts hv).2.2.2.2.2.2.2.1
    have HN := Lib.hid hn
    rw [hv]
    clear hv hn
    obtain ⟨_, _, _, a3, _, _, _, _, _, a9⟩ := p_facts HQ.out.1
    go_wp2_with fail
    rw [HN.out]
    refine (bytesForP_any P.len.toNat P.pay.size (by omega) (by omega) _).mono ?_
    rintro e w' ⟨rfl, rfl⟩
    rw [← hE.out]
    go_wp2_with fail
    go_ret
    exact ⟨rfl, HQ.out.2⟩
  · have hf : vpk P = false := by simpa using hv
    have hE : Hid (sizeV P = 0) := Lib.hid (by unfold sizeV; rw [if_neg hv])
    rw [hf]
    clear hf hv
    go_wp2_with fail
    go_ret
    exact ⟨by rw [hE.out]; rfl, HQ.out.2⟩
set_option maxRecDepth 100000 in
theorem pplane_any (P : Pk) (hP : P.Wf) (w : World) :
    Calls Tryd.prog 20 #[P.val] w fun e w' => e = .returned (.int .i64 (planeV P)) ∧ w.grownBy w' none := by
  have hval : P.val = .agg #[.int .i64 P.mode, .int .i64 P.sub, .int .i64 P.set, .int .i64 P.len, .int .i64 P.ttl, .int .i64 P.ent, .int .i64 P.ing, .int .i64 P.pro, .int .u64 (P.bits : Int), .string P.pay] := rfl
  rw [hval]
  go_enter Tryd.func20, Tryd.ntmps20
  go_wp2_with fail
  obtain ⟨k1, k2⟩ := one_box w (pcells P) 25
  have HP := Lib.hid (And.intro k1 k2)
  clear k1 k2
  unfold pcells at HP
  generalize w.alloc _ = wa at *
  change Hid (wa.heap[w.heap.size]? = some (.cells (pcells P) 25 (0, 0)) ∧ w.grownBy wa none) at HP
  rw [← hval]
  refine (pvalid_any P hP _).mono ?_
  rintro e w1 ⟨rfl, hg⟩
  have HQ := Lib.hid (And.intro (kept_row HP.out.1 hg (by simp)) (grown_trans HP.out.2 hg))
  clear hg HP
  by_cases hv : vpk P = true
  · have hE : Hid (planeV P = P.ent % 8) := Lib.hid (by unfold planeV; rw [if_pos hv])
    have he := (vpk_parts hv).2.2.2.2.1
    obtain ⟨he1, he2⟩ := he
    rw [hv]
    clear hv
    obtain ⟨_, _, _, _, _, a5, _⟩ := p_facts HQ.out.1
    go_wp2_with fail
    go_ret
    exact ⟨by rw [hE.out]; rfl, HQ.out.2⟩
  · have hf : vpk P = false := by simpa using hv
    have hE : Hid (planeV P = 0) := Lib.hid (by unfold planeV; rw [if_neg hv])
    rw [hf]
    clear hf hv
    go_wp2_with fail
    go_ret
    exact ⟨by rw [hE.out]; rfl, HQ.out.2⟩
end Go.Proofs.YtnfgkakhdgiepaaDoor

/- packet: the chapter's example. -/
namespace Go.Proofs.YtnfgkakhdgiepaaDoor
open Go.RowKit Bs
/-- The example's packet. -/
def exP : Pk := ⟨1, 0, 0, 8, 0, 0, 0, 0, 0, ⟨#[]⟩⟩
set_option maxRecDepth 100000 in
theorem ex_valid : vpk exP = true := by decide +kernel
set_option maxRecDepth 100000 in
theorem ex_enc : enc exP = [144, 0, 0, 0, 0, 0, 0, 109, 76, 0] := by decide +kernel
set_option maxRecDepth 100000 in
theorem ex_size : sizeV exP = 10 := by decide +kernel
set_option maxRecDepth 100000 in
theorem ex_wf : exP.Wf := ⟨by unfold I64; decide, by unfold I64; decide, by unfold I64; decide, by unfold I64; decide, by unfold I64; decide, by unfold I64; decide, by unfold I64; decide, by unfold I64; decide, by unfold U64; decide, by decide⟩
set_option maxRecDepth 100000 in
theorem ex_dec : decV [144, 0, 0, 0, 0, 0, 0, 109, 76, 0] = (#[.int .i64 1, .int .i64 0, .int .i64 0, .int .i64 8, .int .i64 0, .int .i64 0, .int .i64 0, .int .i64 0, .int .u64 0, .string ⟨#[]⟩], 0) := by kernel_rfl
set_option maxRecDepth 100000 in
set_option maxHeartbeats 3200000 in
theorem awake_any (w : World) (hT : Tb w) :
    Calls Tryd.prog 22 #[] w fun e w' => e = .returned (.bool true) ∧ w.grownBy w' none := by
  go_enter Tryd.func22, Tryd.ntmps22
  go_wp2_with fail
  obtain ⟨k1, k2⟩ := one_box w #[.int .i64 1, .int .i64 0, .int .i64 0, .int .i64 8, .int .i64 0, .int .i64 0, .int .i64 0, .int .i64 0, .int .u64 0, .string ⟨#[]⟩] 25
  have HP := Lib.hid (And.intro k1 k2)
  have HT := Lib.hid (hT.keep k2)
  clear k1 k2
  generalize w.alloc _ = wa at *
  refine (pencode_any exP ex_wf wa HT.out).mono ?_
  rintro e w2 (⟨_, g, rfl, hB, hge, hg⟩ | ⟨h, _⟩)
  · rw [ex_enc] at hB ⊢
    have HQ := Lib.hid (And.intro (kept_row HP.out.1 hg (by simp)) (grown_trans HP.out.2 hg))
    have HB := Lib.hid hB
    clear hB hge hg HP
    go_wp2_with fail
    refine (pdecode_any [144, 0, 0, 0, 0, 0, 0, 109, 76, 0] (by intro x hx; simp at hx; omega) (some ⟨g, 0, none⟩) 10 (Nat.le_refl _) (fun _ => True) w2 (HB.out.rd _ trivial _)).mono ?_
    rintro e w3 ⟨rfl, hg⟩
    rw [ex_dec]
    have hgb := World.grownBy_alloc w3 (.cells #[.int .i64 1, .int .i64 0, .int .i64 0, .int .i64 8, .int .i64 0, .int .i64 0, .int .i64 0, .int .i64 0, .int .u64 0, .string ⟨#[]⟩] 25) none
    have HQ3 := Lib.hid (And.intro (kept_row HQ.out.1 (grown_trans hg hgb) (by simp)) (grown_trans HQ.out.2 (grown_trans hg hgb)))
    have hB3 := (HB.out.keep hg).keep hgb
    have b0 : (w3.alloc (.cells #[.int .i64 1, .int .i64 0, .int .i64 0, .int .i64 8, .int .i64 0, .int .i64 0, .int .i64 0, .int .i64 0, .int .u64 0, .string ⟨#[]⟩] 25)).cell? ⟨g, 0, none⟩ = some (.int .u8 144) := hB3.cell (j := 0) (by decide)
    have a0 : (w3.alloc (.cells #[.int .i64 1, .int .i64 0, .int .i64 0, .int .i64 8, .int .i64 0, .int .i64 0, .int .i64 0, .int .i64 0, .int .u64 0, .string ⟨#[]⟩] 25)).cell? ⟨w.heap.size, 0, none⟩ = some (.int .i64 1) := cell_of_row _ _ _ _ _ _ HQ3.out.1
    have a1 : (w3.alloc (.cells #[.int .i64 1, .int .i64 0, .int .i64 0, .int .i64 8, .int .i64 0, .int .i64 0, .int .i64 0, .int .i64 0, .int .u64 0, .string ⟨#[]⟩] 25)).cell? ⟨w.heap.size, 1, none⟩ = some (.int .i64 0) := cell_of_row _ _ _ _ _ _ HQ3.out.1
    have a2 : (w3.alloc (.cells #[.int .i64 1, .int .i64 0, .int .i64 0, .int .i64 8, .int .i64 0, .int .i64 0, .int .i64 0, .int .i64 0, .int .u64 0, .string ⟨#[]⟩] 25)).cell? ⟨w.heap.size, 2, none⟩ = some (.int .i64 0) := cell_of_row _ _ _ _ _ _ HQ3.out.1
    have a3 : (w3.alloc (.cells #[.int .i64 1, .int .i64 0, .int .i64 0, .int .i64 8, .int .i64 0, .int .i64 0, .int .i64 0, .int .i64 0, .int .u64 0, .string ⟨#[]⟩] 25)).cell? ⟨w.heap.size, 3, none⟩ = some (.int .i64 8) := cell_of_row _ _ _ _ _ _ HQ3.out.1
    have a4 : (w3.alloc (.cells #[.int .i64 1, .int .i64 0, .int .i64 0, .int .i64 8, .int .i64 0, .int .i64 0, .int .i64 0, .int .i64 0, .int .u64 0, .string ⟨#[]⟩] 25)).cell? ⟨w.heap.size, 4, none⟩ = some (.int .i64 0) := cell_of_row _ _ _ _ _ _ HQ3.out.1
    have a5 : (w3.alloc (.cells #[.int .i64 1, .int .i64 0, .int .i64 0, .int .i64 8, .int .i64 0, .int .i64 0, .int .i64 0, .int .i64 0, .int .u64 0, .string ⟨#[]⟩] 25)).cell? ⟨w.heap.size, 5, none⟩ = some (.int .i64 0) := cell_of_row _ _ _ _ _ _ HQ3.out.1
    have a6 : (w3.alloc (.cells #[.int .i64 1, .int .i64 0, .int .i64 0, .int .i64 8, .int .i64 0, .int .i64 0, .int .i64 0, .int .i64 0, .int .u64 0, .string ⟨#[]⟩] 25)).cell? ⟨w.heap.size, 6, none⟩ = some (.int .i64 0) := cell_of_row _ _ _ _ _ _ HQ3.out.1
    have a7 : (w3.alloc (.cells #[.int .i64 1, .int .i64 0, .int .i64 0, .int .i64 8, .int .i64 0, .int .i64 0, .int .i64 0, .int .i64 0, .int .u64 0, .string ⟨#[]⟩] 25)).cell? ⟨w.heap.size, 7, none⟩ = some (.int .i64 0) := cell_of_row _ _ _ _ _ _ HQ3.out.1
    have a8 : (w3.alloc (.cells #[.int .i64 1, .int .i64 0, .int .i64 0, .int .i64 8, .int .i64 0, .int .i64 0, .int .i64 0, .int .i64 0, .int .u64 0, .string ⟨#[]⟩] 25)).cell? ⟨w.heap.size, 8, none⟩ = some (.int .u64 0) := cell_of_row _ _ _ _ _ _ HQ3.out.1
    have a9 : (w3.alloc (.cells #[.int .i64 1, .int .i64 0, .int .i64 0, .int .i64 8, .int .i64 0, .int .i64 0, .int .i64 0, .int .i64 0, .int .u64 0, .string ⟨#[]⟩] 25)).cell? ⟨w.heap.size, 9, none⟩ = some (.string ⟨#[]⟩) := cell_of_row _ _ _ _ _ _ HQ3.out.1
    clear hg hgb hB3 HQ HB
    go_wp2_with fail
    refine (psize_any exP ex_wf _).mono ?_
    rintro e w5 ⟨rfl, hg⟩
    rw [ex_size]
    have GE := Lib.hid (grown_trans HQ3.out.2 hg)
    clear hg b0 a0 a1 a2 a3 a4 a5 a6 a7 a8 a9
    go_wp2_with fail
    go_ret
    exact ⟨rfl, GE.out⟩
  · rw [ex_valid] at h; cases h
end Go.Proofs.YtnfgkakhdgiepaaDoor

/- packet: the reference's Valid, Size, Plane. -/
namespace Go.Proofs.YtnfgkakhdgiepaaDoor
open Go.RowKit Bs
def ins (n m : Int) : Bool := decide (0 ≤ n ∧ n ≤ m)
set_option maxRecDepth 100000 in
theorem inside_any (n m : Int) (w : World) :
    Calls Tryd.prog 64 #[.int .i64 n, .int .i64 m] w fun e w' => e = .returned (.bool (ins n m)) ∧ w = w' := by
  by_cases h : 0 ≤ n
  · by_cases h2 : n ≤ m
    · have hi : Hid (ins n m = true) := Lib.hid (decide_eq_true ⟨h, h2⟩)
      go_enter Tryd.func64, Tryd.ntmps64
      go_wp2
      all_goals (go_ret; exact ⟨by rw [hi.out]; first | rfl | (simp; omega), rfl⟩)
    · have hi : Hid (ins n m = false) := Lib.hid (decide_eq_false (by omega))
      go_enter Tryd.func64, Tryd.ntmps64
      go_wp2
      all_goals (go_ret; exact ⟨by rw [hi.out]; first | rfl | (simp; omega), rfl⟩)
  · have hi : Hid (ins n m = false) := Lib.hid (decide_eq_false (by omega))
    go_enter Tryd.func64, Tryd.ntmps64
    go_wp2
    all_goals (go_ret; exact ⟨by rw [hi.out]; first | rfl | (simp; omega), rfl⟩)
set_option maxRecDepth 100000 in
theorem vpk_iff (P : Pk) : vpk P = (decide (1 ≤ P.mode) && (decide (P.mode ≤ 3) && (ins P.sub 7 && (ins P.set 31 && (vb P.bits P.len && (ins P.ttl 63 && (ins P.ent 1023 && (ins P.ing 256 && (ins P.pro 7 && decide (P.pay.size ≤ 64)))))))))) := by
  unfold vpk ins
  rw [Bool.eq_iff_iff]
  simp only [decide_eq_true_eq, Bool.and_eq_true]
  constructor
  · rintro ⟨⟨h1, h2⟩, h3, h4, h5, h6, h7, h8, h9, h10⟩
    exact ⟨h1, h2, h3, h4, h10, h5, h6, h7, h8, h9⟩
  · rintro ⟨h1, h2, h3, h4, h10, h5, h6, h7, h8, h9⟩
    exact ⟨⟨h1, h2⟩, h3, h4, h5, h6, h7, h8, h9, h10⟩
set_option maxRecDepth 100000 in
set_option maxHeartbeats 3200000 in
theorem rvalid_any (P : Pk) (hP : P.Wf) (w : World) :
    Calls Tryd.prog 17 #[P.val] w fun e w' => e = .returned (.bool (vpk P)) ∧ w.grownBy w' none := by
  have hval : P.val = .agg #[.int .i64 P.mode, .int .i64 P.sub, .int .i64 P.set, .int .i64 P.len, .int .i64 P.ttl, .int .i64 P.ent, .int .i64 P.ing, .int .i64 P.pro, .int .u64 (P.bits : Int), .string P.pay] := rfl
  rw [hval]
  go_enter Tryd.func17, Tryd.ntmps17
  obtain ⟨k1, k2⟩ := one_box w (pcells P) 25
  have HA := Lib.hid (And.intro k1 k2)
  unfold pcells at HA
  clear k1 k2
  by_cases hs : P.pay.size ≤ 64
  · have hsi : ((P.pay.size : Nat) : Int) ≤ 64 := by omega
    go_wp2_with (first
      | (go_at_call 64; refine (inside_any _ _ _).mono ?_; rintro e w' ⟨rfl, rfl⟩)
      | (go_at_call 65; refine (bvalidr_any P.bits P.len hP.bits _).mono ?_; rintro e w' ⟨rfl, rfl⟩))
    all_goals
      go_ret
      refine ⟨?_, HA.out.2⟩
      first
        | (rw [show vpk P = false by (rw [vpk_iff]; first | (simp [*]; done) | (rw [decide_eq_false (show ¬ 1 ≤ P.mode by omega)]; rfl) | (rw [decide_eq_false (show ¬ P.mode ≤ 3 by omega), Bool.false_and, Bool.and_false]))]; rfl)
        | (rw [show vpk P = true by rw [vpk_iff]; simp [*]]; rfl)
  · have hsi : ¬ ((P.pay.size : Nat) : Int) ≤ 64 := by omega
    go_wp2_with (first
      | (go_at_call 64; refine (inside_any _ _ _).mono ?_; rintro e w' ⟨rfl, rfl⟩)
      | (go_at_call 65; refine (bvalidr_any P.bits P.len hP.bits _).mono ?_; rintro e w' ⟨rfl, rfl⟩))
    all_goals
      go_ret
      refine ⟨?_, HA.out.2⟩
      first
        | (rw [show vpk P = false by (rw [vpk_iff]; first | (simp [*]; done) | (rw [decide_eq_false (show ¬ 1 ≤ P.mode by omega)]; rfl) | (rw [decide_eq_false (show ¬ P.mode ≤ 3 by omega), Bool.false_and, Bool.and_false]))]; rfl)
        | (rw [show vpk P = false by (rw [vpk_iff]; simp [*]), decide_eq_false (show ¬ ((P.pay.size : Nat) : Int) ≤ 64 by omega)]; rfl)
set_option maxRecDepth 100000 in
theorem rsz_any (n m : Nat) (hn : n ≤ 10000) (hm : m ≤ 1000) (w : World) :
    Calls Tryd.prog 67 #[.int .i64 (n : Int), .int .i64 (m : Int)] w fun e w' => e = .returned (.int .i64 (((49 + n + 8 * m + 16 + 7) / 8 : Nat) : Int)) ∧ w = w' := by
  go_enter Tryd.func67, Tryd.ntmps67
  go_wp2
  all_goals (go_ret; exact ⟨by go_num, rfl⟩)
end Go.Proofs.YtnfgkakhdgiepaaDoor

/- packet: the reference's Size and Plane. -/
namespace Go.Proofs.YtnfgkakhdgiepaaDoor
open Go.RowKit Bs
set_option maxRecDepth 100000 in
set_option maxHeartbeats 3200000 in
theorem rsize_any (P : Pk) (hP : P.Wf) (w : World) :
    Calls Tryd.prog 19 #[P.val] w fun e w' => e = .returned (.int .i64 ((sizeV P : Nat) : Int)) ∧ w.grownBy w' none := by
  have hval : P.val = .agg #[.int .i64 P.mode, .int .i64 P.sub, .int .i64 P.set, .int .i64 P.len, .int .i64 P.ttl, .int .i64 P.ent, .int .i64 P.ing, .int .i64 P.pro, .int .u64 (P.bits : Int), .string P.pay] := rfl
  rw [hval]
  go_enter Tryd.func19, Tryd.ntmps19
  go_wp2_with fail
  obtain ⟨k1, k2⟩ := one_box w (pcells P) 25
  have HP := Lib.hid (And.intro k1 k2)
  clear k1 k2
  unfold pcells at HP
  generalize w.alloc _ = wa at *
  change Hid (wa.heap[w.heap.size]? = some (.cells (pcells P) 25 (0, 0)) ∧ w.grownBy wa none) at HP
  rw [← hval]
  refine (rvalid_any P hP _).mono ?_
  rintro e w1 ⟨rfl, hg⟩
  have HQ := Lib.hid (And.intro (kept_row HP.out.1 hg (by simp)) (grown_trans HP.out.2 hg))
  clear hg HP
  by_cases hv : vpk P = true
  · have hE : Hid (sizeV P = (49 + P.len.toNat + 8 * P.pay.size + 16 + 7) / 8) := Lib.hid (by unfold sizeV; rw [if_pos hv])
    obtain ⟨hn, hn2⟩ := vpk_len hv
    have hp := (vpk_parts hv).2.2.2.2.2.2.2.1
    have HN := Lib.hid hn
    rw [hv]
    clear hv hn
    obtain ⟨_, _, _, a3, _, _, _, _, _, a9⟩ := p_facts HQ.out.1
    go_wp2_with fail
    rw [HN.out]
    refine (rsz_any P.len.toNat P.pay.size (by omega) (by omega) _).mono ?_
    rintro e w' ⟨rfl, rfl⟩
    rw [← hE.out]
    go_wp2_with fail
    go_ret
    exact ⟨rfl, HQ.out.2⟩
  · have hf : vpk P = false := by simpa using hv
    have hE : Hid (sizeV P = 0) := Lib.hid (by unfold sizeV; rw [if_neg hv])
    rw [hf]
    clear hf hv
    go_wp2_with fail
    go_ret
    exact ⟨by rw [hE.out]; rfl, HQ.out.2⟩
set_option maxRecDepth 100000 in
theorem rplane_any (P : Pk) (hP : P.Wf) (w : World) :
    Calls Tryd.prog 21 #[P.val] w fun e w' => e = .returned (.int .i64 (planeV P)) ∧ w.grownBy w' none := by
  have hval : P.val = .agg #[.int .i64 P.mode, .int .i64 P.sub, .int .i64 P.set, .int .i64 P.len, .int .i64 P.ttl, .int .i64 P.ent, .int .i64 P.ing, .int .i64 P.pro, .int .u64 (P.bits : Int), .string P.pay] := rfl
  rw [hval]
  go_enter Tryd.func21, Tryd.ntmps21
  go_wp2_with fail
  obtain ⟨k1, k2⟩ := one_box w (pcells P) 25
  have HP := Lib.hid (And.intro k1 k2)
  clear k1 k2
  unfold pcells at HP
  generalize w.alloc _ = wa at *
  change Hid (wa.heap[w.heap.size]? = some (.cells (pcells P) 25 (0, 0)) ∧ w.grownBy wa none) at HP
  rw [← hval]
  refine (rvalid_any P hP _).mono ?_
  rintro e w1 ⟨rfl, hg⟩
  have HQ := Lib.hid (And.intro (kept_row HP.out.1 hg (by simp)) (grown_trans HP.out.2 hg))
  clear hg HP
  by_cases hv : vpk P = true
  · have hE : Hid (planeV P = P.ent % 8) := Lib.hid (by unfold planeV; rw [if_pos hv])
    have he := (vpk_parts hv).2.2.2.2.1
    obtain ⟨he1, he2⟩ := he
    rw [hv]
    clear hv
    obtain ⟨_, _, _, _, _, a5, _⟩ := p_facts HQ.out.1
    go_wp2_with fail
    go_ret
    exact ⟨by rw [hE.out]; rfl, HQ.out.2⟩
  · have hf : vpk P = false := by simpa using hv
    have hE : Hid (planeV P = 0) := Lib.hid (by unfold planeV; rw [if_neg hv])
    rw [hf]
    clear hf hv
    go_wp2_with fail
    go_ret
    exact ⟨by rw [hE.out]; rfl, HQ.out.2⟩
end Go.Proofs.YtnfgkakhdgiepaaDoor

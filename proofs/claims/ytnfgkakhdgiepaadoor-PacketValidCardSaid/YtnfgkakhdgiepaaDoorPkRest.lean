/- packet: the rest of a packet is read. -/
import Derived.Test.YtnfgkakhdgiepaaDoorPkBox
import Derived.Deep.CutRange
namespace Go.Proofs.YtnfgkakhdgiepaaDoor
open Go.RowKit Bs
set_option maxRecDepth 100000 in
theorem res_packet_err {fn : Func} {p u : Tmp} (h : fn.results = #[.cell p 25, .tmp u]) (tmps : Array Value) (w : World) (g : Nat) (xs : Array Value) (hp : tmps.getD p undef = .pointer (some ⟨g, 0, none⟩)) (hn : xs.size = 10) (hg : w.heap[g]? = some (.cells xs 25 (0, 0))) :
    (results fn tmps).run Tryd.prog w = .ok (.tuple #[.agg xs, tmps.getD u undef]) w := by
  have hp' : tmps[p]?.getD undef = .pointer (some ⟨g, 0, none⟩) := by simpa using hp
  rw [results_cell_tmp h]
  simp [hp', asAddr, run_loadVar_row w g _ _ _ _ _ hg Tryd.underlying25 rfl (by rw [hn]; exact packet_size), Result.andThen]
/-- The error behind the header: of n bits and m bytes. -/
def restE (l : List Nat) (n m : Nat) : Int := if num (bt l) (49 + n + 8 * m) 16 ≠ chk (bt l) (49 + n + 8 * m) then 23 else if num (bt l) (49 + n + 8 * m + 16) (8 * l.length - (49 + n + 8 * m + 16)) ≠ 0 then 24 else 0
/-- The payload. -/
def restP (l : List Nat) (n m : Nat) : ByteArray := bs (pz (fun i => bt l (49 + n + i)) (8 * m) m)
def restV (V : Nat → Nat) (n : Nat) (l : List Nat) : Array Value × Int := if restE l n (V 9) = 0 then (rcells V (n : Int) (num (bt l) 49 n) (restP l n (V 9)), 0) else (zpk, restE l n (V 9))
/-- While the rest is read. -/
structure RS (W : World) (V : Nat → Nat) (n : Nat) (b : Nat) (s : ByteArray) (l : List Nat) (p : Option Addr) (c : Nat) (w : World) : Prop where
  rb : w.heap[W.heap.size + 1]? = some (.cells zpk 25 (0, 0))
  pb : w.heap[W.heap.size + 1 + 1]? = some (.cells (rcells V (n : Int) b s) 25 (0, 0))
  sb : w.heap[W.heap.size + 1 + 1 + 1]? = some (.cells #[.slice p l.length c, .int .i64 (8 * (l.length : Int))] 91 (0, 0))
  rd : Rd w (· < W.heap.size) (.slice p l.length c) (l.map nv)
  gr : W.grownBy w none
section
variable {W w w1 : World} {V : Nat → Nat} {n b : Nat} {s : ByteArray} {l : List Nat} {p : Option Addr} {c : Nat}
set_option maxRecDepth 100000 in
theorem RS.keep (H : RS W V n b s l p c w) (k : w.grownBy w1 none) : RS W V n b s l p c w1 :=
  ⟨kept_row H.rb k (by simp), kept_row H.pb k (by simp), kept_row H.sb k (by simp), H.rd.keep k, grown_trans H.gr k⟩
set_option maxRecDepth 100000 in
theorem RS.bits (H : RS W V n b s l p c w) (b' : Nat) : RS W V n b' s l p c (w.setCell ⟨W.heap.size + 1 + 1, 8, none⟩ (.int .u64 (b' : Int))) := by
  have j := grown_setCell w ⟨W.heap.size + 1 + 1, 8, none⟩ (.int .u64 (b' : Int))
  exact ⟨kept_row H.rb j (fun e => by have : W.heap.size + 1 = W.heap.size + 1 + 1 := Option.some.inj e; omega), heap_setCell_same w _ 8 _ _ _ H.pb, kept_row H.sb j (fun e => by have : W.heap.size + 1 + 1 + 1 = W.heap.size + 1 + 1 := Option.some.inj e; omega),
    H.rd.grown j (fun x hx e => by have : x = W.heap.size + 1 + 1 := Option.some.inj e; omega), grown_new H.gr j (by show W.heap.size ≤ W.heap.size + 1 + 1; omega)⟩
set_option maxRecDepth 100000 in
theorem RS.pay (H : RS W V n b s l p c w) (s' : ByteArray) : RS W V n b s' l p c (w.setCell ⟨W.heap.size + 1 + 1, 9, none⟩ (.string s')) := by
  have j := grown_setCell w ⟨W.heap.size + 1 + 1, 9, none⟩ (.string s')
  exact ⟨kept_row H.rb j (fun e => by have : W.heap.size + 1 = W.heap.size + 1 + 1 := Option.some.inj e; omega), heap_setCell_same w _ 9 _ _ _ H.pb, kept_row H.sb j (fun e => by have : W.heap.size + 1 + 1 + 1 = W.heap.size + 1 + 1 := Option.some.inj e; omega),
    H.rd.grown j (fun x hx e => by have : x = W.heap.size + 1 + 1 := Option.some.inj e; omega), grown_new H.gr j (by show W.heap.size ≤ W.heap.size + 1 + 1; omega)⟩
set_option maxRecDepth 100000 in
theorem RS.facts (H : RS W V n b s l p c w) : w.cell? ⟨W.heap.size + 1 + 1 + 1, 0, none⟩ = some (.slice p l.length c) ∧ w.cell? ⟨W.heap.size + 1 + 1 + 1, 1, none⟩ = some (.int .i64 (8 * (l.length : Int))) ∧ w.cell? ⟨W.heap.size + 1 + 1, 3, none⟩ = some (.int .i64 (n : Int)) :=
  ⟨(row_cells H.sb).1, (row_cells H.sb).2, cell_of_row _ _ _ _ _ _ H.pb⟩
end
section
variable {w : World} {q : Nat → Prop} {l : List Nat} {p : Option Addr} {c : Nat}
set_option maxRecDepth 100000 in
theorem slice_whole {A T : Nat} {a b : Int} (t : Int) (ht : t = (T : Int)) (hl : By l) (h : 8 * l.length ≤ 8192) (hT : A + T ≤ 8 * l.length) (ha : a = (A : Int)) (hb : b = ((A + T : Nat) : Int)) (hR : Rd w q (.slice p l.length c) (l.map nv)) :
    Calls Tryd.prog 120 #[.agg #[.slice p l.length c, .int .i64 (8 * (l.length : Int))], .int .i64 a, .int .i64 b] w fun e w' =>
      ∃ p2 c2, e = .returned (.tuple #[.agg #[.slice p2 (pz (fun i => bt l (A + i)) T ((T + 7) / 8)).length c2, .int .i64 t], .int .i64 0]) ∧ Rd w' (w.heap.size ≤ ·) (.slice p2 (pz (fun i => bt l (A + i)) T ((T + 7) / 8)).length c2) ((pz (fun i => bt l (A + i)) T ((T + 7) / 8)).map nv) ∧ (p2 = none → c2 = 0) ∧ w.grownBy w' none := by
  subst ha hb ht
  refine (slicep_any l (8 * (l.length : Int)) (A : Int) ((A + T : Nat) : Int) _ p c hl (by unfold I64; omega) (by unfold I64; omega) w (fun _ h => h) hR.bound).mono fun e w' hp => ?_
  have hv := slV_ok (l := l) (N := 8 * l.length) (A := A) (T := T) (vs_whole h) rfl hT
  rw [Int.natCast_mul] at hv
  change slV l (8 * (l.length : Int)) _ _ = _ at hv
  rw [hv] at hp
  obtain ⟨u, he, ⟨p2, c2, rfl, h1, h2, _⟩, hg⟩ := hp
  exact ⟨p2, c2, he, h1, h2, hg⟩
set_option maxRecDepth 100000 in
theorem take_whole {A K : Nat} {a k : Int} (hl : By l) (h : 8 * l.length ≤ 8192) (hK : K ≤ 64) (hT : A + K ≤ 8 * l.length) (ha : a = (A : Int)) (hk : k = (K : Int)) (hR : Rd w q (.slice p l.length c) (l.map nv)) :
    Calls Tryd.prog 119 #[.agg #[.slice p l.length c, .int .i64 (8 * (l.length : Int))], .int .i64 a, .int .i64 k] w fun e w' => e = .returned (.tuple #[.int .u64 ((num (bt l) A K : Nat) : Int), .int .i64 0]) ∧ w.grownBy w' none := by
  subst ha hk
  refine (takep_any l (8 * (l.length : Int)) (A : Int) (K : Int) _ p c hl (by unfold I64; omega) w hR).mono fun e w' hp => ?_
  obtain ⟨he, hg⟩ := hp
  have hv := takeV_ok (l := l) (n := ((8 * l.length : Nat) : Int)) (a := (A : Int)) (k := (K : Int)) (vs_whole h) (by unfold vw; simp; omega) (by omega) (by omega)
  rw [Int.natCast_mul, Int.toNat_natCast, Int.toNat_natCast] at hv
  change takeV l (8 * (l.length : Int)) _ _ = _ at hv
  rw [hv] at he
  exact ⟨he, hg⟩
set_option maxRecDepth 100000 in
theorem check_part {T : Nat} {t : Int} (ht : t = (T : Int)) (h : T ≤ 8 * l.length) (h2 : 8 * l.length ≤ 8192) (hR : Rd w q (.slice p (pz (fun i => bt l (0 + i)) T ((T + 7) / 8)).length c) ((pz (fun i => bt l (0 + i)) T ((T + 7) / 8)).map nv)) :
    Calls Tryd.prog 71 #[.agg #[.slice p (pz (fun i => bt l (0 + i)) T ((T + 7) / 8)).length c, .int .i64 t]] w fun e w' => e = .returned (.tuple #[.int .u64 ((chk (bt l) T : Nat) : Int), .int .i64 0]) ∧ w.grownBy w' none := by
  subst ht
  refine (checkp_any _ (T : Int) _ p c (pz_lt _ _ _) w hR).mono fun e w' hp => ?_
  obtain ⟨he, hg⟩ := hp
  have hvs : vs (pz (fun i => bt l (0 + i)) T ((T + 7) / 8)) (T : Int) = true := by
    refine vs_iff.2 ⟨by omega, pz_len _ _ _, fun i hi hn => ?_⟩
    rw [pz_len] at hi
    rw [bt_pz _ _ _ _ hi]
    simp; omega
  rw [chkV_ok hvs] at he
  rw [← chk_same (f := bt (pz (fun i => bt l (0 + i)) T ((T + 7) / 8))) (g := bt l) T fun i hi => by rw [bt_pz _ _ _ _ (by omega)]; simp [hi]]
  exact ⟨he, hg⟩
end
set_option maxRecDepth 100000 in
set_option maxHeartbeats 3200000 in
theorem readRest_any (V : Nat → Nat) (n : Nat) (hn : n ≤ 64) (h9 : V 9 ≤ 64) (l : List Nat) (hl : By l) (hlen : l.length = (49 + n + 8 * V 9 + 16 + 7) / 8) (q : Nat → Prop) (p : Option Addr) (c : Nat) (w : World) (hR : Rd w q (.slice p l.length c) (l.map nv)) :
    Calls Tryd.prog 83 #[hval V (n : Int), .slice p l.length c] w fun e w' => e = .returned (.tuple #[.agg (restV V n l).1, .int .i64 (restV V n l).2]) ∧ w.grownBy w' none := by
  have hl1 : 8 * l.length ≤ 8192 := by omega
  have hl2 : 49 + n + 8 * V 9 + 16 ≤ 8 * l.length := by omega
  have hl3 : 8 * l.length - (49 + n + 8 * V 9 + 16) ≤ 7 := by omega
  have HLEN := Lib.hid hlen
  clear hlen
  have hval' : hval V (n : Int) = .agg #[.int .i64 (V 0 : Int), .int .i64 (V 1 : Int), .int .i64 (V 2 : Int), .int .i64 (V 3 : Int), .int .i64 (n : Int), .int .i64 (V 5 : Int), .int .i64 (V 6 : Int), .int .i64 (V 7 : Int), .int .i64 (V 8 : Int), .int .u64 0, .string ⟨#[]⟩, .int .i64 (V 4 : Int), .int .i64 (V 9 : Int)] := rfl
  rw [hval']
  clear hval'
  obtain ⟨k1, k2, k3, k4, k5, k6⟩ := four_new w (.cells #[.int .i64 (V 0 : Int), .int .i64 (V 1 : Int), .int .i64 (V 2 : Int), .int .i64 (V 3 : Int), .int .i64 (n : Int), .int .i64 (V 5 : Int), .int .i64 (V 6 : Int), .int .i64 (V 7 : Int), .int .i64 (V 8 : Int), .int .u64 0, .string ⟨#[]⟩, .int .i64 (V 4 : Int), .int .i64 (V 9 : Int)] 101) (.cells zpk 25) (.cells (rcells V (n : Int) 0 ⟨#[]⟩) 25) (.cells #[.slice p l.length c, .int .i64 (8 * (l.length : Int))] 91)
  have HS : Hid (RS w V n 0 ⟨#[]⟩ l p c _) := Lib.hid ⟨k2, k3, k4, hR.bound.keep k5, k5⟩
  clear k1 k2 k3 k4 k5 k6 hR
  unfold zpk rcells at HS
  go_enter Tryd.func83, Tryd.ntmps83
  go_wp2_with fail
  generalize ((((w.alloc _).alloc _).alloc _).alloc _) = wa at *
  change Hid (RS w V n 0 ⟨#[]⟩ l p c wa) at HS
  refine (slice_whole (A := 0) (T := 49 + n + 8 * V 9) (49 + (n : Int) + 8 * (V 9 : Int)) (by omega) hl hl1 (by omega) rfl (by omega) HS.out.rd).mono ?_
  rintro e w1 ⟨p2, c2, rfl, hR2, hp2, hg⟩
  have hgb := World.grownBy_alloc w1 (.cells #[.slice p2 (pz (fun i => bt l (0 + i)) (49 + n + 8 * V 9) ((49 + n + 8 * V 9 + 7) / 8)).length c2, .int .i64 (49 + (n : Int) + 8 * (V 9 : Int))] 91) none
  have HS1 := Lib.hid (HS.out.keep (grown_trans hg hgb))
  have hC := check_part (T := 49 + n + 8 * V 9) (t := (49 + (n : Int) + 8 * (V 9 : Int))) (by omega) (by omega) hl1 (hR2.keep hgb)
  obtain ⟨L, hL⟩ : ∃ L, L = pz (fun i => bt l (0 + i)) (49 + n + 8 * V 9) ((49 + n + 8 * V 9 + 7) / 8) := ⟨_, rfl⟩
  rw [← hL] at hC HS1 ⊢
  have HC := Lib.hid hC
  clear hC hR2 hp2 hg hgb HS hL
  go_wp2_with fail
  refine HC.out.mono ?_
  rintro e w2 ⟨rfl, hg⟩
  have HS2 := Lib.hid (HS1.out.keep hg)
  obtain ⟨s0, s1, s2⟩ := HS2.out.facts
  clear hg HC HS1
  go_wp2_with fail
  refine (take_whole (A := 49 + n + 8 * V 9) (K := 16) hl hl1 (by decide) (by omega) (by omega) rfl HS2.out.rd).mono ?_
  rintro e w3 ⟨rfl, hg⟩
  have HS3 := Lib.hid (HS2.out.keep hg)
  clear s0 s1 s2 hg HS2
  obtain ⟨s0, s1, s2⟩ := HS3.out.facts
  obtain ⟨xg, hxg⟩ : ∃ x, x = num (bt l) (49 + n + 8 * V 9) 16 := ⟨_, rfl⟩
  obtain ⟨xc, hxc⟩ : ∃ x, x = chk (bt l) (49 + n + 8 * V 9) := ⟨_, rfl⟩
  rw [← hxg, ← hxc]
  have HXG := Lib.hid hxg
  have HXC := Lib.hid hxc
  clear hxg hxc
  by_cases he : xg = xc
  · have HE := Lib.hid he
    have he' : (((xg : Nat) : Int) != ((xc : Nat) : Int)) = false := by rw [he]; simp
    clear he
    go_wp2_with fail
    refine (take_whole (A := 49 + n + 8 * V 9 + 16) (K := 8 * l.length - (49 + n + 8 * V 9 + 16)) hl hl1 (by omega) (by omega) (by omega) (by omega) HS3.out.rd).mono ?_
    rintro e w4 ⟨rfl, hg⟩
    have HS4 := Lib.hid (HS3.out.keep hg)
    clear s0 s1 s2 hg HS3
    obtain ⟨s0, s1, s2⟩ := HS4.out.facts
    obtain ⟨xb, hxb⟩ : ∃ x, x = num (bt l) (49 + n + 8 * V 9 + 16) (8 * l.length - (49 + n + 8 * V 9 + 16)) := ⟨_, rfl⟩
    rw [← hxb]
    have HXB := Lib.hid hxb
    clear hxb
    by_cases hb : xb = 0
    · have HBZ := Lib.hid hb
      have hb' : (((xb : Nat) : Int) != 0) = false := by rw [hb]; rfl
      clear hb
      go_wp2_with fail
      refine (take_whole (A := 49) (K := n) hl hl1 hn (by omega) (by omega) rfl HS4.out.rd).mono ?_
      rintro e w5 ⟨rfl, hg⟩
      have HS5 := Lib.hid (HS4.out.keep hg)
      clear s0 s1 s2 hg HS4 hb' he'
      have HS6 := Lib.hid (HS5.out.bits (num (bt l) 49 n))
      have t0 := (rc_cells HS5.out.pb).2.2.2.2.2.2.2.2.1
      have t1 := frozen_of_row _ _ 8 _ _ HS5.out.pb
      obtain ⟨xn, hxn⟩ : ∃ x, x = num (bt l) 49 n := ⟨_, rfl⟩
      rw [← hxn] at HS6 ⊢
      have HXN := Lib.hid hxn
      clear hxn
      obtain ⟨s0, s1, s2⟩ := HS6.out.facts
      go_wp2_with fail
      generalize w5.setCell ⟨w.heap.size + 1 + 1, 8, none⟩ (.int .u64 (xn : Int)) = w6 at *
      refine (slice_whole (A := 49 + n) (T := 8 * V 9) (8 * (V 9 : Int)) (by omega) hl hl1 (by omega) (by omega) (by omega) HS6.out.rd).mono ?_
      rintro e w7 ⟨p3, c3, rfl, hR3, hp3, hg⟩
      rw [show (8 * V 9 + 7) / 8 = V 9 by omega] at hR3 ⊢
      have hby : By (pz (fun i => bt l (49 + n + i)) (8 * V 9) (V 9)) := pz_lt _ _ _
      have hP : Hid (bs (pz (fun i => bt l (49 + n + i)) (8 * V 9) (V 9)) = restP l n (V 9)) := Lib.hid rfl
      generalize pz (fun i => bt l (49 + n + i)) (8 * V 9) (V 9) = L3 at *
      have hgb := World.grownBy_alloc w7 (.cells #[.slice p3 L3.length c3, .int .i64 (8 * (V 9 : Int))] 91) none
      have hcv := conv_nv (w := w7.alloc (.cells #[.slice p3 L3.length c3, .int .i64 (8 * (V 9 : Int))] 91)) hby rfl (hR3.keep hgb) hp3
      have HS8 := Lib.hid (HS6.out.keep (grown_trans hg hgb))
      have HS9 := Lib.hid (HS8.out.pay (bs L3))
      have t0 := (rc_cells HS8.out.pb).2.2.2.2.2.2.2.2.2
      have t1 := frozen_of_row _ _ 9 _ _ HS8.out.pb
      obtain ⟨q0, q1, q2, q3, q4, q5, q6, q7, q8, q9⟩ := rc_cells HS9.out.pb
      obtain ⟨⟨r0, r1, r2, r3, r4, r5, r6, r7, r8, r9⟩, f0, f1, f2, f3, f4, f5, f6, f7, f8, f9⟩ := zp_cells HS9.out.rb
      have hE : Hid (restV V n l = (rcells V (n : Int) xn (bs L3), 0)) := Lib.hid (by
        have hz : restE l n (V 9) = 0 := by unfold restE; rw [← HXG.out, ← HXC.out, ← HXB.out, if_neg (by simp [HE.out]), if_neg (by simp [HBZ.out])]
        unfold restV
        rw [if_pos hz, hP.out, ← HXN.out])
      clear s0 s1 s2 hR3 hp3 hg hgb HS5 HS6 hby
      go_wp2_with fail
      refine bodyPost_ret (res_packet_err rfl _ _ (w.heap.size + 1) _ rfl rfl (pput_row _ _ _ _ _ _ _ _ _ _ HS9.out.rb)) rfl ?_
      exact ⟨by rw [hE.out]; rfl, grown_new HS9.out.gr (pput_grown _ (w.heap.size + 1) _ _ _ _ _ _ _ _ _ _) (Nat.le_succ _)⟩
    · have hE : Hid (restV V n l = (zpk, 24)) := Lib.hid (by unfold restV restE; rw [← HXG.out, ← HXC.out, ← HXB.out, if_neg (by rw [if_neg (by simp [HE.out]), if_pos hb]; decide), if_neg (by simp [HE.out]), if_pos hb])
      have hb' : (((xb : Nat) : Int) != 0) = true := by simp; omega
      clear hb
      obtain ⟨⟨r0, r1, r2, r3, r4, r5, r6, r7, r8, r9⟩, f0, f1, f2, f3, f4, f5, f6, f7, f8, f9⟩ := zp_cells HS4.out.rb
      go_wp2_with fail
      refine bodyPost_ret (res_packet_err rfl _ _ (w.heap.size + 1) _ rfl rfl (pput_row _ _ _ _ _ _ _ _ _ _ HS4.out.rb)) rfl ?_
      exact ⟨by rw [hE.out]; rfl, grown_new HS4.out.gr (pput_grown _ (w.heap.size + 1) _ _ _ _ _ _ _ _ _ _) (Nat.le_succ _)⟩
  · have hE : Hid (restV V n l = (zpk, 23)) := Lib.hid (by unfold restV restE; rw [← HXG.out, ← HXC.out, if_neg (by rw [if_pos he]; decide), if_pos he])
    have he' : (((xg : Nat) : Int) != ((xc : Nat) : Int)) = true := by simp; omega
    clear he
    obtain ⟨⟨r0, r1, r2, r3, r4, r5, r6, r7, r8, r9⟩, f0, f1, f2, f3, f4, f5, f6, f7, f8, f9⟩ := zp_cells HS3.out.rb
    go_wp2_with fail
    refine bodyPost_ret (res_packet_err rfl _ _ (w.heap.size + 1) _ rfl rfl (pput_row _ _ _ _ _ _ _ _ _ _ HS3.out.rb)) rfl ?_
    exact ⟨by rw [hE.out]; rfl, grown_new HS3.out.gr (pput_grown _ (w.heap.size + 1) _ _ _ _ _ _ _ _ _ _) (Nat.le_succ _)⟩
end Go.Proofs.YtnfgkakhdgiepaaDoor

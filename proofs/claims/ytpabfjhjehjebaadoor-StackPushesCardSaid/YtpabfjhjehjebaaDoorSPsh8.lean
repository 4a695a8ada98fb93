/- Parts of the proof, packed: PkRest, PkDecode, PkBack, StFrame. -/
import Derived.Test.YtpabfjhjehjebaaDoorSPsh7
import Derived.Deep.CutRange
import Derived.Test.YtpabfjhjehjebaaDoorSPsh5
/- packet: the rest of a packet is read. -/
namespace Go.Proofs.YtpabfjhjehjebaaDoor
open Go.RowKit Bs
set_option maxRecDepth 100000 in
theorem res_packet_err {fn : Func} {p u : Tmp} (h : fn.results = #[.cell p 31, .tmp u]) (tmps : Array Value) (w : World) (g : Nat) (xs : Array Value) (hp : tmps.getD p undef = .pointer (some ⟨g, 0, none⟩)) (hn : xs.size = 10) (hg : w.heap[g]? = some (.cells xs 31 (0, 0))) :
    (results fn tmps).run Tryd.prog w = .ok (.tuple #[.agg xs, tmps.getD u undef]) w := by
  have hp' : tmps[p]?.getD undef = .pointer (some ⟨g, 0, none⟩) := by simpa using hp
  rw [results_cell_tmp h]
  simp [hp', asAddr, run_loadVar_row w g _ _ _ _ _ hg Tryd.underlying31 rfl (by rw [hn]; exact packet_size), Result.andThen]
/-- The error behind the header: of n bits and m bytes. -/
def restE (l : List Nat) (n m : Nat) : Int := if num (bt l) (49 + n + 8 * m) 16 ≠ chk (bt l) (49 + n + 8 * m) then 23 else if num (bt l) (49 + n + 8 * m + 16) (8 * l.length - (49 + n + 8 * m + 16)) ≠ 0 then 24 else 0
/-- The payload. -/
def restP (l : List Nat) (n m : Nat) : ByteArray := bs (pz (fun i => bt l (49 + n + i)) (8 * m) m)
def restV (V : Nat → Nat) (n : Nat) (l : List Nat) : Array Value × Int := if restE l n (V 9) = 0 then (rcells V (n : Int) (num (bt l) 49 n) (restP l n (V 9)), 0) else (zpk, restE l n (V 9))
/-- While the rest is read. -/
structure RS (W : World) (V : Nat → Nat) (n : Nat) (b : Nat) (s : ByteArray) (l : List Nat) (p : Option Addr) (c : Nat) (w : World) : Prop where
  rb : w.heap[W.heap.size + 1]? = some (.cells zpk 31 (0, 0))
  pb : w.heap[W.heap.size + 1 + 1]? = some (.cells (rcells V (n : Int) b s) 31 (0, 0))
  sb : w.heap[W.heap.size + 1 + 1 + 1]? = some (.cells #[.slice p l.length c, .int .i64 (8 * (l.length : Int))] 74 (0, 0))
  rd : Rd w (· < W.heap.size) (.slice p l.length c) (l.map nv)
  gr : W.grownBy w none
section
variable {W w w1 : World} {V : Nat → Nat} {n b : Nat} {s : ByteArray} {l : List Nat} {p : Option Addr} {c : Nat}
set_option maxRecDepth 100000 in
theorem RS.keep (H : RS W V n b s l p c w) (k : w.grownBy w1 none) : RS W V n b s l p c w1 :=
  ⟨kept_row H.rb k (by simp), kept_row H.pb k (by simp), kept_row H.sb k (by simp), H.rd.keep k, grown_trans H.gr k⟩
set_option maxRecDepth 100000 in
theorem RS.bits (H : RS W V n b s l p c w) (b' : Nat) : RS W V n b' s l p c (w.setCell ⟨W.heap.size + 1 + 1, 8, none⟩ (.int .u64 (b' : Int))) := by
  have j := grown_setCell w ⟨W.heap.size + 1 + 1, 8, none⟩ (.int .u64 (b' : Int))
  exact ⟨kept_row H.rb j (fun e => by have : W.heap.size + 1 = W.heap.size + 1 + 1 := Option.some.inj e; omega), heap_setCell_same w _ 8 _ _ _ H.pb, kept_row H.sb j (fun e => by have : W.heap.size + 1 + 1 + 1 = W.heap.size + 1 + 1 := Option.some.inj e; omega),
    H.rd.grown j (fun x hx e => by have : x = W.heap.size + 1 + 1 := Option.some.inj e; omega), grown_new H.gr j (by show W.heap.size ≤ W.heap.size + 1 + 1; omega)⟩
set_option maxRecDepth 100000 in
theorem RS.pay (H : RS W V n b s l p c w) (s' : ByteArray) : RS W V n b s' l p c (w.setCell ⟨W.heap.size + 1 + 1, 9, none⟩ (.string s')) := by
  have j := grown_setCell w ⟨W.heap.size + 1 + 1, 9, none⟩ (.string s')
  exact ⟨kept_row H.rb j (fun e => by have : W.heap.size + 1 = W.heap.size + 1 + 1 := Option.some.inj e; omega), heap_setCell_same w _ 9 _ _ _ H.pb, kept_row H.sb j (fun e => by have : W.heap.size + 1 + 1 + 1 = W.heap.size + 1 + 1 := Option.some.inj e; omega),
    H.rd.grown j (fun x hx e => by have : x = W.heap.size + 1 + 1 := Option.some.inj e; omega), grown_new H.gr j (by show W.heap.size ≤ W.heap.size + 1 + 1; omega)⟩
set_option maxRecDepth 100000 in
theorem RS.facts (H : RS W V n b s l p c w) : w.cell? ⟨W.heap.size + 1 + 1 + 1, 0, none⟩ = some (.slice p l.length c) ∧ w.cell? ⟨W.heap.size + 1 + 1 + 1, 1, none⟩ = some (.int .i64 (8 * (l.length : Int))) ∧ w.cell? ⟨W.heap.size + 1 + 1, 3, none⟩ = some (.int .i64 (n : Int)) :=
  ⟨(row_cells H.sb).1, (row_cells H.sb).2, cell_of_row _ _ _ _ _ _ H.pb⟩
end
section
variable {w : World} {q : Nat → Prop} {l : List Nat} {p : Option Addr} {c : Nat}
set_option maxRecDepth 100000 in
theorem slice_whole {A T : Nat} {a b : Int} (t : Int) (ht : t = (T : Int)) (hl : By l) (h : 8 * l.length ≤ 8192) (hT : A + T ≤ 8 * l.length) (ha : a = (A : Int)) (hb : b = ((A + T : Nat) : Int)) (hR : Rd w q (.slice p l.length c) (l.map nv)) :
    Calls Tryd.prog 83 #[.agg #[.slice p l.length c, .int .i64 (8 * (l.length : Int))], .int .i64 a, .int .i64 b] w fun e w' =>
      ∃ p2 c2, e = .returned (.tuple #[.agg #[.slice p2 (pz (fun i => bt l (A + i)) T ((T + 7) / 8)).length c2, .int .i64 t], .int .i64 0]) ∧ Rd w' (w.heap.size ≤ ·) (.slice p2 (pz (fun i => bt l (A + i)) T ((T + 7) / 8)).length c2) ((pz (fun i => bt l (A + i)) T ((T + 7) / 8)).map nv) ∧ (p2 = none → c2 = 0) ∧ w.grownBy w' none := by
  subst ha hb ht
  refine (slicep_any l (8 * (l.length : Int)) (A : Int) ((A + T : Nat) : Int) _ p c hl (by unfold I64; omega) (by unfold I64; omega) w (fun _ h => h) hR.bound).mono fun e w' hp => ?_
  have hv := slV_ok (l := l) (N := 8 * l.length) (A := A) (T := T) (vs_whole h) rfl hT
  rw [Int.natCast_mul] at hv
  change slV l (8 * (l.length : Int)) _ _ = _ at hv
  rw [hv] at hp
  obtain ⟨u, he, ⟨p2, c2, rfl, h1, h2, _⟩, hg⟩ := hp
  exact ⟨p2, c2, he, h1, h2, hg⟩
set_option maxRecDepth 100000 in
theorem take_whole {A K : Nat} {a k : Int} (hl : By l) (h : 8 * l.length ≤ 8192) (hK : K ≤ 64) (hT : A + K ≤ 8 * l.length) (ha : a = (A : Int)) (hk : k = (K : Int)) (hR : Rd w q (.slice p l.length c) (l.map nv)) :
    Calls Tryd.prog 82 #[.agg #[.slice p l.length c, .int .i64 (8 * (l.length : Int))], .int .i64 a, .int .i64 k] w fun e w' => e = .returned (.tuple #[.int .u64 ((num (bt l) A K : Nat) : Int), .int .i64 0]) ∧ w.grownBy w' none := by
  subst ha hk
  refine (takep_any l (8 * (l.length : Int)) (A : Int) (K : Int) _ p c hl (by unfold I64; omega) w hR).mono fun e w' hp => ?_
  obtain ⟨he, hg⟩ := hp
  have hv := takeV_ok (l := l) (n := ((8 * l.length : Nat) : Int)) (a := (A : Int)) (k := (K : Int)) (vs_whole h) (by unfold vw; simp; omega) (by omega) (by omega)
  rw [Int.natCast_mul, Int.toNat_natCast, Int.toNat_natCast] at hv
  change takeV l (8 * (l.length : Int)) _ _ = _ at hv
  rw [hv] at he
  exact ⟨he, hg⟩
set_option maxRecDepth 100000 in
theorem check_part {T : Nat} {t : Int} (ht : t = (T : Int)) (h : T ≤ 8 * l.length) (h2 : 8 * l.length ≤ 8192) (hR : Rd w q (.slice p (pz (fun i => bt l (0 + i)) T ((T + 7) / 8)).length c) ((pz (fun i => bt l (0 + i)) T ((T + 7) / 8)).map nv)) :
    Calls Tryd.prog 84 #[.agg #[.slice p (pz (fun i => bt l (0 + i)) T ((T + 7) / 8)).length c, .int .i64 t]] w fun e w' => e = .returned (.tuple #[.int .u64 ((chk (bt l) T : Nat) : Int), .int .i64 0]) ∧ w.grownBy w' none := by
  subst ht
  refine (checkp_any _ (T : Int) _ p c (pz_lt _ _ _) w hR).mono fun e w' hp => ?_
  obtain ⟨he, hg⟩ := hp
  have hvs : vs (pz (fun i => bt l (0 + i)) T ((T + 7) / 8)) (T : Int) = true := by
    refine vs_iff.2 ⟨by omega, pz_len _ _ _, fun i hi hn => ?_⟩
    rw [pz_len] at hi
    rw [bt_pz _ _ _ _ hi]
    simp; omega
  rw [chkV_ok hvs] at he
  rw [← chk_same (f := bt (pz (fun i => bt l (0 + i)) T ((T + 7) / 8))) (g := bt l) T fun i hi => by rw [bt_pz _ _ _ _ (by omega)]; simp [hi]]
  exact ⟨he, hg⟩
end
set_option maxRecDepth 100000 in
set_option maxHeartbeats 3200000 in
theorem readRest_any (V : Nat → Nat) (n : Nat) (hn : n ≤ 64) (h9 : V 9 ≤ 64) (l : List Nat) (hl : By l) (hlen : l.length = (49 + n + 8 * V 9 + 16 + 7) / 8) (q : Nat → Prop) (p : Option Addr) (c : Nat) (w : World) (hR : Rd w q (.slice p l.length c) (l.map nv)) :
    Calls Tryd.prog 60 #[hval V (n : Int), .slice p l.length c] w fun e w' => e = .returned (.tuple #[.agg (restV V n l).1, .int .i64 (restV V n l).2]) ∧ w.grownBy w' none := by
  have hl1 : 8 * l.length ≤ 8192 := by omega
  have hl2 : 49 + n + 8 * V 9 + 16 ≤ 8 * l.length := by omega
  have hl3 : 8 * l.length - (49 + n + 8 * V 9 + 16) ≤ 7 := by omega
  have HLEN := Lib.hid hlen
  clear hlen
  have hval' : hval V (n : Int) = .agg #[.int .i64 (V 0 : Int), .int .i64 (V 1 : Int), .int .i64 (V 2 : Int), .int .i64 (V 3 : Int), .int .i64 (n : Int), .int .i64 (V 5 : Int), .int .i64 (V 6 : Int), .int .i64 (V 7 : Int), .int .i64 (V 8 : Int), .int .u64 0, .string ⟨#[]⟩, .int .i64 (V 4 : Int), .int .i64 (V 9 : Int)] := rfl
  rw [hval']
  clear hval'
  obtain ⟨k1, k2, k3, k4, k5, k6⟩ := four_new w (.cells #[.int .i64 (V 0 : Int), .int .i64 (V 1 : Int), .int .i64 (V 2 : Int), .int .i64 (V 3 : Int), .int .i64 (n : Int), .int .i64 (V 5 : Int), .int .i64 (V 6 : Int), .int .i64 (V 7 : Int), .int .i64 (V 8 : Int), .int .u64 0, .string ⟨#[]⟩, .int .i64 (V 4 : Int), .int .i64 (V 9 : Int)] 88) (.cells zpk 31) (.cells (rcells V (n : Int) 0 ⟨#[]⟩) 31) (.cells #[.slice p l.length c, .int .i64 (8 * (l.length : Int))] 74)
  have HS : Hid (RS w V n 0 ⟨#[]⟩ l p c _) := Lib.hid ⟨k2, k3, k4, hR.bound.keep k5, k5⟩
  clear k1 k2 k3 k4 k5 k6 hR
  unfold zpk rcells at HS
  go_enter Tryd.func60, Tryd.ntmps60
  go_wp2_with fail
  generalize ((((w.alloc _).alloc _).alloc _).alloc _) = wa at *
  change Hid (RS w V n 0 ⟨#[]⟩ l p c wa) at HS
  refine (slice_whole (A := 0) (T := 49 + n + 8 * V 9) (49 + (n : Int) + 8 * (V 9 : Int)) (by omega) hl hl1 (by omega) rfl (by omega) HS.out.rd).mono ?_
  rintro e w1 ⟨p2, c2, rfl, hR2, hp2, hg⟩
  have hgb := World.grownBy_alloc w1 (.cells #[.slice p2 (pz (fun i => bt l (0 + i)) (49 + n + 8 * V 9) ((49 + n + 8 * V 9 + 7) / 8)).length c2, .int .i64 (49 + (n : Int) + 8 * (V 9 : Int))] 74) none
  have HS1 := Lib.hid (HS.out.keep (grown_trans hg hgb))
  have hC := check_part (T := 49 + n + 8 * V 9) (t := (49 + (n : Int) + 8 * (V 9 : Int))) (by omega) (by omega) hl1 (hR2.keep hgb)
  obtain ⟨L, hL⟩ : ∃ L, L = pz (fun i => bt l (0 + i)) (49 + n + 8 * V 9) ((49 + n + 8 * V 9 + 7) / 8) := ⟨_, rfl⟩
  rw [← hL] at hC HS1 ⊢
  have HC := Lib.hid hC
  clear hC hR2 hp2 hg hgb HS hL
  go_wp2_with fail
  refine HC.out.mono ?_
  rintro e w2 ⟨rfl, hg⟩
  have HS2 := Lib.hid (HS1.out.keep hg)
  obtain ⟨s0, s1, s2⟩ := HS2.out.facts
  clear hg HC HS1
  go_wp2_with fail
  refine (take_whole (A := 49 + n + 8 * V 9) (K := 16) hl hl1 (by decide) (by omega) (by omega) rfl HS2.out.rd).mono ?_
  rintro e w3 ⟨rfl, hg⟩
  have HS3 := Lib.hid (HS2.out.keep hg)
  clear s0 s1 s2 hg HS2
  obtain ⟨s0, s1, s2⟩ := HS3.out.facts
  obtain ⟨xg, hxg⟩ : ∃ x, x = num (bt l) (49 + n + 8 * V 9) 16 := ⟨_, rfl⟩
  obtain ⟨xc, hxc⟩ : ∃ x, x = chk (bt l) (49 + n + 8 * V 9) := ⟨_, rfl⟩
  rw [← hxg, ← hxc]
  have HXG := Lib.hid hxg
  have HXC := Lib.hid hxc
  clear hxg hxc
  by_cases he : xg = xc
  · have HE := Lib.hid he
    have he' : (((xg : Nat) : Int) != ((xc : Nat) : Int)) = false := by rw [he]; simp
    clear he
    go_wp2_with fail
    refine (take_whole (A := 49 + n + 8 * V 9 + 16) (K := 8 * l.length - (49 + n + 8 * V 9 + 16)) hl hl1 (by omega) (by omega) (by omega) (by omega) HS3.out.rd).mono ?_
    rintro e w4 ⟨rfl, hg⟩
    have HS4 := Lib.hid (HS3.out.keep hg)
    clear s0 s1 s2 hg HS3
    obtain ⟨s0, s1, s2⟩ := HS4.out.facts
    obtain ⟨xb, hxb⟩ : ∃ x, x = num (bt l) (49 + n + 8 * V 9 + 16) (8 * l.length - (49 + n + 8 * V 9 + 16)) := ⟨_, rfl⟩
    rw [← hxb]
    have HXB := Lib.hid hxb
    clear hxb
    by_cases hb : xb = 0
    · have HBZ := Lib.hid hb
      have hb' : (((xb : Nat) : Int) != 0) = false := by rw [hb]; rfl
      clear hb
      go_wp2_with fail
      refine (take_whole (A := 49) (K := n) hl hl1 hn (by omega) (by omega) rfl HS4.out.rd).mono ?_
      rintro e w5 ⟨rfl, hg⟩
      have HS5 := Lib.hid (HS4.out.keep hg)
      clear s0 s1 s2 hg HS4 hb' he'
      have HS6 := Lib.hid (HS5.out.bits (num (bt l) 49 n))
      have t0 := (rc_cells HS5.out.pb).2.2.2.2.2.2.2.2.1
      have t1 := frozen_of_row _ _ 8 _ _ HS5.out.pb
      obtain ⟨xn, hxn⟩ : ∃ x, x = num (bt l) 49 n := ⟨_, rfl⟩
      rw [← hxn] at HS6 ⊢
      have HXN := Lib.hid hxn
      clear hxn
      obtain ⟨s0, s1, s2⟩ := HS6.out.facts
      go_wp2_with fail
      generalize w5.setCell ⟨w.heap.size + 1 + 1, 8, none⟩ (.int .u64 (xn : Int)) = w6 at *
      refine (slice_whole (A := 49 + n) (T := 8 * V 9) (8 * (V 9 : Int)) (by omega) hl hl1 (by omega) (by omega) (by omega) HS6.out.rd).mono ?_
      rintro e w7 ⟨p3, c3, rfl, hR3, hp3, hg⟩
      rw [show (8 * V 9 + 7) / 8 = V 9 by omega] at hR3 ⊢
      have hby : By (pz (fun i => bt l (49 + n + i)) (8 * V 9) (V 9)) := pz_lt _ _ _
      have hP : Hid (bs (pz (fun i => bt l (49 + n + i)) (8 * V 9) (V 9)) = restP l n (V 9)) := Lib.hid rfl
      generalize pz (fun i => bt l (49 + n + i)) (8 * V 9) (V 9) = L3 at *
      have hgb := World.grownBy_alloc w7 (.cells #[.slice p3 L3.length c3, .int .i64 (8 * (V 9 : Int))] 74) none
      have hcv := conv_nv (w := w7.alloc (.cells #[.slice p3 L3.length c3, .int .i64 (8 * (V 9 : Int))] 74)) hby rfl (hR3.keep hgb) hp3
      have HS8 := Lib.hid (HS6.out.keep (grown_trans hg hgb))
      have HS9 := Lib.hid (HS8.out.pay (bs L3))
      have t0 := (rc_cells HS8.out.pb).2.2.2.2.2.2.2.2.2
      have t1 := frozen_of_row _ _ 9 _ _ HS8.out.pb
      obtain ⟨q0, q1, q2, q3, q4, q5, q6, q7, q8, q9⟩ := rc_cells HS9.out.pb
      obtain ⟨⟨r0, r1, r2, r3, r4, r5, r6, r7, r8, r9⟩, f0, f1, f2, f3, f4, f5, f6, f7, f8, f9⟩ := zp_cells HS9.out.rb
      have hE : Hid (restV V n l = (rcells V (n : Int) xn (bs L3), 0)) := Lib.hid (by
        have hz : restE l n (V 9) = 0 := by unfold restE; rw [← HXG.out, ← HXC.out, ← HXB.out, if_neg (by simp [HE.out]), if_neg (by simp [HBZ.out])]
        unfold restV
        rw [if_pos hz, hP.out, ← HXN.out])
      clear s0 s1 s2 hR3 hp3 hg hgb HS5 HS6 hby
      go_wp2_with fail
      refine bodyPost_ret (res_packet_err rfl _ _ (w.heap.size + 1) _ rfl rfl (pput_row _ _ _ _ _ _ _ _ _ _ HS9.out.rb)) rfl ?_
      exact ⟨by rw [hE.out]; rfl, grown_new HS9.out.gr (pput_grown _ (w.heap.size + 1) _ _ _ _ _ _ _ _ _ _) (Nat.le_succ _)⟩
    · have hE : Hid (restV V n l = (zpk, 24)) := Lib.hid (by unfold restV restE; rw [← HXG.out, ← HXC.out, ← HXB.out, if_neg (by rw [if_neg (by simp [HE.out]), if_pos hb]; decide), if_neg (by simp [HE.out]), if_pos hb])
      have hb' : (((xb : Nat) : Int) != 0) = true := by simp; omega
      clear hb
      obtain ⟨⟨r0, r1, r2, r3, r4, r5, r6, r7, r8, r9⟩, f0, f1, f2, f3, f4, f5, f6, f7, f8, f9⟩ := zp_cells HS4.out.rb
      go_wp2_with fail
      refine bodyPost_ret (res_packet_err rfl _ _ (w.heap.size + 1) _ rfl rfl (pput_row _ _ _ _ _ _ _ _ _ _ HS4.out.rb)) rfl ?_
      exact ⟨by rw [hE.out]; rfl, grown_new HS4.out.gr (pput_grown _ (w.heap.size + 1) _ _ _ _ _ _ _ _ _ _) (Nat.le_succ _)⟩
  · have hE : Hid (restV V n l = (zpk, 23)) := Lib.hid (by unfold restV restE; rw [← HXG.out, ← HXC.out, if_neg (by rw [if_pos he]; decide), if_pos he])
    have he' : (((xg : Nat) : Int) != ((xc : Nat) : Int)) = true := by simp; omega
    clear he
    obtain ⟨⟨r0, r1, r2, r3, r4, r5, r6, r7, r8, r9⟩, f0, f1, f2, f3, f4, f5, f6, f7, f8, f9⟩ := zp_cells HS3.out.rb
    go_wp2_with fail
    refine bodyPost_ret (res_packet_err rfl _ _ (w.heap.size + 1) _ rfl rfl (pput_row _ _ _ _ _ _ _ _ _ _ HS3.out.rb)) rfl ?_
    exact ⟨by rw [hE.out]; rfl, grown_new HS3.out.gr (pput_grown _ (w.heap.size + 1) _ _ _ _ _ _ _ _ _ _) (Nat.le_succ _)⟩
end Go.Proofs.YtpabfjhjehjebaaDoor

/- packet: Decode. -/
namespace Go.Proofs.YtpabfjhjehjebaaDoor
open Go.RowKit Bs
set_option maxRecDepth 100000 in
theorem rd_take {w : World} {q : Nat → Prop} {p : Option Addr} {c : Nat} {l : List Nat} (k : Nat) (hk : k ≤ l.length) (hR : Rd w q (.slice p l.length c) (l.map nv)) (c' : Nat) : Rd w q (.slice p (l.take k).length c') ((l.take k).map nv) := by
  obtain ⟨p1, c1, hv, hc⟩ := hR
  injection hv with h1 _ _
  subst h1
  refine ⟨p, c', by rw [List.length_map], fun hne => ?_⟩
  have hl : l.map nv ≠ [] := by
    intro e
    have e2 : l = [] := List.map_eq_nil_iff.1 e
    subst e2
    exact hne (by simp)
  obtain ⟨b, off, hp, hb, hx⟩ := hc hl
  refine ⟨b, off, hp, hb, fun i x hi => hx i x ?_⟩
  rw [List.map_take] at hi
  have hik : i < k := by
    have := (List.getElem?_eq_some_iff.1 hi).1
    rw [List.length_take] at this; omega
  rw [List.getElem?_take_of_lt hik] at hi
  exact hi
set_option maxRecDepth 100000 in
theorem grown_undrew {w w7 : World} (g : w.drew.grownBy w7 none) : w.grownBy w7 none := ⟨g.os, g.tape, g.output, g.size, g.block⟩
set_option maxRecDepth 100000 in
theorem zp_after {w w5 : World} (g : (w.alloc (.cells zpk 31)).drew.grownBy w5 none) : w5.heap[w.heap.size]? = some (.cells zpk 31 (0, 0)) :=
  kept_row (heap_alloc_new w _) (grown_undrew g) (by simp)
/-- The fields of the header. -/
def hv7 (l : List Nat) : Nat → Nat := fv (l.take 7)
def szV (V : Nat → Nat) : Nat := (49 + 8 * 2 ^ V 4 + 8 * V 9 + 16 + 7) / 8
/-- What Decode returns. -/
def decV (l : List Nat) : Array Value × Int :=
  if l.length < 7 then (zpk, 20) else if misV (hv7 l) ≠ 0 then (zpk, misV (hv7 l)) else if l.length < szV (hv7 l) then (zpk, 20) else
    if (restV (hv7 l) (8 * 2 ^ hv7 l 4) (l.take (szV (hv7 l)))).2 ≠ 0 then (zpk, (restV (hv7 l) (8 * 2 ^ hv7 l 4) (l.take (szV (hv7 l)))).2) else if szV (hv7 l) < l.length then (zpk, 21) else
      ((restV (hv7 l) (8 * 2 ^ hv7 l 4) (l.take (szV (hv7 l)))).1, 0)
set_option maxRecDepth 100000 in
set_option maxHeartbeats 3200000 in
theorem pdecode_any (l : List Nat) (hl : By l) (p : Option Addr) (c : Nat) (hc : l.length ≤ c) (q : Nat → Prop) (w : World) (hR : Rd w q (.slice p l.length c) (l.map nv)) :
    Calls Tryd.prog 30 #[.slice p l.length c] w fun e w' => e = .returned (.tuple #[.agg (decV l).1, .int .i64 (decV l).2]) ∧ w.grownBy w' none := by
  obtain ⟨k1, k2⟩ := one_box w zpk 31
  have HB := Lib.hid (And.intro k1 k2)
  have HR := Lib.hid (hR.keep k2)
  clear k1 k2 hR
  unfold zpk at HB HR
  go_enter Tryd.func30, Tryd.ntmps30
  go_wp2_with fail
  generalize w.alloc _ = wa at *
  change Hid (wa.heap[w.heap.size]? = some (.cells zpk 31 (0, 0)) ∧ w.grownBy wa none) at HB
  refine (wholeBytes_any 49 (by decide) _).mono ?_
  rintro e w' ⟨rfl, rfl⟩
  rw [show ((49 + 7) / 8 : Nat) = 7 from rfl]
  by_cases h7 : l.length < 7
  · have hE : Hid (decV l = (zpk, 20)) := Lib.hid (by unfold decV; rw [if_pos h7])
    obtain ⟨⟨r0, r1, r2, r3, r4, r5, r6, r7, r8, r9⟩, f0, f1, f2, f3, f4, f5, f6, f7, f8, f9⟩ := zp_cells HB.out.1
    go_wp2_with fail
    refine bodyPost_ret (res_packet_err rfl _ _ w.heap.size _ rfl rfl (pput_row _ _ _ _ _ _ _ _ _ _ HB.out.1)) rfl ?_
    exact ⟨by rw [hE.out]; rfl, grown_new HB.out.2 (pput_grown _ w.heap.size _ _ _ _ _ _ _ _ _ _) (Nat.le_refl _)⟩
  · have h7' : 7 ≤ l.length := by omega
    have h7c : 7 ≤ c := by omega
    go_wp2_with fail
    refine (wholeBytes_any 49 (by decide) _).mono ?_
    rintro e w' ⟨rfl, rfl⟩
    rw [show ((49 + 7) / 8 : Nat) = 7 from rfl]
    go_wp2_with fail
    have e7 : (l.take 7).length = 7 := by rw [List.length_take]; omega
    have hA := readHeader_any (l.take 7) (fun x hx => hl x (List.mem_of_mem_take hx)) (by rw [e7]; decide) q p c wa (rd_take 7 h7' HR.out c)
    rw [e7] at hA
    refine hA.mono ?_
    rintro e w2 ⟨rfl, hg⟩
    have HB2 := Lib.hid (And.intro (kept_row HB.out.1 hg (by simp)) (grown_trans HB.out.2 hg))
    have HR2 := Lib.hid (HR.out.keep hg)
    have HD : Hid (decV l = if misV (hv7 l) ≠ 0 then (zpk, misV (hv7 l)) else if l.length < szV (hv7 l) then (zpk, 20) else
      if (restV (hv7 l) (8 * 2 ^ hv7 l 4) (l.take (szV (hv7 l)))).2 ≠ 0 then (zpk, (restV (hv7 l) (8 * 2 ^ hv7 l 4) (l.take (szV (hv7 l)))).2) else if szV (hv7 l) < l.length then (zpk, 21) else
      ((restV (hv7 l) (8 * 2 ^ hv7 l 4) (l.take (szV (hv7 l)))).1, 0)) := Lib.hid (by unfold decV; rw [if_neg h7])
    have h4 : hv7 l 4 < 4 := num_lt _ _ 2
    have h9 : hv7 l 9 < 128 := num_lt _ _ 7
    clear hA hg HB HR e7
    change Hid (_ = _) at HD
    obtain ⟨V, hV⟩ : ∃ V, V = hv7 l := ⟨_, rfl⟩
    rw [← hV] at HD h4 h9
    rw [show fv (l.take 7) = V from hV.symm]
    obtain ⟨n, hn⟩ : ∃ n : Nat, n = 8 * 2 ^ V 4 := ⟨_, rfl⟩
    rw [← hn] at HD
    rw [show (8 * 2 ^ V 4 : Int) = (n : Int) by rw [hn]; simp]
    have hn64 : n ≤ 64 := by
      have : 2 ^ V 4 ≤ 2 ^ 3 := Nat.pow_le_pow_right (by decide) (by omega)
      omega
    have hsz : szV V = (49 + n + 8 * V 9 + 16 + 7) / 8 := by unfold szV; rw [← hn]
    clear hV hn
    have hvv : hval V (n : Int) = .agg #[.int .i64 (V 0 : Int), .int .i64 (V 1 : Int), .int .i64 (V 2 : Int), .int .i64 (V 3 : Int), .int .i64 (n : Int), .int .i64 (V 5 : Int), .int .i64 (V 6 : Int), .int .i64 (V 7 : Int), .int .i64 (V 8 : Int), .int .u64 0, .string ⟨#[]⟩, .int .i64 (V 4 : Int), .int .i64 (V 9 : Int)] := rfl
    rw [hvv]
    have HH := Lib.hid (heap_alloc_new w2 (.cells #[.int .i64 (V 0 : Int), .int .i64 (V 1 : Int), .int .i64 (V 2 : Int), .int .i64 (V 3 : Int), .int .i64 (n : Int), .int .i64 (V 5 : Int), .int .i64 (V 6 : Int), .int .i64 (V 7 : Int), .int .i64 (V 8 : Int), .int .u64 0, .string ⟨#[]⟩, .int .i64 (V 4 : Int), .int .i64 (V 9 : Int)] 88))
    have HG := Lib.hid (World.grownBy_alloc w2 (.cells #[.int .i64 (V 0 : Int), .int .i64 (V 1 : Int), .int .i64 (V 2 : Int), .int .i64 (V 3 : Int), .int .i64 (n : Int), .int .i64 (V 5 : Int), .int .i64 (V 6 : Int), .int .i64 (V 7 : Int), .int .i64 (V 8 : Int), .int .u64 0, .string ⟨#[]⟩, .int .i64 (V 4 : Int), .int .i64 (V 9 : Int)] 88) none)
    have HSZ := Lib.hid hsz
    clear hvv hsz
    go_wp2_with fail
    generalize w2.alloc _ = w3 at *
    change Hid (w3.heap[w2.heap.size]? = some (.cells (hdc V 10 (n : Int)) 88 (0, 0))) at HH
    have HB3 := Lib.hid (And.intro (kept_row HB2.out.1 HG.out (by simp)) (grown_trans HB2.out.2 HG.out))
    have HR3 := Lib.hid (HR2.out.keep HG.out)
    clear HB2 HR2 HG
    refine (mistake_any V (n : Int) w2.heap.size w3 HH.out).mono ?_
    rintro e w' ⟨rfl, rfl⟩
    obtain ⟨m, hm⟩ : ∃ m, m = misV V := ⟨_, rfl⟩
    rw [← hm] at HD ⊢
    have HM := Lib.hid hm
    clear hm
    by_cases hm0 : m = 0
    · have h64 : V 9 ≤ 64 := by
        have h := HM.out
        rw [hm0] at h
        unfold misV at h
        split at h
        · cases h
        · split at h
          · cases h
          · split at h
            · cases h
            · omega
      subst hm0
      have b4 : w3.cell? ⟨w2.heap.size, 4, none⟩ = some (.int .i64 (n : Int)) := cell_of_row _ _ _ _ _ _ HH.out
      have b9 : w3.cell? ⟨w2.heap.size, 12, none⟩ = some (.int .i64 (V 9 : Int)) := cell_of_row _ _ _ _ _ _ HH.out
      go_wp2_with fail
      refine (bytesForP_any n (V 9) (by omega) (by omega) _).mono ?_
      rintro e w' ⟨rfl, rfl⟩
      rw [← HSZ.out]
      have hs200 : szV V ≤ 200 := by rw [HSZ.out]; omega
      obtain ⟨z, hz⟩ : ∃ z, z = szV V := ⟨_, rfl⟩
      rw [← hz] at HD hs200 ⊢
      have HZ := Lib.hid hz
      clear hz b4 b9
      by_cases hlz : l.length < z
      · have hE : Hid (decV l = (zpk, 20)) := Lib.hid (by rw [HD.out, if_neg (by simp), if_pos hlz])
        obtain ⟨⟨r0, r1, r2, r3, r4, r5, r6, r7, r8, r9⟩, f0, f1, f2, f3, f4, f5, f6, f7, f8, f9⟩ := zp_cells HB3.out.1
        go_wp2_with fail
        refine bodyPost_ret (res_packet_err rfl _ _ w.heap.size _ rfl rfl (pput_row _ _ _ _ _ _ _ _ _ _ HB3.out.1)) rfl ?_
        exact ⟨by rw [hE.out]; rfl, grown_new HB3.out.2 (pput_grown _ w.heap.size _ _ _ _ _ _ _ _ _ _) (Nat.le_refl _)⟩
      · have hzc : z ≤ c := by omega
        have hzl : z ≤ l.length := by omega
        obtain ⟨d0, d1, d2, d3, d4, d5, d6, d7, d8, d9, d10, d11, d12⟩ : w3.cell? ⟨w2.heap.size, 0, none⟩ = some (.int .i64 (V 0 : Int)) ∧ w3.cell? ⟨w2.heap.size, 1, none⟩ = some (.int .i64 (V 1 : Int)) ∧ w3.cell? ⟨w2.heap.size, 2, none⟩ = some (.int .i64 (V 2 : Int)) ∧ w3.cell? ⟨w2.heap.size, 3, none⟩ = some (.int .i64 (V 3 : Int)) ∧ w3.cell? ⟨w2.heap.size, 4, none⟩ = some (.int .i64 (n : Int)) ∧ w3.cell? ⟨w2.heap.size, 5, none⟩ = some (.int .i64 (V 5 : Int)) ∧ w3.cell? ⟨w2.heap.size, 6, none⟩ = some (.int .i64 (V 6 : Int)) ∧ w3.cell? ⟨w2.heap.size, 7, none⟩ = some (.int .i64 (V 7 : Int)) ∧ w3.cell? ⟨w2.heap.size, 8, none⟩ = some (.int .i64 (V 8 : Int)) ∧ w3.cell? ⟨w2.heap.size, 9, none⟩ = some (.int .u64 0) ∧ w3.cell? ⟨w2.heap.size, 10, none⟩ = some (.string ⟨#[]⟩) ∧ w3.cell? ⟨w2.heap.size, 11, none⟩ = some (.int .i64 (V 4 : Int)) ∧ w3.cell? ⟨w2.heap.size, 12, none⟩ = some (.int .i64 (V 9 : Int)) := ⟨cell_of_row _ _ _ _ _ _ HH.out, cell_of_row _ _ _ _ _ _ HH.out, cell_of_row _ _ _ _ _ _ HH.out, cell_of_row _ _ _ _ _ _ HH.out, cell_of_row _ _ _ _ _ _ HH.out, cell_of_row _ _ _ _ _ _ HH.out, cell_of_row _ _ _ _ _ _ HH.out, cell_of_row _ _ _ _ _ _ HH.out, cell_of_row _ _ _ _ _ _ HH.out, cell_of_row _ _ _ _ _ _ HH.out, cell_of_row _ _ _ _ _ _ HH.out, cell_of_row _ _ _ _ _ _ HH.out, cell_of_row _ _ _ _ _ _ HH.out⟩
        go_wp2_with fail
        have ez : (l.take z).length = z := by rw [List.length_take]; omega
        obtain ⟨r, hr⟩ : ∃ r, r = restV V n (l.take z) := ⟨_, rfl⟩
        have HC : Hid (∀ w', w3.grownBy w' none → Calls Tryd.prog 60 #[.agg #[.int .i64 (V 0 : Int), .int .i64 (V 1 : Int), .int .i64 (V 2 : Int), .int .i64 (V 3 : Int), .int .i64 (n : Int), .int .i64 (V 5 : Int), .int .i64 (V 6 : Int), .int .i64 (V 7 : Int), .int .i64 (V 8 : Int), .int .u64 0, .string ⟨#[]⟩, .int .i64 (V 4 : Int), .int .i64 (V 9 : Int)], .slice p z c] w' fun e w'' => e = .returned (.tuple #[.agg r.1, .int .i64 r.2]) ∧ w'.grownBy w'' none) := Lib.hid fun w' hg => by
          have h := readRest_any V n hn64 h64 (l.take z) (fun x hx => hl x (List.mem_of_mem_take hx)) (by rw [ez, HZ.out, HSZ.out]) q p c w' (rd_take z hzl (HR3.out.keep hg) c)
          rw [ez, ← hr] at h
          exact h
        have hr2 : (∃ b s, r = (rcells V (n : Int) b s, 0)) ∨ (∃ x, x ≠ 0 ∧ r = (zpk, x)) := by
          rw [hr]; unfold restV
          split
          · exact .inl ⟨_, _, rfl⟩
          · rename_i hx; exact .inr ⟨_, hx, rfl⟩
        rw [← hr] at HD
        clear hr
        have hHZ : (w3.alloc (.cells #[.int .i64 0, .int .i64 0, .int .i64 0, .int .i64 0, .int .i64 0, .int .i64 0, .int .i64 0, .int .i64 0, .int .u64 0, .string ⟨#[]⟩] 31)).heap[w2.heap.size]? = some (.cells (hdc V 10 (n : Int)) 88 (0, 0)) := kept_row HH.out (World.grownBy_alloc w3 _ none) (by simp)
        obtain ⟨i0, i1, i2, i3, i4, i5, i6, i7, i8, i9, i10, i11, i12⟩ : (w3.alloc (.cells #[.int .i64 0, .int .i64 0, .int .i64 0, .int .i64 0, .int .i64 0, .int .i64 0, .int .i64 0, .int .i64 0, .int .u64 0, .string ⟨#[]⟩] 31)).cell? ⟨w2.heap.size, 0, none⟩ = some (.int .i64 (V 0 : Int)) ∧ (w3.alloc (.cells #[.int .i64 0, .int .i64 0, .int .i64 0, .int .i64 0, .int .i64 0, .int .i64 0, .int .i64 0, .int .i64 0, .int .u64 0, .string ⟨#[]⟩] 31)).cell? ⟨w2.heap.size, 1, none⟩ = some (.int .i64 (V 1 : Int)) ∧ (w3.alloc (.cells #[.int .i64 0, .int .i64 0, .int .i64 0, .int .i64 0, .int .i64 0, .int .i64 0, .int .i64 0, .int .i64 0, .int .u64 0, .string ⟨#[]⟩] 31)).cell? ⟨w2.heap.size, 2, none⟩ = some (.int .i64 (V 2 : Int)) ∧ (w3.alloc (.cells #[.int .i64 0, .int .i64 0, .int .i64 0, .int .i64 0, .int .i64 0, .int .i64 0, .int .i64 0, .int .i64 0, .int .u64 0, .string ⟨#[]⟩] 31)).cell? ⟨w2.heap.size, 3, none⟩ = some (.int .i64 (V 3 : Int)) ∧ (w3.alloc (.cells #[.int .i64 0, .int .i64 0, .int .i64 0, .int .i64 0, .int .i64 0, .int .i64 0, .int .i64 0, .int .i64 0, .int .u64 0, .string ⟨#[]⟩] 31)).cell? ⟨w2.heap.size, 4, none⟩ = some (.int .i64 (n : Int)) ∧ (w3.alloc (.cells #[.int .i64 0, .int .i64 0, .int .i64 0, .int .i64 0, .int .i64 0, .int .i64 0, .int .i64 0, .int .i64 0, .int .u64 0, .string ⟨#[]⟩] 31)).cell? ⟨w2.heap.size, 5, none⟩ = some (.int .i64 (V 5 : Int)) ∧ (w3.alloc (.cells #[.int .i64 0, .int .i64 0, .int .i64 0, .int .i64 0, .int .i64 0, .int .i64 0, .int .i64 0, .int .i64 0, .int .u64 0, .string ⟨#[]⟩] 31)).cell? ⟨w2.heap.size, 6, none⟩ = some (.int .i64 (V 6 : Int)) ∧ (w3.alloc (.cells #[.int .i64 0, .int .i64 0, .int .i64 0, .int .i64 0, .int .i64 0, .int .i64 0, .int .i64 0, .int .i64 0, .int .u64 0, .string ⟨#[]⟩] 31)).cell? ⟨w2.heap.size, 7, none⟩ = some (.int .i64 (V 7 : Int)) ∧ (w3.alloc (.cells #[.int .i64 0, .int .i64 0, .int .i64 0, .int .i64 0, .int .i64 0, .int .i64 0, .int .i64 0, .int .i64 0, .int .u64 0, .string ⟨#[]⟩] 31)).cell? ⟨w2.heap.size, 8, none⟩ = some (.int .i64 (V 8 : Int)) ∧ (w3.alloc (.cells #[.int .i64 0, .int .i64 0, .int .i64 0, .int .i64 0, .int .i64 0, .int .i64 0, .int .i64 0, .int .i64 0, .int .u64 0, .string ⟨#[]⟩] 31)).cell? ⟨w2.heap.size, 9, none⟩ = some (.int .u64 0) ∧ (w3.alloc (.cells #[.int .i64 0, .int .i64 0, .int .i64 0, .int .i64 0, .int .i64 0, .int .i64 0, .int .i64 0, .int .i64 0, .int .u64 0, .string ⟨#[]⟩] 31)).cell? ⟨w2.heap.size, 10, none⟩ = some (.string ⟨#[]⟩) ∧ (w3.alloc (.cells #[.int .i64 0, .int .i64 0, .int .i64 0, .int .i64 0, .int .i64 0, .int .i64 0, .int .i64 0, .int .i64 0, .int .u64 0, .string ⟨#[]⟩] 31)).cell? ⟨w2.heap.size, 11, none⟩ = some (.int .i64 (V 4 : Int)) ∧ (w3.alloc (.cells #[.int .i64 0, .int .i64 0, .int .i64 0, .int .i64 0, .int .i64 0, .int .i64 0, .int .i64 0, .int .i64 0, .int .u64 0, .string ⟨#[]⟩] 31)).cell? ⟨w2.heap.size, 12, none⟩ = some (.int .i64 (V 9 : Int)) := ⟨cell_of_row _ _ _ _ _ _ hHZ, cell_of_row _ _ _ _ _ _ hHZ, cell_of_row _ _ _ _ _ _ hHZ, cell_of_row _ _ _ _ _ _ hHZ, cell_of_row _ _ _ _ _ _ hHZ, cell_of_row _ _ _ _ _ _ hHZ, cell_of_row _ _ _ _ _ _ hHZ, cell_of_row _ _ _ _ _ _ hHZ, cell_of_row _ _ _ _ _ _ hHZ, cell_of_row _ _ _ _ _ _ hHZ, cell_of_row _ _ _ _ _ _ hHZ, cell_of_row _ _ _ _ _ _ hHZ, cell_of_row _ _ _ _ _ _ hHZ⟩
        clear hHZ
        rcases hr2 with ⟨b, s, rfl⟩ | ⟨x, hx, rfl⟩
        · have HC2 := Lib.hid HC.out
          clear HC
          dsimp only at HC2
          unfold rcells at HC2
          go_cut [7, 8] from 34 to 41 (fun pp ee wx => ∃ g, pp = .pointer (some ⟨g, 0, none⟩) ∧ ee = .int .i64 (0) ∧ Hid (wx.heap[g]? = some (.cells (rcells V (n : Int) b s) 31 (0, 0)) ∧ wx.heap[w.heap.size]? = some (.cells zpk 31 (0, 0)) ∧ w.grownBy wx none))
          case first =>
            go_region_law (first
              | (go_simp; go_at_call 60; refine (HC2.out _ ?_).mono ?_; (focus (repeat (first | (with_reducible exact grown_refl _ _) | apply grown_drew | (with_reducible exact World.grownBy_alloc _ _ _)))); rintro e w5 ⟨rfl, hap⟩; have G5 : Hid (w3.grownBy w5 none) := (by refine Lib.hid (grown_trans ?_ hap); repeat (first | (with_reducible exact grown_refl _ _) | apply grown_drew | (with_reducible exact World.grownBy_alloc _ _ _))); first | (have ZZ := zp_after hap; have ZR := Lib.hid ZZ; obtain ⟨⟨r0, r1, r2, r3, r4, r5, r6, r7, r8, r9⟩, f0, f1, f2, f3, f4, f5, f6, f7, f8, f9⟩ := zp_cells ZZ; clear ZZ) | skip))
            all_goals
              go_wp2_with fail
              go_meet
              first
                | (refine ⟨w3.heap.size, by with_reducible rfl, by with_reducible rfl, ?_⟩; exact Lib.hid ⟨pput_row (w := w5) (h := w3.heap.size) _ _ _ _ _ _ _ _ _ _ ZR.out, kept_row (kept_row HB3.out.1 G5.out (by simp)) (pput_grown w5 w3.heap.size _ _ _ _ _ _ _ _ _ _) (fun e => by have h1 := World.lt_of_row' HB3.out.1; have := Option.some.inj e; omega), grown_new (grown_trans HB3.out.2 G5.out) (pput_grown w5 w3.heap.size _ _ _ _ _ _ _ _ _ _) (HB3.out.2.size)⟩)
                | (refine ⟨w5.heap.size, by with_reducible rfl, by with_reducible rfl, ?_⟩; exact Lib.hid ⟨heap_alloc_new w5 _, kept_row HB3.out.1 (grown_trans G5.out (World.grownBy_alloc w5 _ none)) (by simp), grown_trans HB3.out.2 (grown_trans G5.out (World.grownBy_alloc w5 _ none))⟩)
          case rest =>
            obtain ⟨g, rfl, rfl, HW⟩ := hcut
            clear d0 d1 d2 d3 d4 d5 d6 d7 d8 d9 d10 d11 d12 i0 i1 i2 i3 i4 i5 i6 i7 i8 i9 i10 i11 i12 HC2
            obtain ⟨⟨r0, r1, r2, r3, r4, r5, r6, r7, r8, r9⟩, f0, f1, f2, f3, f4, f5, f6, f7, f8, f9⟩ := zp_cells HW.out.2.1
            by_cases hlong : z < l.length
            · have hE : Hid (decV l = (zpk, 21)) := Lib.hid (by rw [HD.out, if_neg (by simp), if_neg hlz, if_neg (by simp), if_pos hlong])
              go_wp2_with fail
              refine bodyPost_ret (res_packet_err rfl _ _ w.heap.size _ rfl rfl (pput_row _ _ _ _ _ _ _ _ _ _ HW.out.2.1)) rfl ?_
              exact ⟨by rw [hE.out]; rfl, grown_new HW.out.2.2 (pput_grown _ w.heap.size _ _ _ _ _ _ _ _ _ _) (Nat.le_refl _)⟩
            · have hE : Hid (decV l = (rcells V (n : Int) b s, 0)) := Lib.hid (by rw [HD.out, if_neg (by simp), if_neg hlz, if_neg (by simp), if_neg hlong])
              obtain ⟨q0, q1, q2, q3, q4, q5, q6, q7, q8, q9⟩ := rc_cells HW.out.1
              go_wp2_with fail
              refine bodyPost_ret (res_packet_err rfl _ _ w.heap.size _ rfl rfl (pput_row _ _ _ _ _ _ _ _ _ _ HW.out.2.1)) rfl ?_
              exact ⟨by rw [hE.out]; rfl, grown_new HW.out.2.2 (pput_grown _ w.heap.size _ _ _ _ _ _ _ _ _ _) (Nat.le_refl _)⟩
        · have HC2 := Lib.hid HC.out
          clear HC
          dsimp only at HC2
          unfold zpk at HC2
          go_cut [7, 8] from 34 to 41 (fun pp ee wx => ∃ g, pp = .pointer (some ⟨g, 0, none⟩) ∧ ee = .int .i64 (x) ∧ Hid (wx.heap[g]? = some (.cells (zpk) 31 (0, 0)) ∧ wx.heap[w.heap.size]? = some (.cells zpk 31 (0, 0)) ∧ w.grownBy wx none))
          case first =>
            go_region_law (first
              | (go_simp; go_at_call 60; refine (HC2.out _ ?_).mono ?_; (focus (repeat (first | (with_reducible exact grown_refl _ _) | apply grown_drew | (with_reducible exact World.grownBy_alloc _ _ _)))); rintro e w5 ⟨rfl, hap⟩; have G5 : Hid (w3.grownBy w5 none) := (by refine Lib.hid (grown_trans ?_ hap); repeat (first | (with_reducible exact grown_refl _ _) | apply grown_drew | (with_reducible exact World.grownBy_alloc _ _ _))); first | (have ZZ := zp_after hap; have ZR := Lib.hid ZZ; obtain ⟨⟨r0, r1, r2, r3, r4, r5, r6, r7, r8, r9⟩, f0, f1, f2, f3, f4, f5, f6, f7, f8, f9⟩ := zp_cells ZZ; clear ZZ) | skip))
            all_goals
              go_wp2_with fail
              go_meet
              first
                | (refine ⟨w3.heap.size, by with_reducible rfl, by with_reducible rfl, ?_⟩; exact Lib.hid ⟨pput_row (w := w5) (h := w3.heap.size) _ _ _ _ _ _ _ _ _ _ ZR.out, kept_row (kept_row HB3.out.1 G5.out (by simp)) (pput_grown w5 w3.heap.size _ _ _ _ _ _ _ _ _ _) (fun e => by have h1 := World.lt_of_row' HB3.out.1; have := Option.some.inj e; omega), grown_new (grown_trans HB3.out.2 G5.out) (pput_grown w5 w3.heap.size _ _ _ _ _ _ _ _ _ _) (HB3.out.2.size)⟩)
                | (refine ⟨w5.heap.size, by with_reducible rfl, by with_reducible rfl, ?_⟩; exact Lib.hid ⟨heap_alloc_new w5 _, kept_row HB3.out.1 (grown_trans G5.out (World.grownBy_alloc w5 _ none)) (by simp), grown_trans HB3.out.2 (grown_trans G5.out (World.grownBy_alloc w5 _ none))⟩)
          case rest =>
            obtain ⟨g, rfl, rfl, HW⟩ := hcut
            clear d0 d1 d2 d3 d4 d5 d6 d7 d8 d9 d10 d11 d12 i0 i1 i2 i3 i4 i5 i6 i7 i8 i9 i10 i11 i12 HC2
            obtain ⟨⟨r0, r1, r2, r3, r4, r5, r6, r7, r8, r9⟩, f0, f1, f2, f3, f4, f5, f6, f7, f8, f9⟩ := zp_cells HW.out.2.1
            have hE : Hid (decV l = (zpk, x)) := Lib.hid (by rw [HD.out, if_neg (by simp), if_neg hlz, if_pos hx])
            have hxb : (x != 0) = true := by simpa using hx
            go_wp2_with fail
            refine bodyPost_ret (res_packet_err rfl _ _ w.heap.size _ rfl rfl (pput_row _ _ _ _ _ _ _ _ _ _ HW.out.2.1)) rfl ?_
            exact ⟨by rw [hE.out]; rfl, grown_new HW.out.2.2 (pput_grown _ w.heap.size _ _ _ _ _ _ _ _ _ _) (Nat.le_refl _)⟩
    · have hE : Hid (decV l = (zpk, m)) := Lib.hid (by rw [HD.out, if_pos hm0])
      have hmb : (m != 0) = true := by simpa using hm0
      obtain ⟨⟨r0, r1, r2, r3, r4, r5, r6, r7, r8, r9⟩, f0, f1, f2, f3, f4, f5, f6, f7, f8, f9⟩ := zp_cells HB3.out.1
      go_wp2_with fail
      refine bodyPost_ret (res_packet_err rfl _ _ w.heap.size _ rfl rfl (pput_row _ _ _ _ _ _ _ _ _ _ HB3.out.1)) rfl ?_
      exact ⟨by rw [hE.out]; rfl, grown_new HB3.out.2 (pput_grown _ w.heap.size _ _ _ _ _ _ _ _ _ _) (Nat.le_refl _)⟩
end Go.Proofs.YtpabfjhjehjebaaDoor

/- packet: Decode undoes Encode. -/
namespace Go.Proofs.YtpabfjhjehjebaaDoor
open Go.RowKit Bs
set_option maxRecDepth 100000 in
theorem num_mid (A C : List Bool) (x k : Nat) (hx : x < 2 ^ k) : num (bf (A ++ nb x k ++ C)) A.length k = x := by
  refine (num_eq hx fun t ht => ?_).symm
  rw [bf_left _ _ _ (by rw [List.length_append, nb_len]; omega), bf_right, bf_nb _ _ _ ht]
set_option maxRecDepth 100000 in
theorem num_pk {B : List Bool} {l : List Nat} {a k : Nat} (hl : l = pk B) (h : a + k ≤ 8 * l.length) : num (bt l) a k = num (bf B) a k := by
  refine num_congr k fun t ht => ?_
  rw [hl]
  refine bt_pk B _ ?_
  rw [hl, pk_len] at h
  omega
set_option maxRecDepth 100000 in
theorem bt_take {l : List Nat} {m i : Nat} (h : i < 8 * m) : bt (l.take m) i = bt l i := by
  unfold bt
  rw [List.getD_eq_getElem?_getD, List.getD_eq_getElem?_getD, List.getElem?_take_of_lt (by omega)]
set_option maxRecDepth 100000 in
theorem flb_split (f : List (Nat × Nat)) (k x wd : Nat) (h : f[k]? = some (x, wd)) : flb f = flb (f.take k) ++ nb x wd ++ flb (f.drop (k + 1)) := by
  have e : f = f.take k ++ (x, wd) :: f.drop (k + 1) := by
    have hk := (List.getElem?_eq_some_iff.1 h)
    obtain ⟨hk, he⟩ := hk
    rw [← he, ← List.drop_eq_getElem_cons hk, List.take_append_drop]
  have e2 : flb f = flb (f.take k ++ (x, wd) :: f.drop (k + 1)) := congrArg flb e
  rw [e2]
  unfold flb
  rw [List.flatMap_append, List.flatMap_cons, ← List.append_assoc]
set_option maxRecDepth 100000 in
theorem take_len (P : Pk) (k : Nat) (hk : k < 10) : (flb ((fl P).take k)).length = offs.getD k 0 := by
  rw [flb_len]
  rcases (show k = 0 ∨ k = 1 ∨ k = 2 ∨ k = 3 ∨ k = 4 ∨ k = 5 ∨ k = 6 ∨ k = 7 ∨ k = 8 ∨ k = 9 by omega) with rfl | rfl | rfl | rfl | rfl | rfl | rfl | rfl | rfl | rfl <;> rfl
/-- All bits of an encoding. -/
def allb (P : Pk) : List Bool := body P ++ nb (ck (body P)) 16
set_option maxRecDepth 100000 in
theorem enc_all (P : Pk) : enc P = pk (allb P) := rfl
set_option maxRecDepth 100000 in
theorem all_len (P : Pk) : (allb P).length = 49 + P.len.toNat + 8 * P.pay.size + 16 := by
  unfold allb
  rw [List.length_append, nb_len, body_len]
set_option maxRecDepth 100000 in
theorem enc_len (P : Pk) : (enc P).length = (49 + P.len.toNat + 8 * P.pay.size + 16 + 7) / 8 := by rw [enc_all, pk_len, all_len]
set_option maxRecDepth 100000 in
theorem wid_at (P : Pk) (k : Nat) (hk : k < 10) : ∃ x, (fl P)[k]? = some (x, wids.getD k 0) := by
  rcases (show k = 0 ∨ k = 1 ∨ k = 2 ∨ k = 3 ∨ k = 4 ∨ k = 5 ∨ k = 6 ∨ k = 7 ∨ k = 8 ∨ k = 9 by omega) with rfl | rfl | rfl | rfl | rfl | rfl | rfl | rfl | rfl | rfl <;> exact ⟨_, rfl⟩
set_option maxRecDepth 100000 in
theorem off_le (k : Nat) (hk : k < 10) : offs.getD k 0 + wids.getD k 0 ≤ 49 := by
  rcases (show k = 0 ∨ k = 1 ∨ k = 2 ∨ k = 3 ∨ k = 4 ∨ k = 5 ∨ k = 6 ∨ k = 7 ∨ k = 8 ∨ k = 9 by omega) with rfl | rfl | rfl | rfl | rfl | rfl | rfl | rfl | rfl | rfl <;> decide
set_option maxRecDepth 100000 in
/-- A header's field is read back. -/
theorem fv_enc {P : Pk} {k x : Nat} (hk : k < 10) (h : (fl P)[k]? = some (x, wids.getD k 0)) (hx : x < 2 ^ wids.getD k 0) : hv7 (enc P) k = x := by
  have ho := off_le k hk
  have hlen := all_len P
  unfold hv7 fv
  have h1 : num (bt ((enc P).take 7)) (offs.getD k 0) (wids.getD k 0) = num (bt (enc P)) (offs.getD k 0) (wids.getD k 0) := num_congr _ fun t ht => bt_take (by omega)
  rw [h1, num_pk (enc_all P) (by rw [enc_len]; omega)]
  have e : allb P = flb ((fl P).take k) ++ nb x (wids.getD k 0) ++ (flb ((fl P).drop (k + 1)) ++ nb P.bits P.len.toNat ++ pb (byl P.pay) ++ nb (ck (body P)) 16) := by
    unfold allb
    generalize nb (ck (body P)) 16 = T
    unfold body
    rw [flb_split (fl P) k x _ h]
    simp only [List.append_assoc]
  rw [e, ← take_len P k hk]
  exact num_mid _ _ _ _ hx
set_option maxRecDepth 100000 in
theorem num_bits {P : Pk} (hb : P.bits < 2 ^ P.len.toNat) : num (bf (allb P)) 49 P.len.toNat = P.bits := by
  have e : allb P = flb (fl P) ++ nb P.bits P.len.toNat ++ (pb (byl P.pay) ++ nb (ck (body P)) 16) := by
    unfold allb
    generalize nb (ck (body P)) 16 = T
    unfold body
    simp only [List.append_assoc]
  rw [e, ← hdr_len P]
  exact num_mid _ _ _ _ hb
set_option maxRecDepth 100000 in
theorem num_check (P : Pk) : num (bf (allb P)) (49 + P.len.toNat + 8 * P.pay.size) 16 = ck (body P) := by
  have h := num_mid (body P) [] (ck (body P)) 16 (chk_lt _ _)
  rw [List.append_nil, body_len] at h
  exact h
set_option maxRecDepth 100000 in
theorem bs_byl (s : ByteArray) : bs (byl s) = s := by
  unfold bs byl
  rw [List.map_map]
  have : (s.data.toList.map ((fun x => UInt8.ofNat x) ∘ fun b => b.toNat)) = s.data.toList := by
    refine (List.map_congr_left fun b _ => ?_).trans (List.map_id _)
    show UInt8.ofNat b.toNat = b
    exact UInt8.ofNat_toNat
  rw [this]
set_option maxRecDepth 100000 in
theorem pay_back (P : Pk) : restP (enc P) P.len.toNat P.pay.size = P.pay := by
  unfold restP
  have hl := byl_len P.pay
  have e : pz (fun i => bt (enc P) (49 + P.len.toNat + i)) (8 * P.pay.size) P.pay.size = byl P.pay := by
    rw [← pk_pb (byl P.pay) (byl_by P.pay)]
    unfold pk
    rw [pb_len, hl, show (8 * P.pay.size + 7) / 8 = P.pay.size by omega]
    refine pz_congr fun i hi => ?_
    simp only [hi, decide_true, Bool.true_and]
    rw [enc_all, bt_pk _ _ (by rw [all_len]; omega)]
    have e2 : allb P = (flb (fl P) ++ nb P.bits P.len.toNat) ++ pb (byl P.pay) ++ nb (ck (body P)) 16 := rfl
    rw [e2, bf_left _ _ _ (by rw [List.length_append, List.length_append, hdr_len, nb_len, pb_len, hl]; omega)]
    have h49 : 49 + P.len.toNat = (flb (fl P) ++ nb P.bits P.len.toNat).length := by rw [List.length_append, hdr_len, nb_len]
    rw [h49, bf_right]
  rw [e, bs_byl]
set_option maxRecDepth 100000 in
theorem lcode_back {n : Int} (h : vl n = true) : 8 * 2 ^ lcode n = n.toNat := by
  rcases vl_cases h with rfl | rfl | rfl | rfl <;> rfl
set_option maxRecDepth 100000 in
/-- Decode undoes Encode. -/
theorem dec_enc {P : Pk} (hP : P.Wf) (h : vpk P = true) : decV (enc P) = (pcells P, 0) := by
  obtain ⟨⟨m1, m2⟩, ⟨s1, s2⟩, ⟨e1, e2⟩, ⟨t1, t2⟩, ⟨n1, n2⟩, ⟨i1, i2⟩, ⟨p1, p2⟩, y1, v1⟩ := vpk_parts h
  have hvl := vb_vl v1
  have V0 : hv7 (enc P) 0 = 2 := fv_enc (by decide) rfl (by decide)
  have V1 : hv7 (enc P) 1 = P.mode.toNat := fv_enc (by decide) rfl (show P.mode.toNat < 4 by omega)
  have V2 : hv7 (enc P) 2 = P.sub.toNat := fv_enc (by decide) rfl (show P.sub.toNat < 8 by omega)
  have V3 : hv7 (enc P) 3 = P.set.toNat := fv_enc (by decide) rfl (show P.set.toNat < 32 by omega)
  have V4 : hv7 (enc P) 4 = lcode P.len := fv_enc (by decide) rfl (lcode_lt P.len)
  have V5 : hv7 (enc P) 5 = P.ttl.toNat := fv_enc (by decide) rfl (show P.ttl.toNat < 64 by omega)
  have V6 : hv7 (enc P) 6 = P.ent.toNat := fv_enc (by decide) rfl (show P.ent.toNat < 1024 by omega)
  have V7 : hv7 (enc P) 7 = P.ing.toNat := fv_enc (by decide) rfl (show P.ing.toNat < 512 by omega)
  have V8 : hv7 (enc P) 8 = P.pro.toNat := fv_enc (by decide) rfl (show P.pro.toNat < 8 by omega)
  have V9 : hv7 (enc P) 9 = P.pay.size := fv_enc (by decide) rfl (show P.pay.size < 128 by omega)
  have hb := vb_lt v1 hP.bits
  have hlen := enc_len P
  have hn : 8 * 2 ^ hv7 (enc P) 4 = P.len.toNat := by rw [V4]; exact lcode_back hvl
  have hz : szV (hv7 (enc P)) = (enc P).length := by unfold szV; rw [hn, V9, hlen]
  have hm : misV (hv7 (enc P)) = 0 := by
    unfold misV
    rw [if_neg (by rw [V0]; decide), if_neg (by rw [V1]; omega), if_neg (by rw [V7, V9]; omega)]
  have hr : restE (enc P) P.len.toNat P.pay.size = 0 := by
    unfold restE
    rw [if_neg, if_neg]
    · intro hne
      refine hne ?_
      have hx : 0 = num (bt (enc P)) (49 + P.len.toNat + 8 * P.pay.size + 16) (8 * (enc P).length - (49 + P.len.toNat + 8 * P.pay.size + 16)) := by
        refine num_eq (Nat.two_pow_pos _) fun t ht => ?_
        rw [Nat.zero_testBit, enc_all, bt_pk _ _ (by rw [all_len]; rw [hlen] at ht; omega)]
        exact (bf_out _ _ (by rw [all_len]; omega)).symm
      exact hx.symm
    · intro hne
      refine hne ?_
      rw [num_pk (enc_all P) (by rw [hlen]; omega), num_check]
      unfold ck
      rw [body_len]
      refine chk_same _ fun i hi => ?_
      rw [enc_all, bt_pk _ _ (by rw [all_len]; omega)]
      unfold allb
      rw [bf_left _ _ _ (by rw [body_len]; exact hi)]
  have hbits : num (bt (enc P)) 49 P.len.toNat = P.bits := by
    rw [num_pk (enc_all P) (by rw [hlen]; omega), num_bits hb]
  unfold decV
  rw [if_neg (by rw [hlen]; omega), if_neg (by rw [hm]; simp), if_neg (by rw [hz]; omega), hz, List.take_length, hn]
  have hrest : restV (hv7 (enc P)) P.len.toNat (enc P) = (pcells P, 0) := by
    unfold restV
    rw [V9, if_pos hr, hbits, pay_back]
    unfold rcells pcells
    rw [V1, V2, V3, V5, V6, V7, V8, Int.toNat_of_nonneg (by omega), Int.toNat_of_nonneg s1, Int.toNat_of_nonneg e1, Int.toNat_of_nonneg t1, Int.toNat_of_nonneg n1, Int.toNat_of_nonneg i1, Int.toNat_of_nonneg p1]
    rw [Int.toNat_of_nonneg (show 0 ≤ P.len by rcases vl_cases hvl with h | h | h | h <;> rw [h] <;> decide)]
  rw [hrest]
  rw [if_neg (by simp), if_neg (by omega)]
end Go.Proofs.YtpabfjhjehjebaaDoor

/- Frames: the mathematics. -/
namespace Go.Proofs.YtpabfjhjehjebaaDoor
open Go.RowKit Bs
/-- Does a number stand twice in a list? -/
def rep (r : List Int) : Bool := (List.range r.length).any fun i => (r.take i).contains (r.getD i 0)
def okR (z : Int) : Bool := decide (1 ≤ z ∧ z ≤ 99)
def allR (r : List Int) : Bool := r.all okR
/-- A valid frame. -/
def vfr (r : List Int) (P : Pk) : Bool := decide (r.length ≤ 24) && (allR r && (!rep r && vpk P))
def lbR (z : Int) : Lab := ⟨16 + z, 0, 255⟩
set_option maxRecDepth 100000 in
theorem lbR_v {z : Int} (h : okR z = true) : vlab (lbR z) = true := by
  have : 1 ≤ z ∧ z ≤ 99 := by simpa [okR] using h
  rw [vlab_iff]
  unfold lbR
  simp only
  omega
/-- The encoding of a valid frame. -/
def encF (r : List Int) (P : Pk) : List Nat := if r = [] then 0 :: enc P else 1 :: (encL (r.map lbR) ++ enc P)
/-- Is a label one for a router? -/
def okL (l : Lab) : Bool := decide ((17 ≤ l.v ∧ l.v ≤ 115) ∧ l.c = 0 ∧ l.h = 255)
set_option maxRecDepth 100000 in
theorem okL_lbR {z : Int} (h : okR z = true) : okL (lbR z) = true := by
  have : 1 ≤ z ∧ z ≤ 99 := by simpa [okR] using h
  unfold okL
  rw [decide_eq_true_eq]
  show (17 ≤ 16 + z ∧ 16 + z ≤ 115) ∧ (0 : Int) = 0 ∧ (255 : Int) = 255
  omega
def rts (ls : List Lab) : List Int := ls.map fun l => l.v - 16
/-- The route of labels, and the error. -/
def rtV (ls : List Lab) : List Int × Int := if ls.all okL then (if rep (rts ls) then ([], 5) else (rts ls, 0)) else ([], 2)
/-- The end of a frame's reading: the packet. -/
def finF (r : List Int) (b : List Nat) : List Int × Array Value × Int := if (decV b).2 = 0 then (r, (decV b).1, 0) else ([], zpk, (decV b).2)
def decH (x : Nat) (b : List Nat) : List Int × Array Value × Int := if 1 < x then ([], zpk, 22) else if x = 1 then
      (if (decM b).2 = 0 then (if (rtV (labsN b (decM b).1)).2 = 0 then finF (rtV (labsN b (decM b).1)).1 (b.drop (4 * (decM b).1)) else ([], zpk, (rtV (labsN b (decM b).1)).2)) else ([], zpk, (decM b).2))
      else finF [] b
set_option maxRecDepth 100000 in
def decF (l : List Nat) : List Int × Array Value × Int := if l.length = 0 then ([], zpk, 20) else decH (l.getD 0 0) (l.drop 1)
set_option maxRecDepth 100000 in
theorem decF_cons (x : Nat) (b : List Nat) : decF (x :: b) = decH x b := by
  unfold decF
  rw [if_neg (by simp)]
  rfl
set_option maxRecDepth 100000 in
theorem fin_enc {r : List Int} {P : Pk} (hP : P.Wf) (h : vpk P = true) : finF r (enc P) = (r, pcells P, 0) := by
  unfold finF
  rw [dec_enc hP h]
  rfl
set_option maxRecDepth 100000 in
theorem rts_lbR (r : List Int) : rts (r.map lbR) = r := by
  unfold rts
  rw [List.map_map]
  have : ((fun l : Lab => l.v - 16) ∘ lbR) = id := by
    funext z
    show 16 + z - 16 = z
    omega
  rw [this, List.map_id]
set_option maxRecDepth 100000 in
/-- What is decoded of a valid frame's encoding is the frame. -/
theorem dec_encF {r : List Int} {P : Pk} (hP : P.Wf) (h : vfr r P = true) : decF (encF r P) = (r, pcells P, 0) := by
  unfold vfr at h
  simp only [Bool.and_eq_true, decide_eq_true_eq, Bool.not_eq_true'] at h
  obtain ⟨h1, h2, h3, h4⟩ := h
  unfold encF
  by_cases e : r = []
  · rw [if_pos e]
    subst e
    rw [decF_cons]
    unfold decH
    rw [if_neg (by decide), if_neg (by decide)]
    exact fin_enc hP h4
  · rw [if_neg e]
    have hpos : 1 ≤ r.length := by
      rcases r with _ | ⟨a, r⟩
      · exact absurd rfl e
      · simp
    have hv : ∀ x ∈ r.map lbR, vlab x = true := by
      intro x hx
      obtain ⟨z, hz, rfl⟩ := List.mem_map.1 hx
      exact lbR_v (List.all_eq_true.1 h2 z hz)
    obtain ⟨d1, d2⟩ := dec_encL (r.map lbR) (enc P) (by simpa using hpos) (by simpa using h1) hv
    have hok : (r.map lbR).all okL = true := by
      rw [List.all_eq_true]
      intro x hx
      obtain ⟨z, hz, rfl⟩ := List.mem_map.1 hx
      exact okL_lbR (List.all_eq_true.1 h2 z hz)
    have hrt : rtV (r.map lbR) = (r, 0) := by
      unfold rtV
      rw [if_pos hok, rts_lbR, h3]
      rfl
    rw [decF_cons]
    unfold decH
    rw [if_neg (by decide), if_pos rfl, d1]
    simp only
    rw [d2, hrt]
    simp only
    rw [if_pos trivial, if_pos trivial, ← encL_len, List.drop_append_of_le_length (Nat.le_refl _), List.drop_length]
    exact fin_enc hP h4
end Go.Proofs.YtpabfjhjehjebaaDoor

/- Parts of the proof, packed: PkEncR, PkEncR2, PkEncR3, IoOwnR, IoOwnA. -/
import Derived.Test.YtpabfjhjehjebaaDoorSPsh10
import Derived.Test.YtpabfjhjehjebaaDoorSPsh7
import Derived.Test.YtpabfjhjehjebaaDoorSPsh6
import Derived.Test.YtpabfjhjehjebaaDoorSPsh4
import Derived.Test.YtpabfjhjehjebaaDoorSPsh11
import Derived.Deep.RegionLaw
/- packet: the reference's Encode. -/
namespace Go.Proofs.YtpabfjhjehjebaaDoor
open Go.RowKit Bs
set_option maxRecDepth 100000 in
set_option maxHeartbeats 1600000 in
theorem code_8 (w : World) :
    Calls Tryd.prog 44 #[.int .i64 8] w fun e w' => e = .returned (.int .i64 0) ∧ w = w' := by
  go_enter Tryd.func44, Tryd.ntmps44
  go_wp2_with fail
  go_loop [0, 3] (fun x y => (x = .int .i64 8 ∧ y = .int .i64 0)) (fun x _ => (intOf x).toNat)
  case atStart => simp
  case round =>
    rcases hrel with ⟨rfl, rfl⟩
    · go_wp2_with fail
      go_ret
      exact ⟨rfl, rfl⟩
set_option maxRecDepth 100000 in
set_option maxHeartbeats 1600000 in
theorem code_16 (w : World) :
    Calls Tryd.prog 44 #[.int .i64 16] w fun e w' => e = .returned (.int .i64 1) ∧ w = w' := by
  go_enter Tryd.func44, Tryd.ntmps44
  go_wp2_with fail
  go_loop [0, 3] (fun x y => (x = .int .i64 16 ∧ y = .int .i64 0) ∨ (x = .int .i64 8 ∧ y = .int .i64 1)) (fun x _ => (intOf x).toNat)
  case atStart => simp
  case round =>
    rcases hrel with ⟨rfl, rfl⟩ | ⟨rfl, rfl⟩
    · go_wp2_with fail
      go_round
      case rel => simp
      case measure => simp [intOf]
    · go_wp2_with fail
      go_ret
      exact ⟨rfl, rfl⟩
set_option maxRecDepth 100000 in
set_option maxHeartbeats 1600000 in
theorem code_32 (w : World) :
    Calls Tryd.prog 44 #[.int .i64 32] w fun e w' => e = .returned (.int .i64 2) ∧ w = w' := by
  go_enter Tryd.func44, Tryd.ntmps44
  go_wp2_with fail
  go_loop [0, 3] (fun x y => (x = .int .i64 32 ∧ y = .int .i64 0) ∨ (x = .int .i64 16 ∧ y = .int .i64 1) ∨ (x = .int .i64 8 ∧ y = .int .i64 2)) (fun x _ => (intOf x).toNat)
  case atStart => simp
  case round =>
    rcases hrel with ⟨rfl, rfl⟩ | ⟨rfl, rfl⟩ | ⟨rfl, rfl⟩
    · go_wp2_with fail
      go_round
      case rel => simp
      case measure => simp [intOf]
    · go_wp2_with fail
      go_round
      case rel => simp
      case measure => simp [intOf]
    · go_wp2_with fail
      go_ret
      exact ⟨rfl, rfl⟩
set_option maxRecDepth 100000 in
set_option maxHeartbeats 1600000 in
theorem code_64 (w : World) :
    Calls Tryd.prog 44 #[.int .i64 64] w fun e w' => e = .returned (.int .i64 3) ∧ w = w' := by
  go_enter Tryd.func44, Tryd.ntmps44
  go_wp2_with fail
  go_loop [0, 3] (fun x y => (x = .int .i64 64 ∧ y = .int .i64 0) ∨ (x = .int .i64 32 ∧ y = .int .i64 1) ∨ (x = .int .i64 16 ∧ y = .int .i64 2) ∨ (x = .int .i64 8 ∧ y = .int .i64 3)) (fun x _ => (intOf x).toNat)
  case atStart => simp
  case round =>
    rcases hrel with ⟨rfl, rfl⟩ | ⟨rfl, rfl⟩ | ⟨rfl, rfl⟩ | ⟨rfl, rfl⟩
    · go_wp2_with fail
      go_round
      case rel => simp
      case measure => simp [intOf]
    · go_wp2_with fail
      go_round
      case rel => simp
      case measure => simp [intOf]
    · go_wp2_with fail
      go_round
      case rel => simp
      case measure => simp [intOf]
    · go_wp2_with fail
      go_ret
      exact ⟨rfl, rfl⟩
set_option maxRecDepth 100000 in
theorem coder_any (n : Int) (hv : vl n = true) (w : World) :
    Calls Tryd.prog 44 #[.int .i64 n] w fun e w' => e = .returned (.int .i64 ((lcode n : Nat) : Int)) ∧ w = w' := by
  rcases vl_cases hv with rfl | rfl | rfl | rfl
  · exact code_8 w
  · exact code_16 w
  · exact code_32 w
  · exact code_64 w
def wdl : List Int := [2, 2, 3, 5, 2, 6, 10, 9, 3, 7]
def wcells : Array Value := #[.int .i64 2, .int .i64 2, .int .i64 3, .int .i64 5, .int .i64 2, .int .i64 6, .int .i64 10, .int .i64 9, .int .i64 3, .int .i64 7]
set_option maxRecDepth 100000 in
theorem widths_any (w : World) :
    Calls Tryd.prog 45 #[] w fun e w' => e = .returned (.slice (some ⟨w.heap.size, 0, none⟩) 10 10) ∧ w' = w.alloc (.cells wcells 3) := by
  go_enter Tryd.func45, Tryd.ntmps45
  go_wp2_with fail
  go_ret
  exact ⟨rfl, rfl⟩
end Go.Proofs.YtpabfjhjehjebaaDoor

/- packet: the reference's Encode, the walk. -/
namespace Go.Proofs.YtpabfjhjehjebaaDoor
open Go.RowKit Bs
set_option maxRecDepth 100000 in
/-- A list of bytes that is read does not lie in a stream's box. -/
theorem rd_off {w : World} {q : Nat → Prop} {v : Value} {p1 : Option Addr} {n1 c1 S : Nat} {l : List Nat} {k : Int} {t : TypeId} (hR : Rd w q v (l.map nv)) (hS : w.heap[S]? = some (.cells #[.slice p1 n1 c1, .int .i64 k] t (0, 0))) : Rd w (fun b => b ≠ S ∧ b < w.heap.size) v (l.map nv) := by
  obtain ⟨p, c, hv, hc⟩ := hR.bound
  refine ⟨p, c, hv, fun hne => ?_⟩
  obtain ⟨b, off, hp, hb, hx⟩ := hc hne
  refine ⟨b, off, hp, ⟨?_, hb⟩, hx⟩
  rintro rfl
  cases l with
  | nil => exact absurd rfl hne
  | cons y r =>
    have h := hx 0 (nv y) rfl
    unfold World.cell? at h
    rw [hS] at h
    simp only [Addr.spot] at h
    rcases (show off + 0 = 0 ∨ off + 0 = 1 ∨ 2 ≤ off + 0 by omega) with e | e | e
    · rw [e] at h; simp [nv] at h
    · rw [e] at h; simp [nv] at h
    · rw [Array.getElem?_eq_none (by simpa using e)] at h; simp at h
/-- While the reference encodes. -/
structure ER (W : World) (P : Pk) (F D S : Nat) (B : List Bool) (p : Option Addr) (c : Nat) (w : World) : Prop where
  pb : w.heap[W.heap.size]? = some (.cells (pcells P) 31 (0, 0))
  fb : w.heap[F]? = some (.cells #[.int .i64 2, .int .i64 P.mode, .int .i64 P.sub, .int .i64 P.set, .int .i64 ((lcode P.len : Nat) : Int), .int .i64 P.ttl, .int .i64 P.ent, .int .i64 P.ing, .int .i64 P.pro, .int .i64 ((P.pay.size : Nat) : Int)] 3 (0, 0))
  db : w.heap[D]? = some (.cells wcells 3 (0, 0))
  sb : w.heap[S]? = some (.cells #[.slice p (pk B).length c, .int .i64 (B.length : Int)] 74 (0, 0))
  rd : Rd w (fun b => b ≠ S ∧ b < w.heap.size) (.slice p (pk B).length c) ((pk B).map nv)
  pc : p = none → c = 0
  ne : W.heap.size < S ∧ F ≠ S ∧ D ≠ S
  gr : W.grownBy w none
section
variable {W w w1 : World} {P : Pk} {F D S n : Nat} {B B2 : List Bool} {p : Option Addr} {c : Nat} {q : Nat → Prop}
set_option maxRecDepth 100000 in
theorem ER.keep (H : ER W P F D S B p c w) (k : w.grownBy w1 none) : ER W P F D S B p c w1 :=
  ⟨kept_row H.pb k (by simp), kept_row H.fb k (by simp), kept_row H.db k (by simp), kept_row H.sb k (by simp), (H.rd.keep k).mono (fun _ hb => ⟨hb.1, Nat.lt_of_lt_of_le hb.2 k.size⟩), H.pc, H.ne, grown_trans H.gr k⟩
set_option maxRecDepth 100000 in
theorem ER.turn (H : ER W P F D S B p c w) {p2 : Option Addr} {c2 : Nat} (hR : Rd w q (.slice p2 (pk B2).length c2) ((pk B2).map nv)) (hp : p2 = none → c2 = 0) :
    ER W P F D S B2 p2 c2 ((w.setCell ⟨S, 0, none⟩ (.slice p2 (pk B2).length c2)).setCell ⟨S, 1, none⟩ (.int .i64 (B2.length : Int))) := by
  have k := grown_store2 w S (.slice p2 (pk B2).length c2) (.int .i64 (B2.length : Int))
  have hne := H.ne
  exact ⟨kept_row H.pb k (fun e => by have := Option.some.inj e; omega), kept_row H.fb k (fun e => by have := Option.some.inj e; omega), kept_row H.db k (fun e => by have := Option.some.inj e; omega), store2 H.sb, ((rd_off hR H.sb).grown k (fun b hb e => hb.1 (Option.some.inj e))).mono (fun _ hb => ⟨hb.1, Nat.lt_of_lt_of_le hb.2 k.size⟩), hp, hne, grown_new H.gr k (by omega)⟩
set_option maxRecDepth 100000 in
theorem ER.facts (H : ER W P F D S B p c w) : w.cell? ⟨S, 0, none⟩ = some (.slice p (pk B).length c) ∧ w.cell? ⟨S, 1, none⟩ = some (.int .i64 (B.length : Int)) ∧ w.frozen? ⟨S, 0, none⟩ = false ∧ w.frozen? ⟨S, 1, none⟩ = false :=
  ⟨(row_cells H.sb).1, (row_cells H.sb).2, frozen_of_row _ _ _ _ _ H.sb, frozen_of_row _ _ _ _ _ H.sb⟩
set_option maxRecDepth 100000 in
/-- What the reference's calls give to a list of bits. -/
theorem append_bitsr {v k : Nat} (hk : k ≤ 64) (hv : v < 2 ^ k) (hl : B.length + k ≤ 8192) (hpc : p = none → c = 0) (hR : Rd w q (.slice p (pk B).length c) ((pk B).map nv)) :
    Calls Tryd.prog 46 #[.agg #[.slice p (pk B).length c, .int .i64 (B.length : Int)], .int .u64 (v : Int), .int .i64 (k : Int)] w fun e w' =>
      ∃ p2 c2, e = .returned (.tuple #[.agg #[.slice p2 (pk (B ++ nb v k)).length c2, .int .i64 ((B ++ nb v k).length : Int)], .int .i64 0]) ∧ Rd w' (fun _ => True) (.slice p2 (pk (B ++ nb v k)).length c2) ((pk (B ++ nb v k)).map nv) ∧ (p2 = none → c2 = 0) ∧ w.grownBy w' none := by
  have hvU : U64 v := Nat.lt_of_lt_of_le hv (Nat.pow_le_pow_right (n := 2) (by decide) hk)
  refine (appendr_any (pk B) (B.length : Int) v (k : Int) _ p c (pk_by B) hvU hpc w (fun _ h => h) hR.bound).mono fun e w' hp => ?_
  rw [apV_pk B v k hk hv hl] at hp
  obtain ⟨u, he, ⟨p2, c2, rfl, h1, h2, _⟩, hg⟩ := hp
  exact ⟨p2, c2, he, h1, h2, hg⟩
set_option maxRecDepth 100000 in
theorem check_bitsr (h : B.length ≤ 8192) (hpc : p = none → c = 0) (hR : Rd w q (.slice p (pk B).length c) ((pk B).map nv)) :
    Calls Tryd.prog 47 #[.agg #[.slice p (pk B).length c, .int .i64 (B.length : Int)]] w fun e w' => e = .returned (.tuple #[.int .u64 ((ck B : Nat) : Int), .int .i64 0]) ∧ w.grownBy w' none := by
  refine (checkr_any (pk B) (B.length : Int) _ p c (pk_by B) w (fun _ h => h) hR.bound).mono fun e w' hp => ?_
  obtain ⟨he, hg⟩ := hp
  rw [chkV_ok (pk_vs B h)] at he
  rw [show ck B = chk (bt (pk B)) B.length from (chk_same _ fun i hi => bt_pk B i (by omega)).symm]
  exact ⟨he, hg⟩
set_option maxRecDepth 100000 in
theorem align_bitsr (h : B.length ≤ 8192) (hpc : p = none → c = 0) (hR : Rd w q (.slice p (pk B).length c) ((pk B).map nv)) :
    Calls Tryd.prog 48 #[.agg #[.slice p (pk B).length c, .int .i64 (B.length : Int)]] w fun e w' =>
      ∃ p2 c2, e = .returned (.tuple #[.agg #[.slice p2 (pk B).length c2, .int .i64 ((8 * (pk B).length : Nat) : Int)], .int .i64 0]) ∧ Rd w' (fun _ => True) (.slice p2 (pk B).length c2) ((pk B).map nv) ∧ (p2 = none → c2 = 0) ∧ w.grownBy w' none := by
  refine (alignr_any (pk B) (B.length : Int) _ p c (pk_by B) hpc w (fun _ h => h) hR.bound).mono fun e w' hp => ?_
  rw [alV_pk B h] at hp
  obtain ⟨u, he, ⟨p2, c2, rfl, h1, h2, _⟩, hg⟩ := hp
  exact ⟨p2, c2, he, h1, h2, hg⟩
end
end Go.Proofs.YtpabfjhjehjebaaDoor

/- packet: the reference's Encode, the walk. -/
namespace Go.Proofs.YtpabfjhjehjebaaDoor
open Go.RowKit Bs
def rfc (P : Pk) : Array Value := #[.int .i64 2, .int .i64 P.mode, .int .i64 P.sub, .int .i64 P.set, .int .i64 ((lcode P.len : Nat) : Int), .int .i64 P.ttl, .int .i64 P.ent, .int .i64 P.ing, .int .i64 P.pro, .int .i64 ((P.pay.size : Nat) : Int)]
set_option maxRecDepth 100000 in
theorem rfield_at {P : Pk} (h : vpk P = true) (k : Nat) (hk : k < 10) : ∃ wd x : Nat, (rfc P)[k]? = some (.int .i64 (x : Int)) ∧ wcells[k]? = some (.int .i64 (wd : Int)) ∧ x < 2 ^ wd ∧ wd ≤ 10 ∧ (fl P)[k]? = some (x, wd) := by
  obtain ⟨⟨m1, m2⟩, ⟨s1, s2⟩, ⟨e1, e2⟩, ⟨t1, t2⟩, ⟨n1, n2⟩, ⟨i1, i2⟩, ⟨p1, p2⟩, y1, v1⟩ := vpk_parts h
  have hl := lcode_lt P.len
  rcases (show k = 0 ∨ k = 1 ∨ k = 2 ∨ k = 3 ∨ k = 4 ∨ k = 5 ∨ k = 6 ∨ k = 7 ∨ k = 8 ∨ k = 9 by omega) with rfl | rfl | rfl | rfl | rfl | rfl | rfl | rfl | rfl | rfl
  · exact ⟨2, 2, rfl, rfl, by decide, by decide, rfl⟩
  · exact ⟨2, P.mode.toNat, by rw [Int.toNat_of_nonneg (by omega)]; rfl, rfl, by omega, by decide, rfl⟩
  · exact ⟨3, P.sub.toNat, by rw [Int.toNat_of_nonneg (by omega)]; rfl, rfl, by omega, by decide, rfl⟩
  · exact ⟨5, P.set.toNat, by rw [Int.toNat_of_nonneg (by omega)]; rfl, rfl, by omega, by decide, rfl⟩
  · exact ⟨2, lcode P.len, rfl, rfl, by omega, by decide, rfl⟩
  · exact ⟨6, P.ttl.toNat, by rw [Int.toNat_of_nonneg (by omega)]; rfl, rfl, by omega, by decide, rfl⟩
  · exact ⟨10, P.ent.toNat, by rw [Int.toNat_of_nonneg (by omega)]; rfl, rfl, by omega, by decide, rfl⟩
  · exact ⟨9, P.ing.toNat, by rw [Int.toNat_of_nonneg (by omega)]; rfl, rfl, by omega, by decide, rfl⟩
  · exact ⟨3, P.pro.toNat, by rw [Int.toNat_of_nonneg (by omega)]; rfl, rfl, by omega, by decide, rfl⟩
  · exact ⟨7, P.pay.size, rfl, rfl, by omega, by decide, rfl⟩
set_option maxRecDepth 100000 in
theorem pb_snoc (l : List Nat) (x : Nat) : pb (l ++ [x]) = pb l ++ nb x 8 := by
  unfold pb nb
  rw [show 8 * (l ++ [x]).length = 8 * l.length + 8 by rw [List.length_append]; simp; omega, List.range_add, List.map_append, List.map_map]
  congr 1
  · apply List.map_congr_left
    intro i hi
    have hi := List.mem_range.1 hi
    unfold bt
    rw [List.getD_eq_getElem?_getD, List.getD_eq_getElem?_getD, List.getElem?_append_left (by omega)]
  · apply List.map_congr_left
    intro i hi
    have hi := List.mem_range.1 hi
    show bt (l ++ [x]) (8 * l.length + i) = _
    unfold bt
    rw [show (8 * l.length + i) / 8 = l.length by omega, show (8 * l.length + i) % 8 = i by omega, List.getD_eq_getElem?_getD, List.getElem?_append_right (Nat.le_refl _)]
    simp
set_option maxRecDepth 100000 in
theorem byl_take (s : ByteArray) (m : Nat) (h : m < s.size) : (byl s).take (m + 1) = (byl s).take m ++ [s[m].toNat] := by
  have e : (byl s)[m]? = some (s[m].toNat) := by
    unfold byl
    have h2 : m < s.data.toList.length := by simpa using h
    rw [List.getElem?_map, List.getElem?_eq_getElem h2]
    rfl
  rw [List.take_add_one, e]; rfl
/-- What the reference's Encode returns: these bytes, or an error. -/
def REncPost (P : Pk) (w : World) (e : Ending) (w' : World) : Prop :=
  (vpk P = true ∧ ∃ p c, e = .returned (.tuple #[.slice p (enc P).length c, .int .i64 0]) ∧ Rd w' (fun _ => True) (.slice p (enc P).length c) ((enc P).map nv) ∧ (p = none → c = 0) ∧ w.grownBy w' none) ∨
  (vpk P = false ∧ e = .returned (.tuple #[.slice none 0 0, .int .i64 1]) ∧ w.grownBy w' none)
set_option maxRecDepth 100000 in
set_option maxHeartbeats 3200000 in
theorem rencode_any (P : Pk) (hP : P.Wf) (w : World) :
    Calls Tryd.prog 21 #[P.val] w fun e w' => REncPost P w e w' := by
  have hval : P.val = .agg #[.int .i64 P.mode, .int .i64 P.sub, .int .i64 P.set, .int .i64 P.len, .int .i64 P.ttl, .int .i64 P.ent, .int .i64 P.ing, .int .i64 P.pro, .int .u64 (P.bits : Int), .string P.pay] := rfl
  rw [hval]
  go_enter Tryd.func21, Tryd.ntmps21
  go_wp2_with fail
  obtain ⟨k1, k2⟩ := one_box w (pcells P) 31
  have HP := Lib.hid (And.intro k1 k2)
  clear k1 k2
  unfold pcells at HP
  generalize w.alloc _ = wa at *
  change Hid (wa.heap[w.heap.size]? = some (.cells (pcells P) 31 (0, 0)) ∧ w.grownBy wa none) at HP
  rw [← hval]
  refine (rvalid_any P hP _).mono ?_
  rintro e w1 ⟨rfl, hg⟩
  have HQ := Lib.hid (And.intro (kept_row HP.out.1 hg (by simp)) (grown_trans HP.out.2 hg))
  clear hg HP
  by_cases hv : vpk P = true
  · rw [hv]
    have HV := Lib.hid hv
    have HVL := Lib.hid (vb_vl (vpk_parts hv).2.2.2.2.2.2.2.2)
    have HPY := Lib.hid (vpk_parts hv).2.2.2.2.2.2.2.1
    clear hv
    obtain ⟨a0, a1, a2, a3, a4, a5, a6, a7, a8, a9⟩ := p_facts HQ.out.1
    have HQd := Lib.hid (kept_row HQ.out.1 (grown_drew (grown_refl _ none)) (by simp))
    go_wp2_with fail
    go_region_held3 (fun w' => w'.cell? ⟨w.heap.size, 0, none⟩ = some (.int .i64 P.mode) ∧ w'.cell? ⟨w.heap.size, 1, none⟩ = some (.int .i64 P.sub) ∧ w'.cell? ⟨w.heap.size, 2, none⟩ = some (.int .i64 P.set) ∧ w'.cell? ⟨w.heap.size, 3, none⟩ = some (.int .i64 P.len) ∧ w'.cell? ⟨w.heap.size, 4, none⟩ = some (.int .i64 P.ttl) ∧ w'.cell? ⟨w.heap.size, 5, none⟩ = some (.int .i64 P.ent) ∧ w'.cell? ⟨w.heap.size, 6, none⟩ = some (.int .i64 P.ing) ∧ w'.cell? ⟨w.heap.size, 7, none⟩ = some (.int .i64 P.pro) ∧ w'.cell? ⟨w.heap.size, 8, none⟩ = some (.int .u64 (P.bits : Int)) ∧ w'.cell? ⟨w.heap.size, 9, none⟩ = some (.string P.pay))
      (first | (with_reducible exact p_facts HQ.out.1) | (with_reducible exact p_facts HQd.out) | (with_reducible exact p_facts (kept_row HQd.out (World.grownBy_alloc _ _ none) (by simp))))
      ((go_at_call 44; refine (coder_any _ HVL.out _).mono ?_; rintro e w' ⟨rfl, rfl⟩))
    all_goals
      have q1 := grown_trans (World.grownBy_alloc w1 (.cells (rfc P) 3) none) (grown_drew (grown_refl (w1.alloc (.cells (rfc P) 3)) none))
      have q2 : (w1.alloc (.cells (rfc P) 3)).drew.heap[w1.heap.size]? = some (.cells (rfc P) 3 (0, 0)) := kept_row (heap_alloc_new w1 (.cells (rfc P) 3)) (grown_drew (grown_refl (w1.alloc (.cells (rfc P) 3)) none)) (by simp)
      have q3 := kept_row HQ.out.1 q1 (by simp)
      have q4 := grown_trans HQ.out.2 q1
      have hlt : w.heap.size < w1.heap.size := World.lt_of_row' HQ.out.1
      unfold rfc at q2 q3 q4
      clear a0 a1 a2 a3 a4 a5 a6 a7 a8 a9 HQd q1 HQ
      have HX := Lib.hid (And.intro q2 (And.intro q3 (And.intro q4 hlt)))
      clear q2 q3 q4 hlt
      go_upto_region 4 with fail
      generalize (w1.alloc _).drew = w2 at *
      go_wp2_with fail
      refine (widths_any w2).mono ?_
      rintro e w3 ⟨rfl, rfl⟩
      obtain ⟨t1, t2, t3, t4⟩ := two_boxes w2 wcells #[.slice none 0 0, .int .i64 0] 3 74
      have HE0 : Hid (ER w P w1.heap.size w2.heap.size (w2.heap.size + 1) [] none 0 ((w2.alloc (.cells wcells 3)).alloc (.cells #[.slice none 0 0, .int .i64 0] 74))) := by
        have h2 := World.lt_of_row' HX.out.1
        have h3 := HX.out.2.2.2
        exact Lib.hid ⟨kept_row HX.out.2.1 t3 (by simp), kept_row HX.out.1 t3 (by simp), t1, t2, Rd.nil_ _ _ _ _, fun _ => rfl, ⟨by omega, by omega, by omega⟩, grown_trans HX.out.2.2.1 t3⟩
      clear t1 t2 t3 t4 HX
      go_upto_region 6 with fail
      generalize (w2.alloc _).alloc _ = w4 at *
      obtain ⟨S, hS⟩ : ∃ S, S = w2.heap.size + 1 := ⟨_, rfl⟩
      rw [← hS] at HE0 ⊢
      generalize w2.heap.size = D at *
      generalize w1.heap.size = F at *
      clear hS
      go_wp2_with fail
      go_loopw [7] (fun i wr => ∃ k : Nat, k ≤ 10 ∧ i = .int .i64 (k : Int) ∧ ∃ p c, Hid (ER w P F D S (flb ((fl P).take k)) p c wr)) (fun i _ => (10 - (intOf i).toNat))
      case atStart => exact ⟨0, Nat.zero_le _, rfl, none, 0, HE0⟩
      case round =>
        obtain ⟨k, hk, rfl, p, c, hR⟩ := hrel
        clear HE0
        by_cases hk2 : k < 10
        · obtain ⟨wd, x, hc1, hc2, hx, hwd, hfl⟩ := rfield_at HV.out k hk2
          have d1 := (cell_of_row _ _ k _ _ _ hR.out.fb).trans hc1
          have d2 := (cell_of_row _ _ k _ _ _ hR.out.db).trans hc2
          obtain ⟨s0, s1, _, _⟩ := hR.out.facts
          have hle := flb_take_le P k
          have hsn := flb_snoc hfl
          generalize flb ((fl P).take k) = B at *
          obtain ⟨B2, hB2⟩ : ∃ B2, B2 = flb ((fl P).take (k + 1)) := ⟨_, rfl⟩
          rw [← hB2] at hsn
          have HB2 := Lib.hid hB2
          have HX : Hid (IntKind.u64.wrap (x : Int) = (x : Int)) := Lib.hid (by have : x < 2 ^ 10 := Nat.lt_of_lt_of_le hx (Nat.pow_le_pow_right (by decide) hwd); rw [IntKind.wrap_u64]; omega)
          have hA := append_bitsr (B := B) (v := x) (k := wd) (Nat.le_trans hwd (by decide)) hx (by omega) hR.out.pc (hR.out.rd.keep (grown_drew (grown_refl wr none)))
          rw [← hsn] at hA
          have HA := Lib.hid hA
          have HR := hR
          have k0 : (0 : Int) ≤ (k : Int) := by omega
          have k10 : (k : Int) < 10 := by omega
          clear hB2 hfl hc1 hc2 hsn hA hR hle hx hwd
          go_wp2_with fail
          go_region_law (first
            | (go_simp; go_at_call 46; (try simp only [HX.out]); refine HA.out.mono ?_; rintro e w7 ⟨p2, c2, rfl, hR2, hp2, hg7⟩; have H7 := Lib.hid ((HR.out.keep (grown_drew (grown_refl _ none))).keep hg7); have R7 := Lib.hid (And.intro hR2 hp2); obtain ⟨t0, t1, z0, z1⟩ := H7.out.facts; clear hR2 hp2 hg7))
          all_goals
            have HK : Hid (ER w P F D S B2 p2 c2 ((w7.setCell ⟨S, 0, none⟩ (.slice p2 (pk B2).length c2)).setCell ⟨S, 1, none⟩ (.int .i64 (B2.length : Int)))) := Lib.hid (H7.out.turn R7.out.1 R7.out.2)
            clear t0 t1 z0 z1 s0 s1 d1 d2 H7 R7 HA HR
            generalize (w7.setCell ⟨S, 0, none⟩ (.slice p2 (pk B2).length c2)).setCell ⟨S, 1, none⟩ (.int .i64 (B2.length : Int)) = w8 at *
            go_wp2_with fail
            go_roundw
            case rel => exact ⟨k + 1, by omega, by go_num, p2, c2, by rw [← HB2.out]; exact HK⟩
            case measure => simp [intOf]; omega
        · obtain rfl : k = 10 := by omega
          rw [show (fl P).take 10 = fl P from rfl] at hR
          have HL49 := Lib.hid (hdr_len P)
          have hvb := (vpk_parts HV.out).2.2.2.2.2.2.2.2
          have HLN : Hid (0 ≤ P.len ∧ P.len.toNat ≤ 64) := Lib.hid (by rcases vl_cases (vb_vl hvb) with h | h | h | h <;> rw [h] <;> decide)
          have HBL := Lib.hid (vb_lt hvb hP.bits)
          obtain ⟨B0, hB0⟩ : ∃ B, B = flb (fl P) := ⟨_, rfl⟩
          rw [← hB0] at hR HL49
          obtain ⟨B1, hB1⟩ : ∃ B, B = B0 ++ nb P.bits P.len.toNat := ⟨_, rfl⟩
          have hA := append_bitsr (B := B0) (v := P.bits) (k := P.len.toNat) HLN.out.2 HBL.out (by have := HLN.out.2; have := HL49.out; omega) hR.out.pc hR.out.rd
          rw [Int.toNat_of_nonneg HLN.out.1, ← hB1] at hA
          have HB0 := Lib.hid hB0
          have HB1 := Lib.hid hB1
          have HA := Lib.hid hA
          have HR := hR
          obtain ⟨s0, s1, _, _⟩ := hR.out.facts
          obtain ⟨a0, a1, a2, a3, a4, a5, a6, a7, a8, a9⟩ := p_facts HR.out.pb
          clear hB0 hB1 hA hR hk hk2 hvb
          go_wp2_with fail
          refine HA.out.mono ?_
          rintro e w5 ⟨p2, c2, rfl, hR2, hp2, hg⟩
          have H5 := Lib.hid (HR.out.keep hg)
          have H6 := Lib.hid (H5.out.turn hR2 hp2)
          clear s0 s1 a0 a1 a2 a3 a4 a5 a6 a7 a8 a9
          obtain ⟨r0, r1, z0, z1⟩ := H5.out.facts
          clear HA hR2 hp2 hg H5 HR
          go_upto_region 11 with fail
          generalize (w5.setCell ⟨S, 0, none⟩ (.slice p2 (pk B1).length c2)).setCell ⟨S, 1, none⟩ (.int .i64 (B1.length : Int)) = w6 at *
          clear r0 r1 z0 z1
          have HL1 : Hid (B1.length ≤ 113) := Lib.hid (by rw [HB1.out, List.length_append, nb_len]; have := HLN.out.2; have := HL49.out; omega)
          go_wp2_with fail
          go_loopw [8] (fun i wr => ∃ m : Nat, m ≤ P.pay.size ∧ i = .int .i64 (m : Int) ∧ ∃ p c, Hid (ER w P F D S (B1 ++ pb ((byl P.pay).take m)) p c wr)) (fun i _ => (P.pay.size - (intOf i).toNat))
          case atStart => exact ⟨0, Nat.zero_le _, rfl, p2, c2, by rw [show B1 ++ pb ((byl P.pay).take 0) = B1 by simp [pb]]; exact H6⟩
          case round =>
            obtain ⟨m, hm, rfl, p, c, hR⟩ := hrel
            clear H6
            by_cases hm2 : m < P.pay.size
            · obtain ⟨s0, s1, _, _⟩ := hR.out.facts
              have a9 := (p_facts hR.out.pb).2.2.2.2.2.2.2.2.2
              have m0 : (0 : Int) ≤ (m : Int) := by omega
              have m64 : m < 64 := Nat.lt_of_lt_of_le hm2 HPY.out
              have m1 : (m : Int) < (P.pay.size : Int) := by omega
              have hsn : B1 ++ pb ((byl P.pay).take (m + 1)) = (B1 ++ pb ((byl P.pay).take m)) ++ nb (P.pay[m].toNat) 8 := by rw [byl_take _ _ hm2, pb_snoc, List.append_assoc]
              have hle : (B1 ++ pb ((byl P.pay).take m)).length ≤ 625 := by
                have := HL1.out
                have := HPY.out
                rw [List.length_append, pb_len, List.length_take]
                omega
              obtain ⟨y, hy⟩ : ∃ y : Nat, P.pay[m].toNat = y := ⟨_, rfl⟩
              have hy8 : y < 2 ^ 8 := by rw [← hy]; exact P.pay[m].toNat_lt
              rw [hy] at hsn
              have HX : Hid (IntKind.u64.wrap ((P.pay[m].toNat : Nat) : Int) = (y : Int)) := Lib.hid (by rw [hy, IntKind.wrap_u64]; omega)
              generalize B1 ++ pb ((byl P.pay).take m) = B at *
              obtain ⟨B2, hB2⟩ : ∃ B2, B2 = B1 ++ pb ((byl P.pay).take (m + 1)) := ⟨_, rfl⟩
              rw [← hB2] at hsn
              have HB2 := Lib.hid hB2
              have hA := append_bitsr (B := B) (v := y) (k := 8) (by decide) hy8 (by omega) hR.out.pc (hR.out.rd.keep (grown_drew (grown_refl wr none)))
              rw [← hsn] at hA
              have HA := Lib.hid hA
              have HR := hR
              clear hB2 hsn hA hR hle hy8 hy
              go_wp2_with fail
              go_region_law (first
                | (go_simp; go_at_call 46; (try simp only [HX.out]); refine HA.out.mono ?_; rintro e w7 ⟨p2, c2, rfl, hR2, hp2, hg7⟩; have H7 := Lib.hid ((HR.out.keep (grown_drew (grown_refl _ none))).keep hg7); have R7 := Lib.hid (And.intro hR2 hp2); obtain ⟨t0, t1, z0, z1⟩ := H7.out.facts; clear hR2 hp2 hg7))
              all_goals
                have HK : Hid (ER w P F D S B2 p2 c2 ((w7.setCell ⟨S, 0, none⟩ (.slice p2 (pk B2).length c2)).setCell ⟨S, 1, none⟩ (.int .i64 (B2.length : Int)))) := Lib.hid (H7.out.turn R7.out.1 R7.out.2)
                clear t0 t1 z0 z1 s0 s1 a9 H7 R7 HA HR
                generalize (w7.setCell ⟨S, 0, none⟩ (.slice p2 (pk B2).length c2)).setCell ⟨S, 1, none⟩ (.int .i64 (B2.length : Int)) = w8 at *
                go_wp2_with fail
                go_roundw
                case rel => exact ⟨m + 1, by omega, by go_num, p2, c2, by rw [← HB2.out]; exact HK⟩
                case measure => simp [intOf]; omega
            · obtain rfl : m = P.pay.size := by omega
              obtain ⟨B3, hB3⟩ : ∃ B, B = B1 ++ pb (byl P.pay) := ⟨_, rfl⟩
              have HB3 := Lib.hid hB3
              rw [List.take_of_length_le (by rw [byl_len]; exact Nat.le_refl _), ← hB3] at hR
              have HL3 : Hid (B3.length ≤ 625) := Lib.hid (by rw [HB3.out, List.length_append, pb_len, byl_len]; have := HL1.out; have := HPY.out; omega)
              have H9 := hR
              have a9 := (p_facts H9.out.pb).2.2.2.2.2.2.2.2.2
              obtain ⟨s0, s1, _, _⟩ := H9.out.facts
              clear hB3 hR hm2 hm
              go_wp2_with fail
              refine (check_bitsr (by have := HL3.out; omega) H9.out.pc H9.out.rd).mono ?_
              rintro e wa2 ⟨rfl, hg⟩
              have H10 := Lib.hid (H9.out.keep hg)
              clear s0 s1 hg H9 a9
              obtain ⟨s0, s1, z0, z1⟩ := H10.out.facts
              have hA2 := append_bitsr (B := B3) (v := ck B3) (k := 16) (by decide) (chk_lt _ _) (by have := HL3.out; omega) H10.out.pc H10.out.rd
              obtain ⟨B4, hB4⟩ : ∃ B, B = B3 ++ nb (ck B3) 16 := ⟨_, rfl⟩
              rw [← hB4] at hA2
              have HB4 := Lib.hid hB4
              have HA2 := Lib.hid hA2
              have HL4 : Hid (B4.length ≤ 641) := Lib.hid (by rw [hB4, List.length_append, nb_len]; have := HL3.out; omega)
              clear hB4 hA2
              go_wp2_with fail
              refine HA2.out.mono ?_
              rintro e wb ⟨p4, c4, rfl, hR4, hp4, hg⟩
              have H11 := Lib.hid (H10.out.keep hg)
              have H12 := Lib.hid (H11.out.turn hR4 hp4)
              clear s0 s1 z0 z1
              obtain ⟨r0, r1, z0, z1⟩ := H11.out.facts
              clear hR4 hp4 hg H10 H11 HA2
              go_upto_region 17 with fail
              generalize (wb.setCell ⟨S, 0, none⟩ (.slice p4 (pk B4).length c4)).setCell ⟨S, 1, none⟩ (.int .i64 (B4.length : Int)) = wd at *
              obtain ⟨s0, s1, _, _⟩ := H12.out.facts
              clear r0 r1 z0 z1
              go_wp2_with fail
              refine (align_bitsr (by have := HL4.out; omega) H12.out.pc H12.out.rd).mono ?_
              rintro e we ⟨p5, c5, rfl, hR5, hp5, hg⟩
              have H13 := Lib.hid (H12.out.keep hg)
              clear s0 s1
              obtain ⟨r0, r1, z0, z1⟩ := H13.out.facts
              have HR5 := Lib.hid (And.intro (rd_off hR5 H13.out.sb) hp5)
              clear hR5 hp5 hg H12
              go_wp2_with fail
              have hE : enc P = pk B4 := by unfold enc body; rw [← HB0.out, ← HB1.out, ← HB3.out, ← HB4.out]
              go_ret2
              refine .inl ⟨HV.out, p5, c5, by rw [hE]; rfl, ?_, HR5.out.2, ?_⟩
              · rw [hE]; exact (HR5.out.1.grown (grown_store2 we S _ _) (fun b hb e => hb.1 (Option.some.inj e))).mono (fun _ _ => trivial)
              · exact grown_new H13.out.gr (grown_store2 we S _ _) (by have := H13.out.ne; omega)
  · have hf : vpk P = false := by simpa using hv
    have HF := Lib.hid hf
    rw [hf]
    clear hf hv
    go_wp2_with fail
    go_ret2
    exact .inr ⟨HF.out, rfl, HQ.out.2⟩
end Go.Proofs.YtpabfjhjehjebaaDoor

/- What the reference's Append gives lies in memory of the call's own. -/
namespace Go.Proofs.YtpabfjhjehjebaaDoor
open Go.RowKit Bs
def PutsOwn (f : Nat → Bool) (W : World) (b r N j : Nat) (w' : World) : Prop := ∃ p c, BoxAt W b r p c (pz f (N + j) ((N + j + 7) / 8)) ((N + j : Nat) : Int) w' ∧ (1 ≤ j → Own w' (W.heap.size + 2) p c (pz f (N + j) ((N + j + 7) / 8)))
theorem PutsOwn.open_ {f : Nat → Bool} {W w' : World} {b r N j : Nat} (h : PutsOwn f W b r N j w') : ∃ p c l, Hid (l = pz f (N + j) ((N + j + 7) / 8)) ∧ BoxAt W b r p c l ((N + j : Nat) : Int) w' ∧ (1 ≤ j → Own w' (W.heap.size + 2) p c l) := by
  obtain ⟨p, c, h, h2⟩ := h
  exact ⟨p, c, _, Lib.hid rfl, h, h2⟩
theorem puts_own_next {f : Nat → Bool} {W w2 : World} {b r N j m base : Nat} {p p' : Option Addr} {c c' : Nat} {l l' : List Nat} {n : Int} (h : Hid (BoxAt W b r p c l n w2)) (hm : N + j = m) (hl : l' = pz f (m + 1) ((m + 8) / 8)) (o : Own w2 base p' c' l')
    (hb : W.heap.size ≤ b) (hbr : b ≠ r) (hb2 : b < base) (hr2 : r < base) (hW : W.heap.size + 2 ≤ base) :
    Hid (PutsOwn f W b r N (j + 1) ((w2.setCell ⟨b, 0, none⟩ (.slice p' l'.length c')).setCell ⟨b, 1, none⟩ (.int .i64 ((m : Int) + 1)))) := by
  subst hm
  subst hl
  exact Lib.hid ⟨p', c', h.out.store o hb hbr hb2 hr2, fun _ => (o.other (grown_store2 w2 b _ _) hb2).mono hW⟩
set_option maxRecDepth 100000 in
set_option maxHeartbeats 3200000 in
theorem appendo_any (l : List Nat) (N : Nat) (v K : Nat) (q : Nat → Prop) (p : Option Addr) (c : Nat) (hl : By l) (hv64 : U64 v) (hpc : p = none → c = 0) (hv : vs l (N : Int) = true) (hk1 : 1 ≤ K) (h : K < 64) (h3 : ¬ 2 ^ K ≤ v) (h4 : ¬ 8192 < N + K) (w : World) (hq : ∀ b, q b → b < w.heap.size) (hR : Rd w q (.slice p l.length c) (l.map nv)) :
    Calls Tryd.prog 46 #[.agg #[.slice p l.length c, .int .i64 (N : Int)], .int .u64 (v : Int), .int .i64 (K : Int)] w fun e w' =>
      ∃ p2 c2, e = .returned (.tuple #[.agg #[.slice p2 (apV l (N : Int) v (K : Int)).1.length c2, .int .i64 (apV l (N : Int) v (K : Int)).2.1], .int .i64 0]) ∧ Own w' (w.heap.size + 2) p2 c2 (apV l (N : Int) v (K : Int)).1 ∧ w.grownBy w' none := by
  have HVS := Lib.hid hv
  clear hv
  obtain ⟨k1, k2, k3, k4⟩ := two_boxes w #[.slice p l.length c, .int .i64 (N : Int)] #[.slice none 0 0, .int .i64 0] 74 74
  have hR1 := hR.keep k3
  have H0 := Lib.hid (show BoxAt w w.heap.size (w.heap.size + 1) p c l (N : Int) _ from ⟨k1, k2, hR1.mono fun x hx => by have := hq x hx; exact ⟨by omega, by omega⟩, hpc, hl, k3⟩)
  have hq1 : ∀ b, q b → b < ((w.alloc (.cells #[.slice p l.length c, .int .i64 (N : Int)] 74)).alloc (.cells #[.slice none 0 0, .int .i64 0] 74)).heap.size := fun b hb => Nat.lt_of_lt_of_le (hq b hb) k3.size
  have HSZ : Hid (w.heap.size + 2 ≤ ((w.alloc (.cells #[.slice p l.length c, .int .i64 (N : Int)] 74)).alloc (.cells #[.slice none 0 0, .int .i64 0] 74)).heap.size) := Lib.hid (Nat.le_of_eq k4.symm)
  clear k1 k2 k3 k4 hR
  go_enter Tryd.func46, Tryd.ntmps46
  go_wp2_with fail
  generalize (w.alloc (.cells #[.slice p l.length c, .int .i64 (N : Int)] 74)).alloc (.cells #[.slice none 0 0, .int .i64 0] 74) = w1 at *
  refine (validr_any l (N : Int) q p c hl _ hq1 hR1).mono ?_
  rintro e w2 ⟨rfl, hg⟩
  have HB := Lib.hid (H0.out.keep hg)
  have HSZ2 : Hid (w.heap.size + 2 ≤ w2.heap.size) := Lib.hid (Nat.le_trans HSZ.out hg.size)
  obtain ⟨c0, c1, f0, f1, r0, r1, g0, g1⟩ := HB.out.limbs
  clear hg hR1 H0 hq1 HSZ
  have hv := HVS.out
  obtain ⟨hN, hlen⟩ := vs_bits hv
  have hw : vw (K : Int) = true := by unfold vw; simp; omega
  have hK : K ≤ 64 := by omega
  rw [hv]
  have hz : (v : Int) / 2 ^ K = 0 := by
    rw [shrW, Nat.div_eq_of_lt (by omega)]; rfl
  have HL : Hid (l = pz (apf l N v K) N ((N + 7) / 8)) := by
    have e := pz_copy (M := l.length) hl hv (Nat.le_refl _) (apf_low (v := v) (K := K))
    rw [hlen] at e
    refine Lib.hid ?_
    rw [← e]; simp [hlen]
  have V := Lib.hid (apV_ok hv hw h3 h4)
  have h4' : ¬ (8192 : Int) < (N : Int) + (K : Int) := by omega
  have P0 : Hid (PutsOwn (apf l N v K) w w.heap.size (w.heap.size + 1) N 0 w2) := by
    refine Lib.hid ⟨p, c, ?_, fun h => by omega⟩
    show BoxAt w w.heap.size (w.heap.size + 1) p c (pz (apf l N v K) N ((N + 7) / 8)) (N : Int) w2
    rw [← HL.out]
    exact HB.out
  have dk1 : decide ((K : Int) < 0) = false := by simp
  have dk2 : decide (64 < (K : Int)) = false := by simp; omega
  clear hv hlen hw HL
  go_wp2_with fail
  go_loopw [8] (fun i wr => ∃ j : Nat, j ≤ K ∧ i = .int .i64 ((K : Int) - 1 - (j : Int)) ∧ PutsOwn (apf l N v K) w w.heap.size (w.heap.size + 1) N j wr ∧ w.heap.size + 2 ≤ wr.heap.size) (fun i _ => (intOf i + 1).toNat)
  case atStart => exact ⟨0, Nat.zero_le _, by simp, P0.out, HSZ2.out⟩
  case round =>
    obtain ⟨j, hj, rfl, hP, hsz⟩ := hrel
    obtain ⟨p1, c1, l1, HL1, hB1, hO1⟩ := hP.open_
    have HB1 := Lib.hid hB1
    have HO1 := Lib.hid hO1
    have HZ := Lib.hid hsz
    clear hP hB1 P0 hsz hO1
    by_cases hlt : j < K
    · obtain ⟨i, hi⟩ : ∃ i : Nat, i = K - 1 - j := ⟨_, rfl⟩
      have hii : (K : Int) - 1 - (j : Int) = (i : Int) := by omega
      have hi64 : i < 64 := by omega
      obtain ⟨m, hm⟩ : ∃ m : Nat, N + j = m := ⟨_, rfl⟩
      have hbit : bits .and .u64 ((v : Int) / 2 ^ i) 1 = (((apf l N v K m).toNat : Nat) : Int) := by
        rw [and_one v i hv64, ← hm, apf_high j hlt, hi]
      have hbl := Bool.toNat_le (apf l N v K m)
      have C : ∀ (l1 : List Nat) (p1 : Option Addr) (c1 : Nat), l1 = pz (apf l N v K) m ((m + 7) / 8) → (p1 = none → c1 = 0) → Rd wr (fun x => x ≠ w.heap.size ∧ x ≠ w.heap.size + 1) (.slice p1 l1.length c1) (l1.map nv) → Calls Tryd.prog 77 #[.agg #[.slice p1 l1.length c1, .int .i64 (m : Int)], .int .u64 (((apf l N v K m).toNat : Nat) : Int)] wr fun e w' => StreamPost (pz (apf l N v K) (m + 1) ((m + 8) / 8)) ((m + 1 : Nat) : Int) wr e w' :=
        fun l1 p1 c1 h1 h2 h3 => put_any (apf l N v K) m l1 _ p1 c1 (by omega) h1 h2 wr h3
      rw [hm] at HL1 HB1
      clear HO1
      have H1 := Lib.hid (C l1 p1 c1 HL1.out HB1.out.pc HB1.out.rd)
      obtain ⟨c0, c2, f0, f1, r0, r1, g0, g1⟩ := HB1.out.limbs
      have HI := Lib.hid hi
      have HM := Lib.hid hm
      have hm9 : m ≤ 8192 := by omega
      clear C hi hm
      generalize (apf l N v K m).toNat = bb at *
      rw [hii]
      have HII := Lib.hid hii
      clear hii
      go_wp2_with fail
      refine H1.out.mono ?_
      rintro e w3 ⟨p3, c3, rfl, hown3, hg3⟩
      have hm8 : m / 8 + 1 = (m + 8) / 8 := by omega
      obtain ⟨l3, hl3⟩ : ∃ l3, l3 = pz (apf l N v K) (m + 1) ((m + 8) / 8) := ⟨_, rfl⟩
      rw [← hl3] at hown3
      rw [← hl3]
      have HB3 := Lib.hid (HB1.out.keep hg3)
      have R := puts_own_next (f := apf l N v K) (N := N) (j := j) HB3 HM.out hl3 hown3 (by omega) (by omega) (by have := HZ.out; omega) (by have := HZ.out; omega) HZ.out
      have R2 := Nat.le_trans HZ.out hg3.size
      have R3 := Lib.hid R2
      obtain ⟨c0, c2, f0, f1, r0, r1, g0, g1⟩ := HB3.out.limbs
      clear hown3 hg3 hm8 hl3 R2
      go_wp2_with fail
      go_roundw
      case rel => exact ⟨j + 1, by omega, by congr 1; have := HI.out; omega, R.out, by simpa using R3.out⟩
      case measure => have := HI.out; simp [intOf] <;> omega
    · obtain rfl : j = K := by omega
      obtain ⟨c0, c2, f0, f1, r0, r1, g0, g1⟩ := HB1.out.limbs
      have F := Lib.hid (HB1.out.fin (V := apV l (N : Int) v (j : Int)) (by rw [V.out, HL1.out]) (by omega))
      have hoo := ((HO1.out hk1).other (grown_store2 wr (w.heap.size + 1) (.slice p1 l1.length c1) (.int .i64 ((N + j : Nat) : Int))) (by omega))
      have HOO := Lib.hid hoo
      have HLL : Hid (l1 = (apV l (N : Int) v (j : Int)).1) := Lib.hid (by rw [V.out, HL1.out])
      have HGG := Lib.hid (grown_new HB1.out.gr (grown_store2 wr (w.heap.size + 1) (.slice p1 l1.length c1) (.int .i64 ((N + j : Nat) : Int))) (by omega))
      have HNN : Hid (((N + j : Nat) : Int) = (apV l (N : Int) v (j : Int)).2.1) := Lib.hid (by rw [V.out])
      clear HB1 HO1 hoo
      go_wp2_with fail
      refine bodyPost_ret (res_stream_err rfl _ _ (w.heap.size + 1) _ _ rfl F.out.1) rfl ?_
      refine ⟨p1, c1, ?_, ?_, HGG.out⟩
      · rw [← HLL.out, ← HNN.out]; rfl
      · rw [← HLL.out]; exact HOO.out

end Go.Proofs.YtpabfjhjehjebaaDoor

/- What the reference's Align gives back, where its argument lies in memory of the call's own. -/
namespace Go.Proofs.YtpabfjhjehjebaaDoor
open Go.RowKit Bs
/-- The bytes lie outside the two boxes. -/
def NB (W : World) (p : Option Addr) (n c : Nat) : Prop := ∀ x, (Value.slice p n c).ownBlock = some x → x ≠ W.heap.size ∧ x ≠ W.heap.size + 1
theorem own_nb {w : World} {base c : Nat} {p : Option Addr} {l : List Nat} (h : Own w base p c l) : NB w p l.length c := fun x hx => by have := (h.own.lt x hx).2; omega
theorem Own.apart {w w' : World} {base b c : Nat} {p : Option Addr} {l : List Nat} (h : Own w base p c l) (g : w.grownBy w' (some b)) (hne : (Value.slice p l.length c).ownBlock ≠ some b) : Own w' base p c l := ⟨h.own.kept g (.inr hne), h.pc, h.by_⟩
def AlOwn (f : Nat → Bool) (W : World) (base0 N j : Nat) (w' : World) : Prop := ∃ p c, BoxAt W W.heap.size (W.heap.size + 1) p c (pz f (N + j) ((N + j + 7) / 8)) ((N + j : Nat) : Int) w' ∧ Own w' base0 p c (pz f (N + j) ((N + j + 7) / 8)) ∧ NB W p (pz f (N + j) ((N + j + 7) / 8)).length c
theorem AlOwn.open_ {f : Nat → Bool} {W w' : World} {base0 N j : Nat} (h : AlOwn f W base0 N j w') : ∃ p c l, Hid (l = pz f (N + j) ((N + j + 7) / 8)) ∧ BoxAt W W.heap.size (W.heap.size + 1) p c l ((N + j : Nat) : Int) w' ∧ Own w' base0 p c l ∧ NB W p l.length c := by
  obtain ⟨p, c, h, h2, h3⟩ := h
  exact ⟨p, c, _, Lib.hid rfl, h, h2, h3⟩
theorem al_next {f : Nat → Bool} {W w2 : World} {base0 N j m base : Nat} {p p' : Option Addr} {c c' : Nat} {l l' : List Nat} {n : Int} (h : Hid (BoxAt W W.heap.size (W.heap.size + 1) p c l n w2)) (hm : N + j = m) (hl : l' = pz f (m + 1) ((m + 8) / 8)) (o : Own w2 base p' c' l')
    (hW : W.heap.size + 2 ≤ base) (hb0 : base0 ≤ W.heap.size) :
    Hid (AlOwn f W base0 N (j + 1) ((w2.setCell ⟨W.heap.size, 0, none⟩ (.slice p' l'.length c')).setCell ⟨W.heap.size, 1, none⟩ (.int .i64 ((m : Int) + 1)))) := by
  subst hm
  subst hl
  exact Lib.hid ⟨p', c', h.out.store o (Nat.le_refl _) (by omega) (by omega) (by omega), (o.other (grown_store2 w2 W.heap.size _ _) (by omega)).mono (by omega), fun x hx => by have := (o.own.lt x hx).1; omega⟩
set_option maxRecDepth 100000 in
set_option maxHeartbeats 3200000 in
theorem aligno_any (l : List Nat) (N : Nat) (q : Nat → Prop) (p : Option Addr) (c base0 : Nat) (hl : By l) (hpc : p = none → c = 0) (hv : vs l (N : Int) = true) (w : World) (hb0 : base0 ≤ w.heap.size) (ho : Own w base0 p c l) (hq : ∀ b, q b → b < w.heap.size) (hR : Rd w q (.slice p l.length c) (l.map nv)) :
    Calls Tryd.prog 48 #[.agg #[.slice p l.length c, .int .i64 (N : Int)]] w fun e w' =>
      ∃ p2 c2, e = .returned (.tuple #[.agg #[.slice p2 l.length c2, .int .i64 ((8 * l.length : Nat) : Int)], .int .i64 0]) ∧ Own w' base0 p2 c2 l ∧ w.grownBy w' none := by
  obtain ⟨k1, k2, k3, k4⟩ := two_boxes w #[.slice p l.length c, .int .i64 (N : Int)] #[.slice none 0 0, .int .i64 0] 74 74
  have hR1 := hR.keep k3
  have HOI := Lib.hid (And.intro (ho.keep k3) (own_nb ho))
  have HVS := Lib.hid hv
  clear hv ho
  have H0 := Lib.hid (show BoxAt w w.heap.size (w.heap.size + 1) p c l (N : Int) _ from ⟨k1, k2, hR1.mono fun x hx => by have := hq x hx; exact ⟨by omega, by omega⟩, hpc, hl, k3⟩)
  have HZ0 := Lib.hid k4
  have hq1 : ∀ b, q b → b < ((w.alloc (.cells #[.slice p l.length c, .int .i64 (N : Int)] 74)).alloc (.cells #[.slice none 0 0, .int .i64 0] 74)).heap.size := fun b hb => Nat.lt_of_lt_of_le (hq b hb) k3.size
  clear k1 k2 k3 k4 hR
  go_enter Tryd.func48, Tryd.ntmps48
  go_wp2_with fail
  generalize (w.alloc (.cells #[.slice p l.length c, .int .i64 (N : Int)] 74)).alloc (.cells #[.slice none 0 0, .int .i64 0] 74) = w1 at *
  refine (validr_any l (N : Int) q p c hl _ hq1 hR1).mono ?_
  rintro e w2 ⟨rfl, hg⟩
  have hg' := hg
  have HB := Lib.hid (H0.out.keep hg)
  have HSZ2 : Hid (w.heap.size + 2 ≤ w2.heap.size) := Lib.hid (by rw [← HZ0.out]; exact hg.size)
  clear hg hR1 H0 hq1 HZ0
  obtain ⟨c0, c1, f0, f1, r0, r1, g0, g1⟩ := HB.out.limbs
  have HO2 := Lib.hid (And.intro (HOI.out.1.keep hg') HOI.out.2)
  clear HOI hg'
  have hv := HVS.out
  have V := Lib.hid (alV_ok hv)
  obtain ⟨hN, hlen⟩ := vs_bits hv
  rw [hv]
  have P0 : Hid (AlOwn (bt l) w base0 N 0 w2) := by
    refine Lib.hid ⟨p, c, ?_⟩
    show BoxAt w w.heap.size (w.heap.size + 1) p c (pz (bt l) N ((N + 7) / 8)) (N : Int) w2 ∧ Own w2 base0 p c (pz (bt l) N ((N + 7) / 8)) ∧ NB w p (pz (bt l) N ((N + 7) / 8)).length c
    rw [← pz_valid hl hv fun _ _ => rfl]
    exact ⟨HB.out, HO2.out.1, HO2.out.2⟩
  have HV := Lib.hid hv
  have HL := Lib.hid hlen
  clear hv hlen HB f0 f1 r0 r1 g0 g1 c0 c1
  go_wp2_with fail
  go_loopg [] (8 * l.length - N) (fun g wr => ∃ j : Nat, N + j + g = 8 * l.length ∧ AlOwn (bt l) w base0 N j wr ∧ w.heap.size + 2 ≤ wr.heap.size)
  case atStart => exact ⟨0, by have := HL.out; omega, P0.out, HSZ2.out⟩
  case round =>
    obtain ⟨j, hjg, hP, hsz⟩ := hrel
    obtain ⟨p1, c1, l1, HL1, hB1, hO1, hN1⟩ := hP.open_
    have HZ := Lib.hid hsz
    have HJG := Lib.hid hjg
    obtain ⟨m, hm⟩ : ∃ m : Nat, N + j = m := ⟨_, rfl⟩
    rw [hm] at HL1 hB1
    have HO1 := Lib.hid (And.intro hO1 hN1)
    clear hO1 hN1
    have HB1 := Lib.hid hB1
    have hm8 : m ≤ 8 * l.length := by omega
    have hll : l.length ≤ 1025 := by have := HL.out; omega
    obtain ⟨b0, b1, f0, f1, r0, r1, g0, g1⟩ := HB1.out.limbs
    clear hP hB1 P0 hsz
    cases gk with
    | zero =>
      have hz8 : (m : Int) % 8 = 0 := by omega
      have hml : m = 8 * l.length := by omega
      have hl1 : l1 = l := by
        rw [HL1.out, hml, show (8 * l.length + 7) / 8 = l.length by omega]
        exact (pz_bt l (8 * l.length) hl fun i h1 h2 => by omega).symm
      have F := Lib.hid (HB1.out.fin (V := alV l (N : Int)) (by rw [V.out, hl1, hml]) (by omega))
      have gst := grown_store2 wr (w.heap.size + 1) (.slice p1 l1.length c1) (.int .i64 (m : Int))
      have HOO := Lib.hid (Own.apart HO1.out.1 gst (fun e => (HO1.out.2 _ e).2 rfl))
      have HGG := Lib.hid (grown_new HB1.out.gr gst (by omega))
      have HL1e := Lib.hid hl1
      have HMl := Lib.hid hml
      clear HB1 hm hml hl1 hjg gst HO1
      go_wp2_with fail
      refine bodyPost_ret (res_stream_err rfl _ _ (w.heap.size + 1) _ _ rfl F.out.1) rfl ?_
      refine ⟨p1, c1, ?_, ?_, HGG.out⟩
      · rw [← HL1e.out, HMl.out]; rw [HL1e.out]; rfl
      · have := HOO.out
        rw [HL1e.out] at this ⊢
        exact this
    | succ g =>
      have hz8 : ¬ ((m : Int) % 8 = 0) := by have := HL.out; omega
      have hfm : bt l m = false := (vs_iff.1 HV.out).2.2 m (by omega) (by omega)
      have C2 := put_val (f := bt l) (m := m) (x := .int .u64 0) (by rw [bw_false hfm]) l1 _ p1 c1 (by omega) HL1.out HB1.out.pc wr HB1.out.rd
      obtain ⟨l3, hl3⟩ : ∃ l3, l3 = pz (bt l) (m + 1) ((m + 8) / 8) := ⟨_, rfl⟩
      rw [← hl3] at C2
      have H2 := Lib.hid C2
      have HL3 := Lib.hid hl3
      have HM := Lib.hid hm
      have hm9 : m ≤ 9000 := by omega
      clear C2 hl3 hm hfm hjg
      go_wp2_with fail
      refine H2.out.mono ?_
      rintro e w3 ⟨p3, c3, rfl, hown3, hg3⟩
      have HB3 := Lib.hid (HB1.out.keep hg3)
      have R := al_next (f := bt l) (N := N) (j := j) (base0 := base0) HB3 HM.out HL3.out hown3 HZ.out hb0
      have R2 : Hid (w.heap.size + 2 ≤ w3.heap.size) := Lib.hid (Nat.le_trans HZ.out hg3.size)
      clear b0 b1 f0 f1 r0 r1 g0 g1
      obtain ⟨b0, b1, f0, f1, r0, r1, g0, g1⟩ := HB3.out.limbs
      clear hown3 hg3 HB1 HO1
      go_wp2_with fail
      go_roundg g
      case measure => omega
      case rel => exact ⟨j + 1, by have := HJG.out; omega, R.out, by simpa using R2.out⟩
end Go.Proofs.YtpabfjhjehjebaaDoor

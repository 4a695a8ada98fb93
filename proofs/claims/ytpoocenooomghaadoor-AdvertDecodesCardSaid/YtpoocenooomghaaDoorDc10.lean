/- Parts of the proof, packed: PkEncR, PkEncR2, AdWrA, AdWr, AdEnc, AdCmp, AdCf, AdLs. -/
import Derived.Test.YtpoocenooomghaaDoorDc9
import Derived.Test.YtpoocenooomghaaDoorDc8
import Derived.Test.YtpoocenooomghaaDoorDc7
import Derived.Deep.CutRange
import Derived.Test.YtpoocenooomghaaDoorDc6
import Derived.Test.YtpoocenooomghaaDoorDc3
import Derived.Deep.RegionHeld3
/- packet: the reference's Encode. -/
namespace Go.Proofs.YtpoocenooomghaaDoor
open Go.RowKit Bs
set_option maxRecDepth 100000 in
set_option maxHeartbeats 1600000 in
theorem code_8 (w : World) :
    Calls Tryd.prog 49 #[.int .i64 8] w fun e w' => e = .returned (.int .i64 0) ∧ w = w' := by
  go_enter Tryd.func49, Tryd.ntmps49
  go_wp2_with fail
  go_loop [0, 3] (fun x y => (x = .int .i64 8 ∧ y = .int .i64 0)) (fun x _ => (RowKit.intOf x).toNat)
  case atStart => simp
  case round =>
    rcases hrel with ⟨rfl, rfl⟩
    · go_wp2_with fail
      go_ret
      exact ⟨rfl, rfl⟩
set_option maxRecDepth 100000 in
set_option maxHeartbeats 1600000 in
theorem code_16 (w : World) :
    Calls Tryd.prog 49 #[.int .i64 16] w fun e w' => e = .returned (.int .i64 1) ∧ w = w' := by
  go_enter Tryd.func49, Tryd.ntmps49
  go_wp2_with fail
  go_loop [0, 3] (fun x y => (x = .int .i64 16 ∧ y = .int .i64 0) ∨ (x = .int .i64 8 ∧ y = .int .i64 1)) (fun x _ => (RowKit.intOf x).toNat)
  case atStart => simp
  case round =>
    rcases hrel with ⟨rfl, rfl⟩ | ⟨rfl, rfl⟩
    · go_wp2_with fail
      go_round
      case rel => simp
      case measure => simp [RowKit.intOf]
    · go_wp2_with fail
      go_ret
      exact ⟨rfl, rfl⟩
set_option maxRecDepth 100000 in
set_option maxHeartbeats 1600000 in
theorem code_32 (w : World) :
    Calls Tryd.prog 49 #[.int .i64 32] w fun e w' => e = .returned (.int .i64 2) ∧ w = w' := by
  go_enter Tryd.func49, Tryd.ntmps49
  go_wp2_with fail
  go_loop [0, 3] (fun x y => (x = .int .i64 32 ∧ y = .int .i64 0) ∨ (x = .int .i64 16 ∧ y = .int .i64 1) ∨ (x = .int .i64 8 ∧ y = .int .i64 2)) (fun x _ => (RowKit.intOf x).toNat)
  case atStart => simp
  case round =>
    rcases hrel with ⟨rfl, rfl⟩ | ⟨rfl, rfl⟩ | ⟨rfl, rfl⟩
    · go_wp2_with fail
      go_round
      case rel => simp
      case measure => simp [RowKit.intOf]
    · go_wp2_with fail
      go_round
      case rel => simp
      case measure => simp [RowKit.intOf]
    · go_wp2_with fail
      go_ret
      exact ⟨rfl, rfl⟩
set_option maxRecDepth 100000 in
set_option maxHeartbeats 1600000 in
theorem code_64 (w : World) :
    Calls Tryd.prog 49 #[.int .i64 64] w fun e w' => e = .returned (.int .i64 3) ∧ w = w' := by
  go_enter Tryd.func49, Tryd.ntmps49
  go_wp2_with fail
  go_loop [0, 3] (fun x y => (x = .int .i64 64 ∧ y = .int .i64 0) ∨ (x = .int .i64 32 ∧ y = .int .i64 1) ∨ (x = .int .i64 16 ∧ y = .int .i64 2) ∨ (x = .int .i64 8 ∧ y = .int .i64 3)) (fun x _ => (RowKit.intOf x).toNat)
  case atStart => simp
  case round =>
    rcases hrel with ⟨rfl, rfl⟩ | ⟨rfl, rfl⟩ | ⟨rfl, rfl⟩ | ⟨rfl, rfl⟩
    · go_wp2_with fail
      go_round
      case rel => simp
      case measure => simp [RowKit.intOf]
    · go_wp2_with fail
      go_round
      case rel => simp
      case measure => simp [RowKit.intOf]
    · go_wp2_with fail
      go_round
      case rel => simp
      case measure => simp [RowKit.intOf]
    · go_wp2_with fail
      go_ret
      exact ⟨rfl, rfl⟩
set_option maxRecDepth 100000 in
theorem coder_any (n : Int) (hv : vl n = true) (w : World) :
    Calls Tryd.prog 49 #[.int .i64 n] w fun e w' => e = .returned (.int .i64 ((lcode n : Nat) : Int)) ∧ w = w' := by
  rcases vl_cases hv with rfl | rfl | rfl | rfl
  · exact code_8 w
  · exact code_16 w
  · exact code_32 w
  · exact code_64 w
def wdl : List Int := [2, 2, 3, 5, 2, 6, 10, 9, 3, 7]
def wcells : Array Value := #[.int .i64 2, .int .i64 2, .int .i64 3, .int .i64 5, .int .i64 2, .int .i64 6, .int .i64 10, .int .i64 9, .int .i64 3, .int .i64 7]
end Go.Proofs.YtpoocenooomghaaDoor

/- packet: the reference's Encode, the walk. -/
namespace Go.Proofs.YtpoocenooomghaaDoor
open Go.RowKit Bs
set_option maxRecDepth 100000 in
/-- A list of bytes that is read does not lie in a stream's box. -/
theorem rd_off {w : World} {q : Nat → Prop} {v : Value} {p1 : Option Addr} {n1 c1 S : Nat} {l : List Nat} {k : Int} {t : TypeId} (hR : Rd w q v (l.map nv)) (hS : w.heap[S]? = some (.cells #[.slice p1 n1 c1, .int .i64 k] t (0, 0))) : Rd w (fun b => b ≠ S ∧ b < w.heap.size) v (l.map nv) := by
  obtain ⟨p, c, hv, hc⟩ := hR.bound
  refine ⟨p, c, hv, fun hne => ?_⟩
  obtain ⟨b, off, hp, hb, hx⟩ := hc hne
  refine ⟨b, off, hp, ⟨?_, hb⟩, hx⟩
  rintro rfl
  cases l with
  | nil => exact absurd rfl hne
  | cons y r =>
    have h := hx 0 (nv y) rfl
    unfold World.cell? at h
    rw [hS] at h
    simp only [Addr.spot] at h
    rcases (show off + 0 = 0 ∨ off + 0 = 1 ∨ 2 ≤ off + 0 by omega) with e | e | e
    · rw [e] at h; simp [nv] at h
    · rw [e] at h; simp [nv] at h
    · rw [Array.getElem?_eq_none (by simpa using e)] at h; simp at h
section
variable {W w w1 : World} {P : Pk} {F D S n : Nat} {B B2 : List Bool} {p : Option Addr} {c : Nat} {q : Nat → Prop}
set_option maxRecDepth 100000 in
/-- What the reference's calls give to a list of bits. -/
theorem append_bitsr {v k : Nat} (hk : k ≤ 64) (hv : v < 2 ^ k) (hl : B.length + k ≤ 8192) (hpc : p = none → c = 0) (hR : Rd w q (.slice p (pk B).length c) ((pk B).map nv)) :
    Calls Tryd.prog 58 #[.agg #[.slice p (pk B).length c, .int .i64 (B.length : Int)], .int .u64 (v : Int), .int .i64 (k : Int)] w fun e w' =>
      ∃ p2 c2, e = .returned (.tuple #[.agg #[.slice p2 (pk (B ++ nb v k)).length c2, .int .i64 ((B ++ nb v k).length : Int)], .int .i64 0]) ∧ Rd w' (fun _ => True) (.slice p2 (pk (B ++ nb v k)).length c2) ((pk (B ++ nb v k)).map nv) ∧ (p2 = none → c2 = 0) ∧ w.grownBy w' none := by
  have hvU : U64 v := Nat.lt_of_lt_of_le hv (Nat.pow_le_pow_right (n := 2) (by decide) hk)
  refine (appendr_any (pk B) (B.length : Int) v (k : Int) _ p c (pk_by B) hvU hpc w (fun _ h => h) hR.bound).mono fun e w' hp => ?_
  rw [apV_pk B v k hk hv hl] at hp
  obtain ⟨u, he, ⟨p2, c2, rfl, h1, h2, _⟩, hg⟩ := hp
  exact ⟨p2, c2, he, h1, h2, hg⟩
set_option maxRecDepth 100000 in
theorem check_bitsr (h : B.length ≤ 8192) (hpc : p = none → c = 0) (hR : Rd w q (.slice p (pk B).length c) ((pk B).map nv)) :
    Calls Tryd.prog 26 #[.agg #[.slice p (pk B).length c, .int .i64 (B.length : Int)]] w fun e w' => e = .returned (.tuple #[.int .u64 ((ck B : Nat) : Int), .int .i64 0]) ∧ w.grownBy w' none := by
  refine (checkr_any (pk B) (B.length : Int) _ p c (pk_by B) w (fun _ h => h) hR.bound).mono fun e w' hp => ?_
  obtain ⟨he, hg⟩ := hp
  rw [chkV_ok (pk_vs B h)] at he
  rw [show ck B = crcB (bt (pk B)) B.length from (chk_same _ fun i hi => bt_pk B i (by omega)).symm]
  exact ⟨he, hg⟩
set_option maxRecDepth 100000 in
theorem align_bitsr (h : B.length ≤ 8192) (hpc : p = none → c = 0) (hR : Rd w q (.slice p (pk B).length c) ((pk B).map nv)) :
    Calls Tryd.prog 27 #[.agg #[.slice p (pk B).length c, .int .i64 (B.length : Int)]] w fun e w' =>
      ∃ p2 c2, e = .returned (.tuple #[.agg #[.slice p2 (pk B).length c2, .int .i64 ((8 * (pk B).length : Nat) : Int)], .int .i64 0]) ∧ Rd w' (fun _ => True) (.slice p2 (pk B).length c2) ((pk B).map nv) ∧ (p2 = none → c2 = 0) ∧ w.grownBy w' none := by
  refine (alignr_any (pk B) (B.length : Int) _ p c (pk_by B) hpc w (fun _ h => h) hR.bound).mono fun e w' hp => ?_
  rw [alV_pk B h] at hp
  obtain ⟨u, he, ⟨p2, c2, rfl, h1, h2, _⟩, hg⟩ := hp
  exact ⟨p2, c2, he, h1, h2, hg⟩
end
end Go.Proofs.YtpoocenooomghaaDoor

/- advert.write. -/
namespace Go.Proofs.YtpoocenooomghaaDoor
open Go.RowKit Bs
def encR (x : T3) : List Bool := nb x.a.toNat 7 ++ nb x.b.toNat 10 ++ nb x.c.toNat 10
def codeN (c : Int) : Nat := if c = 8 then 0 else if c = 16 then 1 else if c = 32 then 2 else 3
def encK (x : T3) : List Bool := nb x.a.toNat 3 ++ nb x.b.toNat 9 ++ nb (codeN x.c) 2
def hdB (A : Ad) : List Bool := nb A.r.toNat 7 ++ nb A.q.toNat 20 ++ nb A.cp.toNat 1 ++ nb A.L.length 5
def lkB (A : Ad) (k : Nat) : List Bool := hdB A ++ (A.L.take k).flatMap encR
def mdB (A : Ad) : List Bool := lkB A A.L.length ++ nb A.C.length 4
def cmB (A : Ad) (k : Nat) : List Bool := mdB A ++ (A.C.take k).flatMap encK
/-- The fields of an advert. -/
def adB (A : Ad) : List Bool := cmB A A.C.length
set_option maxRecDepth 100000 in
theorem encR_len (x : T3) : (encR x).length = 27 := by unfold encR; simp only [List.length_append, nb_len]
set_option maxRecDepth 100000 in
theorem encK_len (x : T3) : (encK x).length = 14 := by unfold encK; simp only [List.length_append, nb_len]
set_option maxRecDepth 100000 in
theorem flatT_len {f : T3 → List Bool} {m : Nat} (h : ∀ x, (f x).length = m) : ∀ l : List T3, (l.flatMap f).length = l.length * m
  | [] => by simp
  | a :: t => by rw [List.flatMap_cons, List.length_append, h, flatT_len h t, List.length_cons, Nat.add_mul, Nat.one_mul, Nat.add_comm]
set_option maxRecDepth 100000 in
theorem hdB_len (A : Ad) : (hdB A).length = 33 := by unfold hdB; simp only [List.length_append, nb_len]
set_option maxRecDepth 100000 in
theorem lkB_len (A : Ad) (k : Nat) : (lkB A k).length = 33 + (A.L.take k).length * 27 := by unfold lkB; rw [List.length_append, hdB_len, flatT_len encR_len]
set_option maxRecDepth 100000 in
theorem mdB_len (A : Ad) : (mdB A).length = 37 + A.L.length * 27 := by unfold mdB; rw [List.length_append, lkB_len, nb_len, List.take_length]; omega
set_option maxRecDepth 100000 in
theorem cmB_len (A : Ad) (k : Nat) : (cmB A k).length = 37 + A.L.length * 27 + (A.C.take k).length * 14 := by unfold cmB; rw [List.length_append, mdB_len, flatT_len encK_len]
set_option maxRecDepth 100000 in
theorem lkB_step {A : Ad} {k : Nat} {x : T3} (h : A.L[k]? = some x) : lkB A (k + 1) = lkB A k ++ nb x.a.toNat 7 ++ nb x.b.toNat 10 ++ nb x.c.toNat 10 := by
  unfold lkB
  rw [List.take_add_one, h]
  simp [encR, List.append_assoc]
set_option maxRecDepth 100000 in
theorem cmB_step {A : Ad} {k : Nat} {x : T3} (h : A.C[k]? = some x) : cmB A (k + 1) = cmB A k ++ nb x.a.toNat 3 ++ nb x.b.toNat 9 ++ nb (codeN x.c) 2 := by
  unfold cmB
  rw [List.take_add_one, h]
  simp [encK, List.append_assoc]
set_option maxRecDepth 100000 in
theorem vRe_all {r : Int} : ∀ (l : List T3) (last : Int), 0 ≤ last → vRe r last l = true → ∀ x ∈ l, (1 ≤ x.a ∧ x.a ≤ 99) ∧ (1 ≤ x.b ∧ x.b ≤ 1000) ∧ 0 ≤ x.c ∧ x.c ≤ 1000
  | [], _, _, _, x, hx => by cases hx
  | a :: t, last, h0, h, x, hx => by
    rw [vRe, Bool.and_eq_true] at h
    have h1 := of_decide_eq_true h.1
    rcases List.mem_cons.1 hx with rfl | hx
    · exact ⟨⟨by omega, h1.2.1⟩, h1.2.2.2.1, h1.2.2.2.2⟩
    · exact vRe_all t a.a (by omega) h.2 x hx
set_option maxRecDepth 100000 in
theorem vCm_all : ∀ (l : List T3) (last : Int), -1 ≤ last → vCm last l = true → ∀ x ∈ l, (0 ≤ x.a ∧ x.a ≤ 7) ∧ (1 ≤ x.b ∧ x.b ≤ 256) ∧ (x.c = 8 ∨ x.c = 16 ∨ x.c = 32 ∨ x.c = 64)
  | [], _, _, _, x, hx => by cases hx
  | a :: t, last, h0, h, x, hx => by
    rw [vCm, Bool.and_eq_true] at h
    have h1 := of_decide_eq_true h.1
    rcases List.mem_cons.1 hx with rfl | hx
    · exact ⟨⟨by omega, h1.2.1⟩, h1.2.2.1, h1.2.2.2⟩
    · exact vCm_all t a.a (by omega) h.2 x hx
/-- What a valid advert keeps within. -/
structure VA (A : Ad) : Prop where
  r : 1 ≤ A.r ∧ A.r ≤ 99
  q : 1 ≤ A.q ∧ A.q ≤ 1000000
  ll : A.L.length ≤ 23
  cl : A.C.length ≤ 8
  L : ∀ x ∈ A.L, (1 ≤ x.a ∧ x.a ≤ 99) ∧ (1 ≤ x.b ∧ x.b ≤ 1000) ∧ 0 ≤ x.c ∧ x.c ≤ 1000
  C : ∀ x ∈ A.C, (0 ≤ x.a ∧ x.a ≤ 7) ∧ (1 ≤ x.b ∧ x.b ≤ 256) ∧ (x.c = 8 ∨ x.c = 16 ∨ x.c = 32 ∨ x.c = 64)
set_option maxRecDepth 100000 in
theorem VA.of {A : Ad} (h : vAd A = true) : VA A := by
  unfold vAd vHd vClaims at h
  simp only [Bool.and_eq_true, decide_eq_true_eq] at h
  obtain ⟨⟨h1, h2, h3⟩, h4, h5, h6⟩ := h
  exact ⟨h1, h2, h3, h5, vRe_all _ _ (by decide) h4, vCm_all _ _ (by decide) h6⟩
set_option maxRecDepth 100000 in
theorem aputI_any (B : List Bool) (n K : Int) (k S : Nat) (p : Option Addr) (c : Nat) (w : World) (h : SB w S B p c) (hK : K = (k : Int)) (hk : k ≤ 64) (h0 : 0 ≤ n) (hn : n.toNat < 2 ^ k) (hl : B.length + k ≤ 8192) :
    Calls Tryd.prog 82 #[.int .i64 n, .int .i64 K, .pointer (some ⟨S, 0, none⟩)] w fun e w' => ∃ p2 c2, e = .returned (.tuple #[]) ∧ SB w' S (B ++ nb n.toNat k) p2 c2 ∧ w.grownBy w' (some S) := by
  have := aput_any B n.toNat k S p c w h hk hn hl
  rw [Int.toNat_of_nonneg h0, ← hK] at this
  exact this
/-- While an advert is written. -/
structure WK (w : World) (A : Ad) (G R S : Nat) (B : List Bool) (wr : World) : Prop where
  gb : wr.heap[G]? = some (.cells (adC A) 26 (0, 0))
  ok : AdOk wr (· < w.heap.size) A
  sb : ∃ p c, SB wr S B p c
  rb : wr.heap[R]? = some (.cells #[.slice none 0 0, .int .i64 0] 47 (0, 0))
  gr : w.grownBy wr none
  lt : w.heap.size ≤ G ∧ G < R ∧ R < S
set_option maxRecDepth 100000 in
theorem WK.keep {w wr w' : World} {A : Ad} {G R S : Nat} {B : List Bool} (h : WK w A G R S B wr) (g : wr.grownBy w' none) : WK w A G R S B w' := by
  obtain ⟨p, c, hs⟩ := h.sb
  exact ⟨kept_row h.gb g (by simp), h.ok.keep g, ⟨p, c, hs.keep g⟩, kept_row h.rb g (by simp), grown_trans h.gr g, h.lt⟩
set_option maxRecDepth 100000 in
theorem WK.put {w wr w' : World} {A : Ad} {G R S : Nat} {B B2 : List Bool} {p : Option Addr} {c : Nat} (h : WK w A G R S B wr) (hs : SB w' S B2 p c) (g : wr.grownBy w' (some S)) : WK w A G R S B2 w' := by
  have hlt := h.lt
  exact ⟨kept_row h.gb g (fun e => by have := Option.some.inj e; omega), h.ok.grown g (fun b hb e => by have := Option.some.inj e; omega), ⟨p, c, hs⟩, kept_row h.rb g (fun e => by have := Option.some.inj e; omega), grown_new h.gr g (by omega), hlt⟩
/-- A stream of these bits is returned. -/
def SP (B : List Bool) (w : World) (e : Ending) (w' : World) : Prop := ∃ p c, e = .returned (.agg #[.slice p (pk B).length c, .int .i64 (B.length : Int)]) ∧ Rd w' (fun _ => True) (.slice p (pk B).length c) ((pk B).map nv) ∧ w.grownBy w' none
set_option maxRecDepth 100000 in
theorem abit_any (b : Bool) (w : World) :
    Calls Tryd.prog 77 #[.bool b] w fun e w' => e = .returned (.int .i64 ((b.toNat : Nat) : Int)) ∧ w = w' := by
  cases b with
  | false =>
    go_enter Tryd.func77, Tryd.ntmps77
    go_wp2_with fail
    go_ret
    exact ⟨rfl, rfl⟩
  | true =>
    go_enter Tryd.func77, Tryd.ntmps77
    go_wp2_with fail
    go_ret
    exact ⟨rfl, rfl⟩
set_option maxRecDepth 100000 in
theorem rdfA_old {w : World} {q : Nat → Prop} {v : Value} {n : Nat} {xs : List Value} (h : RdF w q v n xs) : RdF w (· < w.heap.size) v n xs := by
  obtain ⟨p, c, hv, hc⟩ := h
  refine ⟨p, c, hv, fun hne => ?_⟩
  obtain ⟨b, off, hp, hb, hx⟩ := hc hne
  obtain ⟨x, hx0⟩ : ∃ x, xs[0]? = some x := by
    cases xs with
    | nil => exact absurd rfl hne
    | cons a t => exact ⟨a, rfl⟩
  exact ⟨b, off, hp, World.block_lt_of_cell? w ⟨b, off + 0, none⟩ (hx 0 x hx0), hx⟩
set_option maxRecDepth 100000 in
theorem AdOk.old {w : World} {q : Nat → Prop} {A : Ad} (h : AdOk w q A) : AdOk w (· < w.heap.size) A := ⟨rdfA_old h.l, rdfA_old h.c, h.hl, h.hc⟩
set_option maxRecDepth 100000 in
theorem code_fst {c : Int} (h : c = 8 ∨ c = 16 ∨ c = 32 ∨ c = 64) : fst (c / 8).toNat = ((codeN c : Nat) : Int) := by
  rcases h with rfl | rfl | rfl | rfl <;> decide
end Go.Proofs.YtpoocenooomghaaDoor

/- advert.write. -/
namespace Go.Proofs.YtpoocenooomghaaDoor
open Go.RowKit Bs
set_option maxRecDepth 100000 in
set_option maxHeartbeats 12800000 in
theorem awr_any (A : Ad) (q : Nat → Prop) (w : World) (hA : AdOk w q A) (hv : VA A) (hT : Tb w) :
    Calls Tryd.prog 44 #[A.val] w fun e w' => SP (adB A) w e w' := by
  have hmf : ∀ (fn : Fn) (first cap : Array Value) (w : World), (Instr.makeFunc fn first cap).run Tryd.prog w = .ok (.func fn first cap) w := fun _ _ _ _ => rfl
  have hll := hv.ll
  have hcl := hv.cl
  have hr := hv.r
  have hq := hv.q
  have HV := Lib.hid hv
  have HT := Lib.hid hT
  have hOld : AdOk w (· < w.heap.size) A := hA.old
  have g1 := World.grownBy_alloc w (.cells (adC A) 26) none
  have g2 := World.grownBy_alloc (w.alloc (.cells (adC A) 26)) (.cells #[.slice none 0 0, .int .i64 0] 47) none
  have g3 := World.grownBy_alloc ((w.alloc (.cells (adC A) 26)).alloc (.cells #[.slice none 0 0, .int .i64 0] 47)) (.cells #[.slice none 0 0, .int .i64 0] 47) none
  have b1 := kept_row (kept_row (heap_alloc_new w (.cells (adC A) 26)) g2 (by simp)) g3 (by simp)
  have b2 := kept_row (heap_alloc_new (w.alloc (.cells (adC A) 26)) (.cells #[.slice none 0 0, .int .i64 0] 47)) g3 (by simp)
  have b3 := heap_alloc_new ((w.alloc (.cells (adC A) 26)).alloc (.cells #[.slice none 0 0, .int .i64 0] 47)) (.cells #[.slice none 0 0, .int .i64 0] 47)
  have s1 : (w.alloc (.cells (adC A) 26)).heap.size = w.heap.size + 1 := by simp
  have s2 : ((w.alloc (.cells (adC A) 26)).alloc (.cells #[.slice none 0 0, .int .i64 0] 47)).heap.size = w.heap.size + 2 := by simp
  rw [s1] at b2
  rw [s2] at b3
  have HW : Hid (WK w A w.heap.size (w.heap.size + 1) (w.heap.size + 1 + 1) [] _) := Lib.hid ⟨b1, ((hOld.keep g1).keep g2).keep g3, ⟨none, 0, ⟨b3, ⟨none, 0, rfl, fun hne => absurd rfl hne⟩⟩⟩, b2, grown_trans (grown_trans g1 g2) g3, Nat.le_refl _, by omega, by omega⟩
  clear g1 g2 g3 b1 b2 b3 s1 s2 hOld hA hT hv
  unfold Ad.val
  obtain ⟨pL, hpL⟩ : ∃ p, A.pL = p := ⟨_, rfl⟩
  obtain ⟨pC, hpC⟩ : ∃ p, A.pC = p := ⟨_, rfl⟩
  rw [hpL, hpC]
  unfold adC at HW
  rw [hpL, hpC] at HW
  have HPL := Lib.hid hpL
  have HPC := Lib.hid hpC
  clear hpL hpC
  go_enter Tryd.func44, Tryd.ntmps44
  go_upto_region 2 with fail
  generalize ((w.alloc _).alloc _).alloc _ = w0 at *
  obtain ⟨G, hG⟩ : ∃ G, w.heap.size = G := ⟨_, rfl⟩
  obtain ⟨R0, hR0⟩ : ∃ R0, G + 1 = R0 := ⟨_, rfl⟩
  obtain ⟨S, hS⟩ : ∃ S, R0 + 1 = S := ⟨_, rfl⟩
  (try rw [hG] at HW)
  (try rw [hG])
  rw [hR0, hS] at HW
  (try rw [hR0])
  (try rw [hS])
  clear hR0 hS
  have HGE := Lib.hid hG
  clear hG
  obtain ⟨a0, a1, a2, a3, a4⟩ := ad_facts (A := A) HW.out.gb
  rw [HPL.out] at a3
  rw [HPC.out] at a4
  go_wp2_with fail
  obtain ⟨pp1, cc1, hs1⟩ := HW.out.sb
  refine (aputI_any ([]) (A.r) 7 7 S pp1 cc1 _ hs1 rfl (by decide) (by omega) (by omega) (by simp only [List.length_nil]; omega)).mono ?_
  rintro e w1 ⟨pq1, cq1, rfl, hs, hg⟩
  have HWn := Lib.hid (HW.out.put hs hg)
  clear hs hg hs1
  clear HW
  have HW := HWn
  clear HWn
  (try clear a0 a1 a2 a3 a4)
  obtain ⟨a0, a1, a2, a3, a4⟩ := ad_facts (A := A) HW.out.gb
  rw [HPL.out] at a3
  rw [HPC.out] at a4
  go_wp2_with fail
  obtain ⟨pp2, cc2, hs2⟩ := HW.out.sb
  refine (aputI_any ([] ++ nb A.r.toNat 7) (A.q) 20 20 S pp2 cc2 _ hs2 rfl (by decide) (by omega) (by omega) (by simp only [List.length_append, nb_len, List.length_nil]; omega)).mono ?_
  rintro e w2 ⟨pq2, cq2, rfl, hs, hg⟩
  have HWn := Lib.hid (HW.out.put hs hg)
  clear hs hg hs2
  clear HW
  have HW := HWn
  clear HWn
  (try clear a0 a1 a2 a3 a4)
  obtain ⟨a0, a1, a2, a3, a4⟩ := ad_facts (A := A) HW.out.gb
  rw [HPL.out] at a3
  rw [HPC.out] at a4
  go_wp2_with fail
  refine (abit_any A.cp _).mono ?_
  rintro e w' ⟨rfl, rfl⟩
  go_wp2_with fail
  obtain ⟨pp3, cc3, hs3⟩ := HW.out.sb
  refine (aputI_any ([] ++ nb A.r.toNat 7 ++ nb A.q.toNat 20) (((A.cp.toNat : Nat) : Int)) 1 1 S pp3 cc3 _ hs3 rfl (by decide) (by omega) (by have := Bool.toNat_le A.cp; omega) (by simp only [List.length_append, nb_len, List.length_nil]; omega)).mono ?_
  rintro e w3 ⟨pq3, cq3, rfl, hs, hg⟩
  have HWn := Lib.hid (HW.out.put hs hg)
  clear hs hg hs3
  clear HW
  have HW := HWn
  clear HWn
  (try clear a0 a1 a2 a3 a4)
  obtain ⟨a0, a1, a2, a3, a4⟩ := ad_facts (A := A) HW.out.gb
  rw [HPL.out] at a3
  rw [HPC.out] at a4
  go_wp2_with fail
  obtain ⟨pp4, cc4, hs4⟩ := HW.out.sb
  refine (aputI_any ([] ++ nb A.r.toNat 7 ++ nb A.q.toNat 20 ++ nb ((A.cp.toNat : Nat) : Int).toNat 1) ((A.L.length : Int)) 5 5 S pp4 cc4 _ hs4 rfl (by decide) (by omega) (by omega) (by simp only [List.length_append, nb_len, List.length_nil]; omega)).mono ?_
  rintro e w4 ⟨pq4, cq4, rfl, hs, hg⟩
  have HWn := Lib.hid (HW.out.put hs hg)
  clear hs hg hs4
  clear HW
  have HW := HWn
  clear HWn
  (try clear a0 a1 a2 a3 a4)
  obtain ⟨a0, a1, a2, a3, a4⟩ := ad_facts (A := A) HW.out.gb
  rw [HPL.out] at a3
  rw [HPC.out] at a4
  have HWL : Hid (WK w A G R0 S (lkB A 0) _) := Lib.hid (by have := HW.out; simp only [List.nil_append, Int.toNat_natCast] at this; unfold lkB hdB; rw [List.take_zero, List.flatMap_nil, List.append_nil]; exact this)
  clear HW
  go_wp2_with fail
  go_loopw [31] (fun a wr => ∃ k : Nat, k ≤ A.L.length ∧ a = .int .i64 (k : Int) ∧ Hid (WK w A G R0 S (lkB A k) wr)) (fun a _ => A.L.length - (RowKit.intOf a).toNat)
  case atStart => exact ⟨0, Nat.zero_le _, rfl, HWL⟩
  case round =>
  obtain ⟨wl, rfl⟩ : ∃ wl, wl = wr := ⟨_, rfl⟩
  obtain ⟨k, hk, rfl, HW⟩ := hrel
  clear HWL a0 a1 a2 a3 a4
  by_cases hlt : k < A.L.length
  · obtain ⟨-, bL, oL, hp, -, hc⟩ := rd3_cells HW.out.ok.l (by omega)
    obtain rfl : pL = some ⟨bL, oL, none⟩ := HPL.out.symm.trans hp
    clear hp
    obtain ⟨x, hx⟩ : ∃ x, A.L[k]? = some x := ⟨_, List.getElem?_eq_getElem hlt⟩
    obtain ⟨x0, x1, x2⟩ := hc k x hx
    have hxb := HV.out.L x (List.mem_of_getElem? hx)
    have HS := Lib.hid (lkB_step hx)
    have hkl : (lkB A k).length ≤ 660 := by rw [lkB_len, List.length_take]; omega
    have HBX := Lib.hid (heap_alloc_new wl (.cells #[.int .i64 x.a, .int .i64 x.b, .int .i64 x.c] 70))
    have HGA := Lib.hid (World.grownBy_alloc wl (.cells #[.int .i64 x.a, .int .i64 x.b, .int .i64 x.c] 70) none)
    obtain ⟨B, hB⟩ : ∃ B, lkB A k = B := ⟨_, rfl⟩
    rw [hB] at HW HS hkl
    clear hc hx hB
    go_upto_region 10 with fail
    clear x0 x1 x2
    obtain ⟨gx, hgx⟩ : ∃ gx, wl.heap.size = gx := ⟨_, rfl⟩
    have hSx : S < wl.heap.size := by
      obtain ⟨p, c, hs⟩ := HW.out.sb
      rcases Nat.lt_or_ge S wl.heap.size with h | h
      · exact h
      · have := hs.bx; rw [Array.getElem?_eq_none h] at this; cases this
    generalize wl.alloc _ = wb at *
    (try rw [hgx] at HBX)
    (try rw [hgx] at hSx)
    (try rw [hgx])
    have HWn := Lib.hid (HW.out.keep HGA.out)
    clear HW hgx HGA
    have HW := HWn
    clear HWn
    obtain ⟨x0, x1, x2⟩ := row3 HBX.out
    go_wp2_with fail
    obtain ⟨pp5, cc5, hs5⟩ := HW.out.sb
    refine (aputI_any (B) (x.a) 7 7 S pp5 cc5 _ hs5 rfl (by decide) (by omega) (by omega) (by omega)).mono ?_
    rintro e w5 ⟨pq5, cq5, rfl, hs, hg⟩
    have HWn := Lib.hid (HW.out.put hs hg)
    have HBX2 := Lib.hid (kept_row HBX.out hg (fun e => by have := Option.some.inj e; omega))
    clear HBX
    have HBX := HBX2
    clear HBX2 x0 x1 x2
    clear hs hg hs5
    clear HW
    have HW := HWn
    clear HWn
    obtain ⟨x0, x1, x2⟩ := row3 HBX.out
    go_wp2_with fail
    obtain ⟨pp6, cc6, hs6⟩ := HW.out.sb
    refine (aputI_any (B ++ nb x.a.toNat 7) (x.b) 10 10 S pp6 cc6 _ hs6 rfl (by decide) (by omega) (by omega) (by simp only [List.length_append, nb_len]; omega)).mono ?_
    rintro e w6 ⟨pq6, cq6, rfl, hs, hg⟩
    have HWn := Lib.hid (HW.out.put hs hg)
    have HBX2 := Lib.hid (kept_row HBX.out hg (fun e => by have := Option.some.inj e; omega))
    clear HBX
    have HBX := HBX2
    clear HBX2 x0 x1 x2
    clear hs hg hs6
    clear HW
    have HW := HWn
    clear HWn
    obtain ⟨x0, x1, x2⟩ := row3 HBX.out
    go_wp2_with fail
    obtain ⟨pp7, cc7, hs7⟩ := HW.out.sb
    refine (aputI_any (B ++ nb x.a.toNat 7 ++ nb x.b.toNat 10) (x.c) 10 10 S pp7 cc7 _ hs7 rfl (by decide) (by omega) (by omega) (by simp only [List.length_append, nb_len]; omega)).mono ?_
    rintro e w7 ⟨pq7, cq7, rfl, hs, hg⟩
    have HWn := Lib.hid (HW.out.put hs hg)
    have HBX2 := Lib.hid (kept_row HBX.out hg (fun e => by have := Option.some.inj e; omega))
    clear HBX
    have HBX := HBX2
    clear HBX2 x0 x1 x2
    clear hs hg hs7
    clear HW
    have HW := HWn
    clear HWn
    obtain ⟨x0, x1, x2⟩ := row3 HBX.out
    have HW2 : Hid (WK w A G R0 S (lkB A (k + 1)) _) := Lib.hid (by rw [HS.out]; exact HW.out)
    clear HW x0 x1 x2
    go_wp2_with fail
    exact ⟨⟨k + 1, by omega, congrArg _ (by omega), HW2⟩, by simp only [RowKit.intOf]; omega⟩
  · obtain rfl : k = A.L.length := by omega
    have hkl : (lkB A A.L.length).length ≤ 660 := by rw [lkB_len, List.length_take]; omega
    obtain ⟨a0, a1, a2, a3, a4⟩ := ad_facts (A := A) HW.out.gb
    rw [HPL.out] at a3
    rw [HPC.out] at a4
    go_wp2_with fail
    obtain ⟨pp8, cc8, hs8⟩ := HW.out.sb
    refine (aputI_any (lkB A A.L.length) ((A.C.length : Int)) 4 4 S pp8 cc8 _ hs8 rfl (by decide) (by omega) (by omega) (by omega)).mono ?_
    rintro e w8 ⟨pq8, cq8, rfl, hs, hg⟩
    have HWn := Lib.hid (HW.out.put hs hg)
    clear hs hg hs8
    clear HW
    have HW := HWn
    clear HWn
    (try clear a0 a1 a2 a3 a4)
    obtain ⟨a0, a1, a2, a3, a4⟩ := ad_facts (A := A) HW.out.gb
    rw [HPL.out] at a3
    rw [HPC.out] at a4
    have HWC : Hid (WK w A G R0 S (cmB A 0) _) := Lib.hid (by have := HW.out; simp only [Int.toNat_natCast] at this; unfold cmB mdB; rw [List.take_zero, List.flatMap_nil, List.append_nil]; exact this)
    clear HW
    go_wp2_with fail
    go_loopw [56] (fun a wr => ∃ k : Nat, k ≤ A.C.length ∧ a = .int .i64 (k : Int) ∧ Hid (WK w A G R0 S (cmB A k) wr)) (fun a _ => A.C.length - (RowKit.intOf a).toNat)
    case atStart => exact ⟨0, Nat.zero_le _, rfl, HWC⟩
    case round =>
    obtain ⟨wl, rfl⟩ : ∃ wl, wl = wr := ⟨_, rfl⟩
    obtain ⟨k, hk, rfl, HW⟩ := hrel
    clear HWC a0 a1 a2 a3 a4 hkl
    by_cases hlt : k < A.C.length
    · obtain ⟨-, bL, oL, hp, -, hc⟩ := rd3_cells HW.out.ok.c (by omega)
      obtain rfl : pC = some ⟨bL, oL, none⟩ := HPC.out.symm.trans hp
      clear hp
      obtain ⟨x, hx⟩ : ∃ x, A.C[k]? = some x := ⟨_, List.getElem?_eq_getElem hlt⟩
      obtain ⟨x0, x1, x2⟩ := hc k x hx
      have hxb := HV.out.C x (List.mem_of_getElem? hx)
      have HS := Lib.hid (cmB_step hx)
      have hkl : (cmB A k).length ≤ 800 := by rw [cmB_len, List.length_take]; omega
      have HBX := Lib.hid (heap_alloc_new wl (.cells #[.int .i64 x.a, .int .i64 x.b, .int .i64 x.c] 73))
      have HGA := Lib.hid (World.grownBy_alloc wl (.cells #[.int .i64 x.a, .int .i64 x.b, .int .i64 x.c] 73) none)
      obtain ⟨B, hB⟩ : ∃ B, cmB A k = B := ⟨_, rfl⟩
      rw [hB] at HW HS hkl
      clear hc hx hB
      go_upto_region 18 with fail
      clear x0 x1 x2
      obtain ⟨gx, hgx⟩ : ∃ gx, wl.heap.size = gx := ⟨_, rfl⟩
      have hSx : S < wl.heap.size := by
        obtain ⟨p, c, hs⟩ := HW.out.sb
        rcases Nat.lt_or_ge S wl.heap.size with h | h
        · exact h
        · have := hs.bx; rw [Array.getElem?_eq_none h] at this; cases this
      generalize wl.alloc _ = wb at *
      (try rw [hgx] at HBX)
      (try rw [hgx] at hSx)
      (try rw [hgx])
      have HWn := Lib.hid (HW.out.keep HGA.out)
      clear HW hgx HGA
      have HW := HWn
      clear HWn
      obtain ⟨x0, x1, x2⟩ := row3 HBX.out
      go_wp2_with fail
      obtain ⟨pp9, cc9, hs9⟩ := HW.out.sb
      refine (aputI_any (B) (x.a) 3 3 S pp9 cc9 _ hs9 rfl (by decide) (by omega) (by omega) (by omega)).mono ?_
      rintro e w9 ⟨pq9, cq9, rfl, hs, hg⟩
      have HWn := Lib.hid (HW.out.put hs hg)
      have HBX2 := Lib.hid (kept_row HBX.out hg (fun e => by have := Option.some.inj e; omega))
      clear HBX
      have HBX := HBX2
      clear HBX2 x0 x1 x2
      clear hs hg hs9
      clear HW
      have HW := HWn
      clear HWn
      obtain ⟨x0, x1, x2⟩ := row3 HBX.out
      go_wp2_with fail
      obtain ⟨pp10, cc10, hs10⟩ := HW.out.sb
      refine (aputI_any (B ++ nb x.a.toNat 3) (x.b) 9 9 S pp10 cc10 _ hs10 rfl (by decide) (by omega) (by omega) (by simp only [List.length_append, nb_len]; omega)).mono ?_
      rintro e w10 ⟨pq10, cq10, rfl, hs, hg⟩
      have HWn := Lib.hid (HW.out.put hs hg)
      have HBX2 := Lib.hid (kept_row HBX.out hg (fun e => by have := Option.some.inj e; omega))
      clear HBX
      have HBX := HBX2
      clear HBX2 x0 x1 x2
      clear hs hg hs10
      clear HW
      have HW := HWn
      clear HWn
      obtain ⟨x0, x1, x2⟩ := row3 HBX.out
      obtain ⟨y, hy⟩ : ∃ y : Nat, x.c = 8 * (y : Int) := by
        rcases hxb.2.2 with h | h | h | h
        · exact ⟨1, h⟩
        · exact ⟨2, h⟩
        · exact ⟨4, h⟩
        · exact ⟨8, h⟩
      have hy8 : 1 ≤ y ∧ y ≤ 8 := by have := hxb.2.2; omega
      have HF : Hid (fst y = ((codeN x.c : Nat) : Int) ∧ codeN x.c < 4) := Lib.hid ⟨by
        have := code_fst hxb.2.2
        rw [show (x.c / 8).toNat = y by omega] at this
        exact this, by unfold codeN; split <;> (try split) <;> (try split) <;> omega⟩
      have x2' : World.cell? _ ⟨gx, 2, none⟩ = some (.int .i64 (8 * (y : Int))) := x2.trans (by rw [hy])
      have HXC := Lib.hid hy
      have hdv : (8 * (y : Int)).tdiv 8 = (y : Int) := Int.mul_tdiv_cancel_left _ (by decide)
      clear x2 hy
      go_wp2_with fail
      refine (firstp_any y (by unfold U64; omega) _ (HT.out.keep HW.out.gr)).mono ?_
      rintro e w' ⟨rfl, rfl⟩
      rw [HF.out.1]
      go_wp2_with fail
      obtain ⟨pp11, cc11, hs11⟩ := HW.out.sb
      refine (aputI_any (B ++ nb x.a.toNat 3 ++ nb x.b.toNat 9) (((codeN x.c : Nat) : Int)) 2 2 S pp11 cc11 _ hs11 rfl (by decide) (by omega) (by have := HF.out.2; omega) (by simp only [List.length_append, nb_len]; omega)).mono ?_
      rintro e w11 ⟨pq11, cq11, rfl, hs, hg⟩
      have HWn := Lib.hid (HW.out.put hs hg)
      have HBX2 := Lib.hid (kept_row HBX.out hg (fun e => by have := Option.some.inj e; omega))
      clear HBX
      have HBX := HBX2
      clear HBX2 x0 x1 x2'
      clear hs hg hs11
      clear HW
      have HW := HWn
      clear HWn
      have HW2 : Hid (WK w A G R0 S (cmB A (k + 1)) _) := Lib.hid (by rw [HS.out]; have := HW.out; rw [Int.toNat_natCast] at this; exact this)
      clear HW
      go_wp2_with fail
      exact ⟨⟨k + 1, by omega, congrArg _ (by omega), HW2⟩, by simp only [RowKit.intOf]; omega⟩
    · obtain rfl : k = A.C.length := by omega
      obtain ⟨p, c, hs⟩ := HW.out.sb
      have hrb := HW.out.rb
      have hrow := store2 (u := .slice p (pk (cmB A A.C.length)).length c) (z := .int .i64 ((cmB A A.C.length).length : Int)) hrb
      have g9 := grown_store2 wl R0 (.slice p (pk (cmB A A.C.length)).length c) (.int .i64 ((cmB A A.C.length).length : Int))
      have HO : Hid (Rd _ (fun _ => True) (.slice p (pk (cmB A A.C.length)).length c) ((pk (cmB A A.C.length)).map nv) ∧ w.grownBy _ none) := Lib.hid ⟨((rd_off (S := R0) hs.rd hrb).grown g9 (fun b hb e => hb.1 (Option.some.inj e))).mono (fun _ _ => trivial), grown_new HW.out.gr g9 (by have := HW.out.lt; omega)⟩
      have HROW := Lib.hid hrow
      obtain ⟨c0, c1⟩ := row_cells hs.bx
      obtain ⟨d0, d1⟩ := row_cells hrb
      have f0 := frozen_of_row _ _ 0 _ _ hrb
      have f1 := frozen_of_row _ _ 1 _ _ hrb
      clear hs hrow g9 hrb
      go_wp2_with fail
      refine bodyPost_ret (res_stream rfl _ _ R0 _ _ rfl HROW.out) rfl ?_
      exact ⟨p, c, rfl, HO.out⟩
end Go.Proofs.YtpoocenooomghaaDoor

/- advert.Encode. -/
namespace Go.Proofs.YtpoocenooomghaaDoor
open Go.RowKit Bs
/-- The bytes of an advert. -/
def encA (A : Ad) : List Nat := pk (adB A ++ nb (ck (adB A)) 16)
set_option maxRecDepth 100000 in
theorem adB_len (A : Ad) : (adB A).length = 37 + A.L.length * 27 + A.C.length * 14 := by unfold adB; rw [cmB_len, List.take_length]
/-- What Encode returns. -/
def AEncPost (A : Ad) (w : World) (e : Ending) (w' : World) : Prop :=
  (vAd A = true ∧ ∃ g, e = .returned (.tuple #[.slice (some ⟨g, 0, none⟩) (encA A).length (encA A).length, .int .i64 0]) ∧ Blk w' g (encA A) ∧ w.heap.size ≤ g ∧ w.grownBy w' none) ∨
  (vAd A = false ∧ e = .returned (.tuple #[.slice none 0 0, .int .i64 1]) ∧ w.grownBy w' none)
/-- While an advert is encoded. -/
structure AE (W : World) (S : Nat) (B : List Bool) (p : Option Addr) (c : Nat) (w : World) : Prop where
  sb : SB w S B p c
  gr : W.grownBy w none
  lo : W.heap.size ≤ S
set_option maxRecDepth 100000 in
theorem AE.keep {W w w1 : World} {S : Nat} {B : List Bool} {p : Option Addr} {c : Nat} (H : AE W S B p c w) (k : w.grownBy w1 none) : AE W S B p c w1 := ⟨H.sb.keep k, grown_trans H.gr k, H.lo⟩
set_option maxRecDepth 100000 in
theorem AE.lt {W w : World} {S : Nat} {B : List Bool} {p : Option Addr} {c : Nat} (H : AE W S B p c w) : S < w.heap.size := World.lt_of_row' H.sb.bx
set_option maxRecDepth 100000 in
theorem AE.turn {W w : World} {S n : Nat} {B B2 : List Bool} {p : Option Addr} {c : Nat} (H : AE W S B p c w) {p2 : Option Addr} {c2 : Nat} (hn : S < n) (hR : Rd w (n ≤ ·) (.slice p2 (pk B2).length c2) ((pk B2).map nv)) :
    AE W S B2 p2 c2 ((w.setCell ⟨S, 0, none⟩ (.slice p2 (pk B2).length c2)).setCell ⟨S, 1, none⟩ (.int .i64 (B2.length : Int))) := by
  obtain ⟨t1, t2⟩ := store2c (.slice p2 (pk B2).length c2) (.int .i64 (B2.length : Int)) H.sb.bx
  have hlo := H.lo
  exact ⟨⟨t1, (hR.grown t2 (fun b hb e => by have := Option.some.inj e; omega)).mono (fun b hb e => by omega)⟩, grown_new H.gr t2 (by omega), hlo⟩
set_option maxRecDepth 100000 in
theorem AE.facts {W w : World} {S : Nat} {B : List Bool} {p : Option Addr} {c : Nat} (H : AE W S B p c w) : w.cell? ⟨S, 0, none⟩ = some (.slice p (pk B).length c) ∧ w.cell? ⟨S, 1, none⟩ = some (.int .i64 (B.length : Int)) ∧ w.frozen? ⟨S, 0, none⟩ = false ∧ w.frozen? ⟨S, 1, none⟩ = false :=
  ⟨(row_cells H.sb.bx).1, (row_cells H.sb.bx).2, frozen_of_row _ _ _ _ _ H.sb.bx, frozen_of_row _ _ _ _ _ H.sb.bx⟩
set_option maxRecDepth 100000 in
set_option maxHeartbeats 6400000 in
theorem aenc_any (A : Ad) (q : Nat → Prop) (w : World) (hA : AdOk w q A) (hT : Tb w) :
    Calls Tryd.prog 19 #[A.val] w fun e w' => AEncPost A w e w' := by
  have hb := heap_alloc_new w (.cells (adC A) 26)
  have hg := World.grownBy_alloc w (.cells (adC A) 26) none
  have HB := Lib.hid (And.intro hb (And.intro hg (And.intro (hA.keep hg) (hT.keep hg))))
  clear hb hg hA hT
  unfold Ad.val
  go_enter Tryd.func19, Tryd.ntmps19
  go_upto_region 1 with fail
  unfold adC at HB
  generalize w.alloc _ = wa at *
  obtain ⟨c0, c1, c2, c3, c4⟩ := ad_facts (A := A) HB.out.1
  go_wp2_with fail
  refine (avalid_any A q _ HB.out.2.2.1).mono ?_
  rintro e w1 ⟨rfl, hg⟩
  have HB1 := Lib.hid (And.intro (kept_row HB.out.1 hg (by simp)) (And.intro (grown_trans HB.out.2.1 hg) (And.intro (HB.out.2.2.1.keep hg) (HB.out.2.2.2.keep hg))))
  clear hg HB c0 c1 c2 c3 c4
  cases hv : vAd A
  · have HF := Lib.hid hv
    clear hv
    go_wp2_with fail
    go_ret2
    exact .inr ⟨HF.out, rfl, HB1.out.2.1⟩
  have HV := Lib.hid hv
  clear hv
  obtain ⟨c0, c1, c2, c3, c4⟩ := ad_facts (A := A) HB1.out.1
  go_wp2_with fail
  refine (awr_any A q w1 HB1.out.2.2.1 (VA.of HV.out) HB1.out.2.2.2).mono ?_
  rintro e w3 ⟨p, c, rfl, hR, hg⟩
  have k1 := heap_alloc_new w3 (.cells #[.slice p (pk (adB A)).length c, .int .i64 ((adB A).length : Int)] 47)
  have k2 := World.grownBy_alloc w3 (.cells #[.slice p (pk (adB A)).length c, .int .i64 ((adB A).length : Int)] 47) none
  have H3 : Hid (AE w w3.heap.size (adB A) p c (w3.alloc (.cells #[.slice p (pk (adB A)).length c, .int .i64 ((adB A).length : Int)] 47))) :=
    Lib.hid ⟨⟨k1, (hR.bound.mono (fun b hb => Nat.ne_of_lt hb)).keep k2⟩, grown_trans HB1.out.2.1 (grown_trans hg k2), (grown_trans HB1.out.2.1 hg).size⟩
  have HL : Hid ((adB A).length ≤ 800) := Lib.hid (by rw [adB_len]; have := VA.of HV.out; have := this.ll; have := (VA.of HV.out).cl; omega)
  obtain ⟨B0, hB0⟩ : ∃ B, B = adB A := ⟨_, rfl⟩
  rw [← hB0] at H3 HL ⊢
  have HB0 := Lib.hid hB0
  clear hB0 c0 c1 c2 c3 c4 hR hg k1 k2 HB1
  go_upto_region 4 with fail
  generalize w3.alloc _ = w4 at *
  obtain ⟨s0, s1, z0, z1⟩ := H3.out.facts
  go_wp2_with fail
  refine (check_bits (by have := HL.out; omega) H3.out.sb.rd).mono ?_
  rintro e w5 ⟨rfl, hg⟩
  have H5 := Lib.hid (H3.out.keep hg)
  clear s0 s1 z0 z1 hg H3
  obtain ⟨s0, s1, z0, z1⟩ := H5.out.facts
  have hA2 := append_bits (B := B0) (v := ck B0) (k := 16) (by decide) (chk_lt _ _) (by have := HL.out; omega) H5.out.sb.rd
  obtain ⟨B4, hB4⟩ : ∃ B, B = B0 ++ nb (ck B0) 16 := ⟨_, rfl⟩
  rw [← hB4] at hA2
  have HB4 := Lib.hid hB4
  have HA2 := Lib.hid hA2
  have HL4 : Hid (B4.length ≤ 816) := Lib.hid (by rw [hB4, List.length_append, nb_len]; have := HL.out; omega)
  clear hB4 hA2
  go_wp2_with fail
  refine HA2.out.mono ?_
  rintro e wb ⟨p4, c4, rfl, hR4, hp4, hg⟩
  have H11 := Lib.hid (H5.out.keep hg)
  have H12 := Lib.hid (H11.out.turn H5.out.lt hR4)
  clear s0 s1 z0 z1
  obtain ⟨r0, r1, z0, z1⟩ := H11.out.facts
  clear hR4 hp4 hg H5 H11 HA2
  go_upto_region 6 with fail
  generalize (wb.setCell ⟨w3.heap.size, 0, none⟩ (.slice p4 (pk B4).length c4)).setCell ⟨w3.heap.size, 1, none⟩ (.int .i64 (B4.length : Int)) = wd at *
  clear r0 r1 z0 z1
  obtain ⟨s0, s1, z0, z1⟩ := H12.out.facts
  go_wp2_with fail
  refine (alignp_own (pk B4) (B4.length : Int) (pk_vs B4 (by have := HL4.out; omega)) _ p4 c4 (pk_by B4) _ H12.out.sb.rd).mono ?_
  rintro e we ⟨g5, rfl, hR5, hg5, hg⟩
  have HG5 := Lib.hid hg5
  have H13 := Lib.hid (H12.out.keep hg)
  have HLT : Hid (w3.heap.size < wd.heap.size ∧ w.heap.size ≤ wd.heap.size) := Lib.hid ⟨H12.out.lt, H12.out.gr.size⟩
  clear s0 s1 z0 z1
  obtain ⟨r0, r1, z0, z1⟩ := H13.out.facts
  have HR5 := Lib.hid hR5
  obtain ⟨t1, t2⟩ := store2c (.slice (some ⟨g5, 0, none⟩) (pk B4).length (pk B4).length) (.int .i64 (8 * ((pk B4).length : Int))) H13.out.sb.bx
  have HT := Lib.hid (And.intro t1 t2)
  clear hR5 hg hg5 H12 t1 t2
  go_upto_region 7 with fail
  generalize (we.setCell ⟨w3.heap.size, 0, none⟩ _).setCell ⟨w3.heap.size, 1, none⟩ _ = wf at *
  clear r0 r1 z0 z1
  obtain ⟨s0, s1⟩ := row_cells HT.out.1
  go_wp2_with fail
  have hE : encA A = pk B4 := by unfold encA; rw [← HB0.out, ← HB4.out]
  go_ret2
  refine .inl ⟨HV.out, g5, by rw [hE]; rfl, ?_, ?_, ?_⟩
  · rw [hE]; exact HR5.out.grown HT.out.2 (fun e => by have h1 := HLT.out.1; have h2 := HG5.out; have := Option.some.inj e; omega)
  · have := HG5.out; have := HLT.out.2; omega
  · exact grown_new H13.out.gr HT.out.2 (by have := H13.out.lo; omega)
end Go.Proofs.YtpoocenooomghaaDoor

/- advert: the orders of links and of claims. -/
namespace Go.Proofs.YtpoocenooomghaaDoor
open Go.RowKit Bs
def cmp3 (x y : T3) : Int := orV [cmpV x.a y.a, cmpV x.b y.b, cmpV x.c y.c]
set_option maxRecDepth 100000 in
theorem keep6A {t : TypeId} {w5 w' : World} {b g : Nat} {x y : T3} (h : w5.heap[b]? = some (.cells #[.int .i64 x.a, .int .i64 x.b, .int .i64 x.c] t (0, 0)) ∧ w5.heap[g]? = some (.cells #[.int .i64 y.a, .int .i64 y.b, .int .i64 y.c] t (0, 0))) (hg : Hid (w5.grownBy w' none)) :
    w'.cell? ⟨b, 0, none⟩ = some (.int .i64 x.a) ∧ w'.cell? ⟨b, 1, none⟩ = some (.int .i64 x.b) ∧ w'.cell? ⟨b, 2, none⟩ = some (.int .i64 x.c) ∧ w'.cell? ⟨g, 0, none⟩ = some (.int .i64 y.a) ∧ w'.cell? ⟨g, 1, none⟩ = some (.int .i64 y.b) ∧ w'.cell? ⟨g, 2, none⟩ = some (.int .i64 y.c) ∧ Hid (w5.grownBy w' none) := by
  obtain ⟨a0, a1, a2⟩ := row3 (kept_row h.1 hg.out (by simp))
  obtain ⟨b0, b1, b2⟩ := row3 (kept_row h.2 hg.out (by simp))
  exact ⟨a0, a1, a2, b0, b1, b2, hg⟩
set_option maxRecDepth 100000 in
theorem rd_trip (w : World) (x y z : Int) (q : Nat → Prop) (hq : q w.heap.size) : Rd (w.alloc (.cells #[.int .i64 x, .int .i64 y, .int .i64 z] 3)) q (.slice (some ⟨w.heap.size, 0, none⟩) 3 3) ([x, y, z].map (fun z => Value.int .i64 z)) := by
  have hb : (w.alloc (.cells #[.int .i64 x, .int .i64 y, .int .i64 z] 3)).heap[w.heap.size]? = some (.cells #[.int .i64 x, .int .i64 y, .int .i64 z] 3 (0, 0)) := heap_alloc_new w _
  refine ⟨_, 3, rfl, fun _ => ⟨_, _, rfl, hq, fun i u hi => ?_⟩⟩
  rw [Nat.zero_add, cell_of_row _ _ _ _ _ _ hb]
  simpa using hi
set_option maxRecDepth 100000 in
theorem two_boxesA (w : World) (x y : T3) (t : TypeId) :
    (((w.alloc (.cells #[.int .i64 x.a, .int .i64 x.b, .int .i64 x.c] t)).alloc (.cells #[.int .i64 y.a, .int .i64 y.b, .int .i64 y.c] t)).heap[w.heap.size]? = some (.cells #[.int .i64 x.a, .int .i64 x.b, .int .i64 x.c] t (0, 0)) ∧
     ((w.alloc (.cells #[.int .i64 x.a, .int .i64 x.b, .int .i64 x.c] t)).alloc (.cells #[.int .i64 y.a, .int .i64 y.b, .int .i64 y.c] t)).heap[w.heap.size + 1]? = some (.cells #[.int .i64 y.a, .int .i64 y.b, .int .i64 y.c] t (0, 0))) ∧
    w.grownBy ((w.alloc (.cells #[.int .i64 x.a, .int .i64 x.b, .int .i64 x.c] t)).alloc (.cells #[.int .i64 y.a, .int .i64 y.b, .int .i64 y.c] t)) none := by
  have g1 := World.grownBy_alloc w (.cells #[.int .i64 x.a, .int .i64 x.b, .int .i64 x.c] t) none
  have g2 := World.grownBy_alloc (w.alloc (.cells #[.int .i64 x.a, .int .i64 x.b, .int .i64 x.c] t)) (.cells #[.int .i64 y.a, .int .i64 y.b, .int .i64 y.c] t) none
  have b1 := kept_row (heap_alloc_new w (.cells #[.int .i64 x.a, .int .i64 x.b, .int .i64 x.c] t)) g2 (by simp)
  have b2 := heap_alloc_new (w.alloc (.cells #[.int .i64 x.a, .int .i64 x.b, .int .i64 x.c] t)) (.cells #[.int .i64 y.a, .int .i64 y.b, .int .i64 y.c] t)
  have s1 : (w.alloc (.cells #[.int .i64 x.a, .int .i64 x.b, .int .i64 x.c] t)).heap.size = w.heap.size + 1 := by simp
  rw [s1] at b2
  exact ⟨⟨b1, b2⟩, grown_trans g1 g2⟩
set_option maxRecDepth 100000 in
set_option maxHeartbeats 3200000 in
theorem acmpR_any (x y : T3) (w : World) :
    Calls Tryd.prog 79 #[.agg #[.int .i64 x.a, .int .i64 x.b, .int .i64 x.c], .agg #[.int .i64 y.a, .int .i64 y.b, .int .i64 y.c]] w fun e w' => e = .returned (.int .i64 (cmp3 x y)) ∧ w.grownBy w' none := by
  have HZ := Lib.hid (two_boxesA w x y 70)
  have HB := Lib.hid HZ.out.1
  have K := Lib.hid HZ.out.2
  clear HZ
  go_enter Tryd.func79, Tryd.ntmps79
  go_upto_region 1 with fail
  generalize (w.alloc _).alloc _ = wa at *
  have GZ : Hid (wa.grownBy wa none) := Lib.hid (grown_refl _ _)
  obtain ⟨a0, a1, a2, b0, b1, b2, -⟩ := keep6A HB.out GZ
  go_region_held3 (fun w' => w'.cell? ⟨w.heap.size, 0, none⟩ = some (.int .i64 x.a) ∧ w'.cell? ⟨w.heap.size, 1, none⟩ = some (.int .i64 x.b) ∧ w'.cell? ⟨w.heap.size, 2, none⟩ = some (.int .i64 x.c) ∧ w'.cell? ⟨w.heap.size + 1, 0, none⟩ = some (.int .i64 y.a) ∧ w'.cell? ⟨w.heap.size + 1, 1, none⟩ = some (.int .i64 y.b) ∧ w'.cell? ⟨w.heap.size + 1, 2, none⟩ = some (.int .i64 y.c) ∧ Hid (wa.grownBy w' none))
    (first | with_reducible exact keep6A HB.out (hid_drew GZ) | with_reducible exact keep6A HB.out (hid_drew (hid_more GZ (World.grownBy_alloc _ _ _))) | (go_split_ands; with_reducible refine keep6A HB.out ?_; with_reducible assumption) | (go_split_ands; with_reducible refine keep6A HB.out (hid_more ?_ (World.grownBy_alloc _ _ _)); with_reducible assumption))
    (first
      | (go_at_call 76; refine (tcmp_any _ _ _).mono ?_; rintro e w' ⟨rfl, rfl⟩)
      | (go_at_call 75; refine (tor_any [cmpV x.a y.a, cmpV x.b y.b, cmpV x.c y.c] _ _ (fun _ => True) _ ?_ (by simp)).mono ?_; exact (rd_trip _ _ _ _ _ trivial).keep (grown_drew (grown_refl _ _)); rintro e w' ⟨rfl, rfl⟩))
  all_goals
    go_split_ands
    go_wp2_with fail
    go_ret
    exact ⟨rfl, grown_trans K.out (Hid.out (by assumption))⟩
set_option maxRecDepth 100000 in
set_option maxHeartbeats 3200000 in
theorem acmpC_any (x y : T3) (w : World) :
    Calls Tryd.prog 81 #[.agg #[.int .i64 x.a, .int .i64 x.b, .int .i64 x.c], .agg #[.int .i64 y.a, .int .i64 y.b, .int .i64 y.c]] w fun e w' => e = .returned (.int .i64 (cmp3 x y)) ∧ w.grownBy w' none := by
  have HZ := Lib.hid (two_boxesA w x y 73)
  have HB := Lib.hid HZ.out.1
  have K := Lib.hid HZ.out.2
  clear HZ
  go_enter Tryd.func81, Tryd.ntmps81
  go_upto_region 1 with fail
  generalize (w.alloc _).alloc _ = wa at *
  have GZ : Hid (wa.grownBy wa none) := Lib.hid (grown_refl _ _)
  obtain ⟨a0, a1, a2, b0, b1, b2, -⟩ := keep6A HB.out GZ
  go_region_held3 (fun w' => w'.cell? ⟨w.heap.size, 0, none⟩ = some (.int .i64 x.a) ∧ w'.cell? ⟨w.heap.size, 1, none⟩ = some (.int .i64 x.b) ∧ w'.cell? ⟨w.heap.size, 2, none⟩ = some (.int .i64 x.c) ∧ w'.cell? ⟨w.heap.size + 1, 0, none⟩ = some (.int .i64 y.a) ∧ w'.cell? ⟨w.heap.size + 1, 1, none⟩ = some (.int .i64 y.b) ∧ w'.cell? ⟨w.heap.size + 1, 2, none⟩ = some (.int .i64 y.c) ∧ Hid (wa.grownBy w' none))
    (first | with_reducible exact keep6A HB.out (hid_drew GZ) | with_reducible exact keep6A HB.out (hid_drew (hid_more GZ (World.grownBy_alloc _ _ _))) | (go_split_ands; with_reducible refine keep6A HB.out ?_; with_reducible assumption) | (go_split_ands; with_reducible refine keep6A HB.out (hid_more ?_ (World.grownBy_alloc _ _ _)); with_reducible assumption))
    (first
      | (go_at_call 76; refine (tcmp_any _ _ _).mono ?_; rintro e w' ⟨rfl, rfl⟩)
      | (go_at_call 75; refine (tor_any [cmpV x.a y.a, cmpV x.b y.b, cmpV x.c y.c] _ _ (fun _ => True) _ ?_ (by simp)).mono ?_; exact (rd_trip _ _ _ _ _ trivial).keep (grown_drew (grown_refl _ _)); rintro e w' ⟨rfl, rfl⟩))
  all_goals
    go_split_ands
    go_wp2_with fail
    go_ret
    exact ⟨rfl, grown_trans K.out (Hid.out (by assumption))⟩
end Go.Proofs.YtpoocenooomghaaDoor

/- advert: slices.CompareFunc of links and of claims. -/
namespace Go.Proofs.YtpoocenooomghaaDoor
open Go.RowKit Bs
def cfL : List T3 → List T3 → Int
  | [], [] => 0
  | [], _ :: _ => -1
  | _ :: _, [] => 1
  | x :: s, y :: t => if cmp3 x y = 0 then cfL s t else cmp3 x y
set_option maxRecDepth 100000 in
theorem cfL_step {L M : List T3} {k : Nat} {x y : T3} (hx : L[k]? = some x) (hy : M[k]? = some y) : cfL (L.drop k) (M.drop k) = if cmp3 x y = 0 then cfL (L.drop (k + 1)) (M.drop (k + 1)) else cmp3 x y := by
  rw [drop_at hx, drop_at hy, cfL]
set_option maxRecDepth 100000 in
theorem cfL_more {L M : List T3} {k : Nat} {x : T3} (hx : L[k]? = some x) (hy : M.length ≤ k) : cfL (L.drop k) (M.drop k) = 1 := by
  rw [drop_at hx, List.drop_eq_nil_of_le hy, cfL]
set_option maxRecDepth 100000 in
theorem cfL_end {L M : List T3} : cfL (L.drop L.length) (M.drop L.length) = if L.length < M.length then -1 else 0 := by
  rw [List.drop_length]
  by_cases h : L.length < M.length
  · rw [if_pos h, drop_at (List.getElem?_eq_getElem h), cfL]
  · rw [if_neg h, List.drop_eq_nil_of_le (by omega), cfL]
set_option maxRecDepth 100000 in
set_option maxHeartbeats 6400000 in
theorem acfR_any (L M : List T3) (p p2 : Option Addr) (c c2 : Nat) (q q2 : Nat → Prop) (w : World) (hL : Rd3 w q (.slice p L.length c) L) (hM : Rd3 w q2 (.slice p2 M.length c2) M) (hm : L.length ≤ 9223372036854775807) (hm2 : M.length ≤ 9223372036854775807) :
    Calls Tryd.prog 107 #[.slice p L.length c, .slice p2 M.length c2, .func (.func 79) #[] #[]] w fun e w' => e = .returned (.int .i64 (cfL L M)) ∧ w.grownBy w' none := by
  have HR := Lib.hid hL
  have HR2 := Lib.hid hM
  clear hL hM
  obtain ⟨X, hX⟩ : ∃ X, cfL L M = X := ⟨_, rfl⟩
  rw [hX]
  have I0 : Hid (cfL (L.drop 0) (M.drop 0) = X) := Lib.hid hX
  have G0 : Hid (w.grownBy w none) := Lib.hid (grown_refl _ _)
  clear hX
  go_enter Tryd.func107, Tryd.ntmps107
  go_wp2_with fail
  go_loopw [13] (fun a wr => ∃ k : Nat, k ≤ L.length ∧ a = .int .i64 (k : Int) ∧ Hid (cfL (L.drop k) (M.drop k) = X) ∧ Hid (w.grownBy wr none)) (fun a _ => L.length - (RowKit.intOf a).toNat)
  case atStart => exact ⟨0, Nat.zero_le _, rfl, I0, G0⟩
  case round =>
    obtain ⟨w2, rfl⟩ : ∃ w2, w2 = wr := ⟨_, rfl⟩
    obtain ⟨k, hk, rfl, HI, HG⟩ := hrel
    clear I0 G0
    by_cases hlt : k < L.length
    · obtain ⟨-, b, off, rfl, -, hc⟩ := rd3_cells (HR.out.keep HG.out) (by omega)
      obtain ⟨x, hx⟩ : ∃ x, L[k]? = some x := ⟨_, List.getElem?_eq_getElem hlt⟩
      obtain ⟨a0, a1, a2⟩ := hc k x hx
      have HXK := Lib.hid hx
      have HBX := Lib.hid (heap_alloc_new w2 (.cells #[.int .i64 x.a, .int .i64 x.b, .int .i64 x.c] 70))
      have HGA := Lib.hid (World.grownBy_alloc w2 (.cells #[.int .i64 x.a, .int .i64 x.b, .int .i64 x.c] 70) none)
      clear hc hx
      go_upto_region 4 with fail
      clear a0 a1 a2
      generalize w2.alloc _ = w3 at *
      have HG3 := Lib.hid (grown_trans HG.out HGA.out)
      clear HG HGA
      by_cases hl2 : k < M.length
      · have hl2' : ¬ ((M.length : Int) ≤ (k : Int)) := by omega
        obtain ⟨-, b2, off2, rfl, -, hc⟩ := rd3_cells (HR2.out.keep HG3.out) (by omega)
        obtain ⟨y, hy⟩ : ∃ y, M[k]? = some y := ⟨_, List.getElem?_eq_getElem hl2⟩
        obtain ⟨a0, a1, a2⟩ := hc k y hy
        have HS := Lib.hid (HI.out.symm.trans (cfL_step HXK.out hy))
        have HBY := Lib.hid (heap_alloc_new w3 (.cells #[.int .i64 y.a, .int .i64 y.b, .int .i64 y.c] 70))
        have HGB := Lib.hid (World.grownBy_alloc w3 (.cells #[.int .i64 y.a, .int .i64 y.b, .int .i64 y.c] 70) none)
        clear hc hy HI HXK
        go_upto_region 7 with fail
        clear a0 a1 a2
        generalize w3.alloc _ = w4 at *
        have HG4 := Lib.hid (grown_trans HG3.out HGB.out)
        have HBX4 := Lib.hid (kept_row HBX.out HGB.out (by simp))
        clear HG3 HGB HBX
        obtain ⟨d0, d1, d2⟩ := row3 HBX4.out
        obtain ⟨e0, e1, e2⟩ := row3 HBY.out
        go_wp2_with fail
        refine (acmpR_any x y _).mono ?_
        rintro e w5 ⟨rfl, hg⟩
        have HG5 := Lib.hid (grown_trans HG4.out hg)
        clear hg HG4 d0 d1 d2 e0 e1 e2 HBX4 HBY
        obtain ⟨z, hz⟩ : ∃ z, cmp3 x y = z := ⟨_, rfl⟩
        rw [hz] at HS ⊢
        clear hz
        by_cases h0 : z = 0
        · subst h0
          have HI2 : Hid (cfL (L.drop (k + 1)) (M.drop (k + 1)) = X) := Lib.hid (by rw [HS.out, if_pos rfl])
          clear HS
          go_wp2_with fail
          exact ⟨⟨k + 1, by omega, congrArg _ (by omega), HI2, HG5⟩, by simp only [RowKit.intOf]; omega⟩
        · have hX : X = z := by rw [HS.out, if_neg h0]
          have h0' : (z == 0) = false := by simpa using h0
          subst hX
          clear h0 HS
          go_wp2_with fail
          go_ret
          exact ⟨rfl, HG5.out⟩
      · have hl2' : (M.length : Int) ≤ (k : Int) := by omega
        have hX : X = 1 := by rw [← HI.out, cfL_more HXK.out (by omega)]
        subst hX
        go_wp2_with fail
        go_ret
        exact ⟨rfl, HG3.out⟩
    · obtain rfl : k = L.length := by omega
      have HE := Lib.hid (HI.out.symm.trans cfL_end)
      by_cases h : L.length < M.length
      · have h' : (L.length : Int) < (M.length : Int) := by omega
        have hX : X = -1 := by rw [HE.out, if_pos h]
        subst hX
        go_wp2_with fail
        go_ret
        exact ⟨rfl, HG.out⟩
      · have h' : ¬ (L.length : Int) < (M.length : Int) := by omega
        have hX : X = 0 := by rw [HE.out, if_neg h]
        subst hX
        go_wp2_with fail
        go_ret
        exact ⟨rfl, HG.out⟩
set_option maxRecDepth 100000 in
set_option maxHeartbeats 6400000 in
theorem acfC_any (L M : List T3) (p p2 : Option Addr) (c c2 : Nat) (q q2 : Nat → Prop) (w : World) (hL : Rd3 w q (.slice p L.length c) L) (hM : Rd3 w q2 (.slice p2 M.length c2) M) (hm : L.length ≤ 9223372036854775807) (hm2 : M.length ≤ 9223372036854775807) :
    Calls Tryd.prog 108 #[.slice p L.length c, .slice p2 M.length c2, .func (.func 81) #[] #[]] w fun e w' => e = .returned (.int .i64 (cfL L M)) ∧ w.grownBy w' none := by
  have HR := Lib.hid hL
  have HR2 := Lib.hid hM
  clear hL hM
  obtain ⟨X, hX⟩ : ∃ X, cfL L M = X := ⟨_, rfl⟩
  rw [hX]
  have I0 : Hid (cfL (L.drop 0) (M.drop 0) = X) := Lib.hid hX
  have G0 : Hid (w.grownBy w none) := Lib.hid (grown_refl _ _)
  clear hX
  go_enter Tryd.func108, Tryd.ntmps108
  go_wp2_with fail
  go_loopw [13] (fun a wr => ∃ k : Nat, k ≤ L.length ∧ a = .int .i64 (k : Int) ∧ Hid (cfL (L.drop k) (M.drop k) = X) ∧ Hid (w.grownBy wr none)) (fun a _ => L.length - (RowKit.intOf a).toNat)
  case atStart => exact ⟨0, Nat.zero_le _, rfl, I0, G0⟩
  case round =>
    obtain ⟨w2, rfl⟩ : ∃ w2, w2 = wr := ⟨_, rfl⟩
    obtain ⟨k, hk, rfl, HI, HG⟩ := hrel
    clear I0 G0
    by_cases hlt : k < L.length
    · obtain ⟨-, b, off, rfl, -, hc⟩ := rd3_cells (HR.out.keep HG.out) (by omega)
      obtain ⟨x, hx⟩ : ∃ x, L[k]? = some x := ⟨_, List.getElem?_eq_getElem hlt⟩
      obtain ⟨a0, a1, a2⟩ := hc k x hx
      have HXK := Lib.hid hx
      have HBX := Lib.hid (heap_alloc_new w2 (.cells #[.int .i64 x.a, .int .i64 x.b, .int .i64 x.c] 73))
      have HGA := Lib.hid (World.grownBy_alloc w2 (.cells #[.int .i64 x.a, .int .i64 x.b, .int .i64 x.c] 73) none)
      clear hc hx
      go_upto_region 4 with fail
      clear a0 a1 a2
      generalize w2.alloc _ = w3 at *
      have HG3 := Lib.hid (grown_trans HG.out HGA.out)
      clear HG HGA
      by_cases hl2 : k < M.length
      · have hl2' : ¬ ((M.length : Int) ≤ (k : Int)) := by omega
        obtain ⟨-, b2, off2, rfl, -, hc⟩ := rd3_cells (HR2.out.keep HG3.out) (by omega)
        obtain ⟨y, hy⟩ : ∃ y, M[k]? = some y := ⟨_, List.getElem?_eq_getElem hl2⟩
        obtain ⟨a0, a1, a2⟩ := hc k y hy
        have HS := Lib.hid (HI.out.symm.trans (cfL_step HXK.out hy))
        have HBY := Lib.hid (heap_alloc_new w3 (.cells #[.int .i64 y.a, .int .i64 y.b, .int .i64 y.c] 73))
        have HGB := Lib.hid (World.grownBy_alloc w3 (.cells #[.int .i64 y.a, .int .i64 y.b, .int .i64 y.c] 73) none)
        clear hc hy HI HXK
        go_upto_region 7 with fail
        clear a0 a1 a2
        generalize w3.alloc _ = w4 at *
        have HG4 := Lib.hid (grown_trans HG3.out HGB.out)
        have HBX4 := Lib.hid (kept_row HBX.out HGB.out (by simp))
        clear HG3 HGB HBX
        obtain ⟨d0, d1, d2⟩ := row3 HBX4.out
        obtain ⟨e0, e1, e2⟩ := row3 HBY.out
        go_wp2_with fail
        refine (acmpC_any x y _).mono ?_
        rintro e w5 ⟨rfl, hg⟩
        have HG5 := Lib.hid (grown_trans HG4.out hg)
        clear hg HG4 d0 d1 d2 e0 e1 e2 HBX4 HBY
        obtain ⟨z, hz⟩ : ∃ z, cmp3 x y = z := ⟨_, rfl⟩
        rw [hz] at HS ⊢
        clear hz
        by_cases h0 : z = 0
        · subst h0
          have HI2 : Hid (cfL (L.drop (k + 1)) (M.drop (k + 1)) = X) := Lib.hid (by rw [HS.out, if_pos rfl])
          clear HS
          go_wp2_with fail
          exact ⟨⟨k + 1, by omega, congrArg _ (by omega), HI2, HG5⟩, by simp only [RowKit.intOf]; omega⟩
        · have hX : X = z := by rw [HS.out, if_neg h0]
          have h0' : (z == 0) = false := by simpa using h0
          subst hX
          clear h0 HS
          go_wp2_with fail
          go_ret
          exact ⟨rfl, HG5.out⟩
      · have hl2' : (M.length : Int) ≤ (k : Int) := by omega
        have hX : X = 1 := by rw [← HI.out, cfL_more HXK.out (by omega)]
        subst hX
        go_wp2_with fail
        go_ret
        exact ⟨rfl, HG3.out⟩
    · obtain rfl : k = L.length := by omega
      have HE := Lib.hid (HI.out.symm.trans cfL_end)
      by_cases h : L.length < M.length
      · have h' : (L.length : Int) < (M.length : Int) := by omega
        have hX : X = -1 := by rw [HE.out, if_pos h]
        subst hX
        go_wp2_with fail
        go_ret
        exact ⟨rfl, HG.out⟩
      · have h' : ¬ (L.length : Int) < (M.length : Int) := by omega
        have hX : X = 0 := by rw [HE.out, if_neg h]
        subst hX
        go_wp2_with fail
        go_ret
        exact ⟨rfl, HG.out⟩
end Go.Proofs.YtpoocenooomghaaDoor

/- advert: compareLists, compare. -/
namespace Go.Proofs.YtpoocenooomghaaDoor
open Go.RowKit Bs
def cLs (L M : List T3) : Int := orV [cmpV (L.length : Int) (M.length : Int), cfL L M]
set_option maxRecDepth 100000 in
set_option maxHeartbeats 3200000 in
theorem aclR_any (L M : List T3) (p p2 : Option Addr) (c c2 : Nat) (q q2 : Nat → Prop) (w : World) (hL : Rd3 w q (.slice p L.length c) L) (hM : Rd3 w q2 (.slice p2 M.length c2) M) (hm : L.length ≤ 9223372036854775807) (hm2 : M.length ≤ 9223372036854775807) :
    Calls Tryd.prog 78 #[.slice p L.length c, .slice p2 M.length c2, .func (.func 79) #[] #[]] w fun e w' => e = .returned (.int .i64 (cLs L M)) ∧ w.grownBy w' none := by
  have HR := Lib.hid (And.intro hL hM)
  clear hL hM
  go_enter Tryd.func78, Tryd.ntmps78
  go_wp2_with fail
  refine (tcmp_any _ _ _).mono ?_
  rintro e w' ⟨rfl, rfl⟩
  go_wp2_with fail
  refine (acfR_any L M p p2 c c2 q q2 _ HR.out.1 HR.out.2 hm hm2).mono ?_
  rintro e w1 ⟨rfl, hg⟩
  have HG := Lib.hid hg
  clear hg HR
  go_wp2_with fail
  refine (tor_any [cmpV (L.length : Int) (M.length : Int), cfL L M] _ _ (fun _ => True) _ (rd_pair _ _ _ _ trivial) (by simp)).mono ?_
  rintro e w' ⟨rfl, rfl⟩
  go_wp2_with fail
  go_ret
  exact ⟨rfl, grown_trans HG.out (World.grownBy_alloc _ _ _)⟩
set_option maxRecDepth 100000 in
set_option maxHeartbeats 3200000 in
theorem aclC_any (L M : List T3) (p p2 : Option Addr) (c c2 : Nat) (q q2 : Nat → Prop) (w : World) (hL : Rd3 w q (.slice p L.length c) L) (hM : Rd3 w q2 (.slice p2 M.length c2) M) (hm : L.length ≤ 9223372036854775807) (hm2 : M.length ≤ 9223372036854775807) :
    Calls Tryd.prog 80 #[.slice p L.length c, .slice p2 M.length c2, .func (.func 81) #[] #[]] w fun e w' => e = .returned (.int .i64 (cLs L M)) ∧ w.grownBy w' none := by
  have HR := Lib.hid (And.intro hL hM)
  clear hL hM
  go_enter Tryd.func80, Tryd.ntmps80
  go_wp2_with fail
  refine (tcmp_any _ _ _).mono ?_
  rintro e w' ⟨rfl, rfl⟩
  go_wp2_with fail
  refine (acfC_any L M p p2 c c2 q q2 _ HR.out.1 HR.out.2 hm hm2).mono ?_
  rintro e w1 ⟨rfl, hg⟩
  have HG := Lib.hid hg
  clear hg HR
  go_wp2_with fail
  refine (tor_any [cmpV (L.length : Int) (M.length : Int), cfL L M] _ _ (fun _ => True) _ (rd_pair _ _ _ _ trivial) (by simp)).mono ?_
  rintro e w' ⟨rfl, rfl⟩
  go_wp2_with fail
  go_ret
  exact ⟨rfl, grown_trans HG.out (World.grownBy_alloc _ _ _)⟩
end Go.Proofs.YtpoocenooomghaaDoor
